import PyProof.Rows.All
import Wide.All
import OpenK.AllK
import Wide.FinOn
import Lean
import PyProof.EqAt
import PyProof.EqKinds
import PyProof.TupleCall
import KE.IntBitsLaws
import PyProof.ZipIter
import PyProof.ListMulRoad
import PyProof.AutoListH
import PyProof.Rows.SeqMore
import PyProof.Rows.SumAny
import PyProof.SliceStr2
import PyProof.WalksMore
import KE.KSortTup
import PyProof.AttrMissHeap
import PyProof.TupleIter
import KE.KDictOf
import PyProof.DictWalks
import PyProof.DictValues
import KE.KDictList
import PyProof.Rows.MinMaxN
import PyProof.Rows.TupDisplay
import PyProof.DictTruth
import PyProof.Rows.SortRev
import PyProof.Rows.CallKwBuiltin
import PyProof.EnumMake
import PyProof.Rows.StrJoin2
import PyProof.StrBlockG
import PyProof.Rows.Digits
import PyProof.Rows.StrOr
import PyProof.StrCalls2
import PyProof.StrBlock2
import KE.KIntText
import KE.KRevIter
import KE.LcSums
import PyProof.StationsW
import PyProof.Rows.CatchBare
import OpenK.KRaise
import KE.KIsAll
import OpenK.KOwn
import PyProof.ExcInit
import KE.KEqDict
import PySem.Challenge.RW_earlystop_k75_together_and_worst
set_option Elab.async false
set_option linter.all false
set_option maxHeartbeats 0
set_option maxRecDepth 100000
theorem Oo{p:Prop}(h:p:=by omega):p:=h
theorem yd{p:Prop}(h:p:=by decide):p:=h
theorem Kk{p:Prop}(h:p:=by decide +kernel):p:=h
namespace PySem
abbrev aA:=@List.length_map
abbrev aB:=@List.getElem?_eq_getElem
abbrev aC:=@Heap.get?_push_of_some
abbrev aF:=@Nat.le_refl
abbrev aH:=@List.getElem?_eq_some_iff
abbrev aI:=@List.getElem?_map
abbrev aK:=@List.mem_cons_of_mem
abbrev aM:=@List.mem_of_getElem?
abbrev aO:=@List.mem_cons_self
abbrev aP:=@List.mem_map
abbrev aS:=@Heap.get?_push_size
abbrev aU:=@List.size_toArray
abbrev aV:=@Heap.lt_size
abbrev aX:=@Nat.lt_of_lt_of_le
abbrev aZ:=@Nat.le_trans
abbrev bB:=@Nat.pow_le_pow_right
abbrev bC:=@List.length_append
abbrev bD:=@Bool.false_ne_true
abbrev bE:=@List.mem_cons
abbrev bG:=@List.take_length
abbrev bH:=@List.mem_append_right
abbrev bI:=@List.map_cons
abbrev bJ:=@Nat.lt_of_le_of_lt
abbrev bN:=@List.map_append
abbrev bO:=@List.getD_eq_getElem?_getD
abbrev bP:=@List.length_take
abbrev bR:=@List.mem_singleton
abbrev bU:=@Classical.byContradiction
abbrev bZ:=@List.mem_append_left
abbrev cC:=@Nat.mul_le_mul_right
abbrev cE:=@Nat.lt_irrefl
abbrev cI:=@List.mem_iff_getElem?
abbrev cM:=@Nat.zero_le
abbrev cN:=@Bool.and_eq_true
abbrev cO:=@Option.some.inj
abbrev cR:=@List.getElem?_range
abbrev cU:=@List.mem_range
abbrev cV:=@List.length_range
abbrev cY:=@List.length_replicate
abbrev cZ:=@List.map_congr_left
abbrev dD:=@Nat.ne_of_lt
abbrev dF:=@decide_eq_false
abbrev dG:=@List.length_cons
abbrev dI:=@List.getElem?_eq_none
abbrev dP:=@List.mem_append
abbrev dW:=@Nat.mul_le_mul_left
abbrev eA:=@decide_eq_true
abbrev fC:=@Rat.mul_nonneg
abbrev fN:=@Option.map_eq_some_iff
abbrev fU:=@Int.natAbs_mul
abbrev fY:=@List.take_add_one
abbrev kQ:=@Heap.size_push
end PySem
open PySem
namespace L2
open PySem PySem.Spec PyProof.Rows
abbrev eG:=Sum Int Str
def vR:eG->Value->Bool
 | .inl k,v=>Value.isInt k v
 | .inr x,v=>Value.isStrOf x v
def aAL(w:World):eG->Int
 | .inl k=>hashInt k
 | .inr x=>hashStr w x
theorem fJ:∀{k:eG}{v:Value},vR k v=true->(∃i t,k=Sum.inl i/\v=Value.int i t)\/(∃x t,k=Sum.inr x/\v=Value.str x t)
 | .inl i,v,h=>by
  obtain ⟨t,e⟩:=Value.isInt_shape (k:=i) (v:=v) h;exact .inl ⟨i,t,rfl,e⟩
 | .inr x,v,h=>by
  obtain ⟨t,e⟩:=Value.isStrOf_shape (x:=x) (v:=v) h;exact .inr ⟨x,t,rfl,e⟩
theorem GQ(i:Int)(t:Tok):vR (.inl i) (.int i t)=true:=by simp [vR,Value.isInt]
theorem GP(x:Str)(t:Tok):vR (.inr x) (.str x t)=true:=by simp [vR,Value.isStrOf]
theorem VC(a b:Int):decide ((Sum.inl a:eG)=Sum.inl b)=(a == b):=by
 by_cases e:a=b
 ·subst e;simp
 ·have h:¬(Sum.inl a:eG)=Sum.inl b:=λq=>e (Sum.inl.inj q);rw [dF h];exact (beq_eq_false_iff_ne.mpr e).symm
theorem UZ(a b:Str):decide ((Sum.inr a:eG)=Sum.inr b)=decide (a=b):=by
 by_cases e:a=b
 ·subst e;simp
 ·have h:¬(Sum.inr a:eG)=Sum.inr b:=λq=>e (Sum.inr.inj q);rw [dF h,dF e]
theorem VB(a:Int)(b:Str):decide ((Sum.inl a:eG)=Sum.inr b)=false:=dF (λq=>nomatch q)
theorem VA(a:Str)(b:Int):decide ((Sum.inr a:eG)=Sum.inl b)=false:=dF (λq=>nomatch q)
def eB(prog:Program)(w:World):PySem.KeyKind prog w eG where
 is:=vR
 hash:=aAL w
 inj:=λv a b ha hb=>by
  rcases fJ ha with ⟨i,t,rfl,rfl⟩ | ⟨x,t,rfl,rfl⟩
  ·rcases fJ hb with ⟨j,u,rfl,e⟩ | ⟨y,u,rfl,e⟩
   ·injection e with e1 _;rw [e1]
   ·exact nomatch e
  ·rcases fJ hb with ⟨j,u,rfl,e⟩ | ⟨y,u,rfl,e⟩
   ·exact nomatch e
   ·injection e with e1 _;rw [e1]
 byValue:=λk v h=>by
  rcases fJ h with ⟨i,t,rfl,rfl⟩ | ⟨x,t,rfl,rfl⟩ <;> rfl
 pyHash:=λhv h=>by
  rcases fJ hv with ⟨i,t,rfl,rfl⟩ | ⟨x,t,rfl,rfl⟩
  ·exact wpAny_pyHash_int h
  ·exact wpAny_pyHash_str h
 eqBool:=λhu hv h=>by
  rcases fJ hu with ⟨i,t,rfl,rfl⟩ | ⟨x,t,rfl,rfl⟩
  ·rcases fJ hv with ⟨j,u,rfl,rfl⟩ | ⟨y,u,rfl,rfl⟩
   ·rw [VC] at h;exact wpAny_eqBool_int h
   ·rw [VB] at h;exact SeqAt.EqAt.int_str i t y u _ _ _ _ h
  ·rcases fJ hv with ⟨j,u,rfl,rfl⟩ | ⟨y,u,rfl,rfl⟩
   ·rw [VA] at h;exact SeqAt.EqAt.str_int x t j u _ _ _ _ h
   ·rw [UZ] at h;exact wpAny_eqBool_str h
 «strs» := λk x t v h=>by
  rcases fJ h with ⟨i,u,rfl,e⟩ | ⟨y,u,rfl,e⟩
  ·exact nomatch e
  ·injection e with e1 _;subst e1;cases v <;> rfl
theorem zO(prog:Program)(w:World)(i:Int)(t:Tok):(eB prog w).is (.inl i) (.int i t)=true:=GQ i t
theorem zN(prog:Program)(w:World)(x:Str)(t:Tok):(eB prog w).is (.inr x) (.str x t)=true:=GP x t
inductive V where
 | non | bl (b:Bool) | int (i:Int) | str (x:Str) | byt (b:Array UInt8) | flt (b:UInt64) | ref (a:Addr) | ty (n:String)
 deriving DecidableEq
def dE:V->Value->Prop
 | .non,u=>u=Value.none
 | .bl b,u=>u=Value.bool b
 | .int i,u=>∃t,u=Value.int i t
 | .str x,u=>∃t,u=Value.str x t
 | .byt b,u=>∃t,u=Value.bytes b t
 | .flt b,u=>∃t,u=Value.float b t
 | .ref a,u=>u=Value.ref a
 | .ty n,u=>u=Value.type n
abbrev dA:List V->List Value->Prop:=Paired dE
theorem dA.length{xs:List V}{us:List Value}(r:dA xs us):xs.length=us.length:=Paired.length r
theorem dA.get:∀{xs:List V}{us:List Value}{i:Nat}{x:V},dA xs us->xs[i]?=some x->∃u,us[i]?=some u/\dE x u
 | _,_,_,_,.nil,e=>by simp at e
 | _,_,0,_,.cons r _,e=>by simp at e;subst e;exact ⟨_,rfl,r⟩
 | _,_,i+1,x,.cons _ t,e=>by
  obtain ⟨u,h1,h2⟩:=dA.get (i:=i) (x:=x) t (by simpa using e);exact ⟨u,by simpa using h1,h2⟩
theorem dA.set{x:V}{u:Value}(r:dE x u):∀{xs:List V}{us:List Value}(i:Nat),dA xs us->dA (xs.set i x) (us.set i u)
 | _,_,_,.nil=>.nil
 | _,_,0,.cons _ t=>.cons r t
 | _,_,i+1,.cons q t=>.cons q (dA.set r i t)
theorem dA.append:∀{xs ys:List V}{us ws:List Value},dA xs us->dA ys ws->dA (xs++ys) (us++ws)
 | _,_,_,_,.nil,s=>s
 | _,_,_,_,.cons r t,s=>.cons r (dA.append t s)
theorem dA.take:∀{xs:List V}{us:List Value}(n:Nat),dA xs us->dA (xs.take n) (us.take n)
 | _,_,0,_=>.nil
 | _,_,_+1,.nil=>.nil
 | _,_,n+1,.cons r t=>.cons r (dA.take n t)
theorem dA.drop:∀{xs:List V}{us:List Value}(n:Nat),dA xs us->dA (xs.drop n) (us.drop n)
 | _,_,0,r=>r
 | _,_,_+1,.nil=>.nil
 | _,_,n+1,.cons _ t=>dA.drop n t
def rT:Option V->Option Value->Prop
 | some v,some u=>dE v u
 | none,none=>True
 | _,_=>False
def KV{κ:Type}:List (κ × V)->List (κ × Value)->Prop:=Paired λ(p:κ × V) (q:κ × Value)=>p.1=q.1/\dE p.2 q.2
def kV:eG->V
 | .inl i=>.int i
 | .inr x=>.str x
inductive HO where
 /-- a list -/
 | lst (xs:List V)
 /-- a tuple (never changes) -/
 | tup (xs:List V)
 /-- a dict whose keys are ints and texts;one whose keys are tuples of ints and texts (the empty one is both) -/
 | dK (kvs:List (eG × V)) | dT (kvs:List (List eG × V))
 /-- a set of ints: its members,its size -/
 | set (S:Int->Bool) (n:Nat)
 /-- an instance of the class at C,its dict at dx,its attributes -/
 | ins (C dx:Addr) (fs:List (Str × V))
 /-- the dict of the instance at x -/
 | own (x:Addr)
 /-- the dict of an exception -/
 | xd (fs:List (Str × V))
 /-- a bound method,f of x -/
 | met (f x:Addr)
 /-- a range object lo,lo+1,.. below hi -/
 | rng (lo hi:Int)
 /-- a thing that is known to the object (the script;a dict while a loop walks it): read,never written while it is so -/
 | frz (o:Obj) (u:HO)
 /-- a code object's table -/
 | tbl (ps:Array Value)
 /-- any other thing,by what is true of its one object (a def of one's own: SetO a S n:=HO.ext λh=>..) -/
 | ext (φ:Heap->Prop)
abbrev Hp:=Addr->Option HO
def upd(H:Hp)(a:Addr)(o:HO):Hp:=λb=>if b=a then some o else H b
theorem bK{H:Hp}{a:Addr}{o:HO}:upd H a o a=some o:=by unfold upd;rw [if_pos rfl]
theorem cS{H:Hp}{a b:Addr}{o:HO}(h:b≠a):upd H a o b=H b:=by unfold upd;rw [if_neg h]
theorem DD{H:Hp}{a:Addr}{o u:HO}:upd (upd H a o) a u=upd H a u:=by
 funext b;unfold upd;split <;> rfl
theorem vP{H:Hp}{a b:Addr}{o u:HO}(h:H a=some o)(h':H b=some u)(d:o≠u):a≠b:=by
 intro e;subst e;rw [h] at h';exact d (cO h')
theorem cL{H:Hp}{a b:Addr}{o:HO}(h:H a=some o)(h':H b=none):a≠b:=by
 intro e;subst e;rw [h] at h';cases h'
section
variable(P:Program)(w:World)
def dY(H:Hp)(h:Heap)(a:Addr):HO->Prop
 | .lst xs=>xs.length<=sizeLine/\∃(its:List Value) (n:Nat),dA xs its/\h.get? a=some { cls:=.type "list",data:=.seq its.toArray n }
 | .tup xs=>(xs.length<=sizeLine/\∃o,h.get? a=some o/\o.dict=none)/\∃its:List Value,dA xs its/\IsTup h a its.toArray
 | .dK kvs=>kvs.length<=sizeLine/\(a == sysModules)=false/\∃vs,KV kvs vs/\h.DictOf (eB P w) a vs
 | .dT kvs=>kvs.length<=sizeLine/\(a == sysModules)=false/\∃xs:List (List eG × Addr × Value),
   Paired (λ(p:List eG × V) (q:List eG × Addr × Value)=>p.1=q.1/\H q.2.1=some (.tup (p.1.map kV))/\dE p.2 q.2.2) kvs xs /\
   ∃o es ep,h.get? a=some o/\o.ExactDict/\o.data=.dict es ep/\es.toList=xs.map (entryOfKey (tupleKind (eB P w)))/\(xs.map (·.1)).Nodup
 | .set S n=>h.SetOf (intKind P w) a S n
 | .ins C dx fs=>H dx=some (.own a)/\fs.length<=1000/\dx≠a/\h.get? a=some (PySem.W.instObj C dx) /\
   ∃mA,h.Ns1 dx mA/\(∀f,rT (fs.lookup f) (mA f))/\PySem.Within mA (fs.map (·.1))
 | .own _=>∃o,h.get? a=some o
 | .xd fs=>∃mA,h.Ns1 a mA/\∀f,rT (fs.lookup f) (mA f)
 | .rng lo hi=>∃t u v,h.get? a=some { cls:=.type "range",data:=.fields #[.int lo t,.int hi u,.int 1 v] }
 | .frz o u=>h.get? a=some o/\dY H h a u
 | .tbl ps=>h.get? a=some { cls:=.none,data:=.fields ps }
 | .met f x=>h.get? a=some (PySem.W.methodObj (.ref f) (.ref x))
 | .ext φ=>φ h/\(∃o,h.get? a=some o)/\∀h1 h2:Heap,φ h1->(∀o,h1.get? a=some o->h2.get? a=some o)->φ h2
def mK(H:Hp)(h:Heap):Prop:=∀a o,H a=some o->dY P w H h a o
end
section
variable{P:Program}{w:World}{H H':Hp}{h h':Heap}{a:Addr}{o:HO}
theorem dY.lt(x:dY P w H h a o):a<h.objs.size:=by
 cases o with
 | lst xs=>obtain ⟨_,_,_,_,e⟩:=x;exact aV e
 | tup xs=>obtain ⟨_,_,_,p⟩:=x;exact p.lt
 | dK kvs=>obtain ⟨_,_,_,_,o,_,_,e,_⟩:=x;exact aV e
 | dT kvs=>obtain ⟨_,_,_,_,o,_,_,e,_⟩:=x;exact aV e
 | set S n=>obtain ⟨o,_,_,_,e,_⟩:=x;exact aV e
 | ins C dx fs=>obtain ⟨_,_,_,e,_⟩:=x;exact aV e
 | own y=>obtain ⟨_,e⟩:=x;exact aV e
 | xd fs=>obtain ⟨_,⟨_,_,_,e,_⟩,_⟩:=x;exact aV e
 | rng lo hi=>obtain ⟨_,_,_,e⟩:=x;exact aV e
 | frz ob u=>obtain ⟨e,_⟩:=x;exact aV e
 | tbl ps=>exact aV (show h.get? a=some _ from x)
 | met f y=>exact aV (show h.get? a=some _ from x)
 | ext φ=>obtain ⟨_,⟨_,e⟩,_⟩:=x;exact aV e
theorem Paired.mapP{α β:Type}{F G:α->β->Prop}:∀{l₁:List α}{l₂:List β},Paired F l₁ l₂->(∀a b,F a b->G a b)->Paired G l₁ l₂
 | _,_,.nil,_=>.nil
 | _,_,.cons r t,f=>.cons (f _ _ r) (Paired.mapP t f)
theorem Paired.imp'{α β:Type}{F G:α->β->Prop}(f:∀a b,F a b->G a b){l₁:List α}{l₂:List β}(r:Paired F l₁ l₂):Paired G l₁ l₂:=Paired.mapP r f
theorem dY.stay(x:dY P w H h a o)(k:∀b u,(b=a\/H b=some (.own a))->h.get? b=some u->h'.get? b=some u)
  (ho:∀b,H b=some (.own a)->H' b=some (.own a)) (ht:∀b xs,H b=some (.tup xs)->H' b=some (.tup xs)):dY P w H' h' a o:=by
 induction o with
 | lst xs=>obtain ⟨z,its,n,r,e⟩:=x;exact ⟨z,its,n,r,k _ _ (.inl rfl) e⟩
 | tup xs=>obtain ⟨⟨z,on,en,dn⟩,its,r,ob,e,c⟩:=x;exact ⟨⟨z,on,k _ _ (.inl rfl) en,dn⟩,its,r,ob,k _ _ (.inl rfl) e,c⟩
 | dK kvs=>obtain ⟨z,y,vs,r,ob,es,ep,e,c⟩:=x;exact ⟨z,y,vs,r,ob,es,ep,k _ _ (.inl rfl) e,c⟩
 | dT kvs =>
  obtain ⟨z,y,xs,r,ob,es,ep,e,c⟩:=x;exact ⟨z,y,xs,Paired.mapP r λp q z=>⟨z.1,ht _ _ z.2.1,z.2.2⟩,ob,es,ep,k _ _ (.inl rfl) e,c⟩
 | set S n=>obtain ⟨ob,es,ep,t,e,c⟩:=x;exact ⟨ob,es,ep,t,k _ _ (.inl rfl) e,c⟩
 | ins C dx fs =>
  obtain ⟨d,z,ne,e,mA,⟨od,es,ep,e2,c⟩,r⟩:=x;exact ⟨ho _ d,z,ne,k _ _ (.inl rfl) e,mA,⟨od,es,ep,k _ _ (.inr d) e2,c⟩,r⟩
 | own y=>obtain ⟨ob,e⟩:=x;exact ⟨ob,k _ _ (.inl rfl) e⟩
 | xd fs=>obtain ⟨mA,⟨od,es,ep,e,c⟩,r⟩:=x;exact ⟨mA,⟨od,es,ep,k _ _ (.inl rfl) e,c⟩,r⟩
 | rng lo hi=>obtain ⟨t,u,v,e⟩:=x;exact ⟨t,u,v,k _ _ (.inl rfl) e⟩
 | frz ob u ih=>obtain ⟨e,q⟩:=x;exact ⟨k _ _ (.inl rfl) e,ih q⟩
 | tbl ps =>
  have e:h.get? a=some { cls:=.none,data:=.fields ps }:=x;show h'.get? a=some { cls:=.none,data:=.fields ps };exact k a _ (.inl rfl) e
 | met f y =>
  have e:h.get? a=some (PySem.W.methodObj (.ref f) (.ref y)):=x;show h'.get? a=some (PySem.W.methodObj (.ref f) (.ref y));exact k a _ (.inl rfl) e
 | ext φ=>obtain ⟨p,⟨o,e⟩,st⟩:=x;exact ⟨st _ _ p λo q=>k _ _ (.inl rfl) q,⟨o,k _ _ (.inl rfl) e⟩,st⟩
theorem mK.lt(x:mK P w H h)(e:H a=some o):a<h.objs.size:=(x a o e).lt
theorem mK.fresh(x:mK P w H h)(e:h.objs.size<=a):H a=none:=by
 cases q:H a with
 | none=>rfl
 | some u=>exact absurd (aX (x.lt q) e) (cE _)
theorem mK.kept(x:mK P w H h)(k:∀b u,h.get? b=some u->h'.get? b=some u):mK P w H h':=λa o e =>
 (x a o e).stay (λb u _ q=>k b u q) (λ_ q=>q) λ_ _ q=>q
theorem mK.laid(x:mK P w H h)(k:∀b u,h.get? b=some u->h'.get? b=some u)(hp:h.objs.size<=a)(new:dY P w (upd H a o) h' a o):mK P w (upd H a o) h':=λb u e=>by
 have hn:=x.fresh hp;by_cases hb:b=a
 ·subst hb;rw [bK] at e;cases e;exact new
 ·rw [cS hb] at e;exact (x b u e).stay (λc v _ q=>k c v q) (λc q=>by rw [cS (cL q hn)];exact q) λc xs q=>by rw [cS (cL q hn)];exact q
end
def Rd(H:Hp)(a:Addr)(u:HO):Prop:=H a=some u\/∃o,H a=some (.frz o u)
theorem Rd.ok{P:Program}{w:World}{H:Hp}{h:Heap}{a:Addr}{u:HO}(r:Rd H a u)(x:mK P w H h):dY P w H h a u:=by
 rcases r with r | ⟨o,r⟩
 ·exact x a u r
 ·obtain ⟨_,q⟩:=x a _ r;exact q
def YO:Option HO->Prop
 | some (.lst _)=>True
 | some (.dK _)=>True
 | some (.dT _)=>True
 | some (.set _ _)=>True
 | some (.ins _ _ _)=>True
 | some (.ext _)=>True
 | _=>False
section
variable{P:Program}{w:World}{H:Hp}{h h':Heap}{x e:Addr}{o':HO}
theorem mK.write(ok:mK P w H h)(mu:YO (H x))(he:e=x\/H e=some (.own x))(k:∀b u,b≠e->h.get? b=some u->h'.get? b=some u)(heo:∃u,h'.get? e=some u)
  (new:dY P w (upd H x o') h' x o'):mK P w (upd H x o') h':=λb u q=>by
 have nown:∀c y,H c=some (.own y)->c≠x:=λc y r z=>by subst z;rw [r] at mu;exact mu
 have ntup:∀c xs,H c=some (.tup xs)->c≠x:=λc xs r z=>by subst z;rw [r] at mu;exact mu
 by_cases hb:b=x
 ·subst hb;rw [bK] at q;cases q;exact new
 ·rw [cS hb] at q;by_cases hbe:b=e
  ·have q':H b=some (.own x):=by
    rcases he with z | z
    ·exact absurd (hbe.trans z) hb
    ·rw [hbe];exact z
   rw [q] at q';cases q';obtain ⟨v,hv⟩:=heo;exact ⟨v,by rw [hbe];exact hv⟩
  ·refine (ok b u q).stay (λc v hc r=>k c v ?_ r) (λc r=>by rw [cS (nown c b r)];exact r) λc xs r=>by rw [cS (ntup c xs r)];exact r
   rcases hc with rfl | hc
   ·exact hbe
   ·rintro rfl;rcases he with z | z
    ·exact nown c b hc z
    ·rw [hc] at z;cases z;exact hb rfl
end
structure Un(fs ex:List Addr)(H H':Hp)(h h':Heap):Prop where
 keep:∀b o,h.get? b=some o->H b=none->b ∉ fs->b ∉ ex->h'.get? b=some o
 slot:∀b o,h.get? b=some o->H b=none->b∈fs->b ∉ ex->∃sl,h'.get? b=some { o with slots:=sl }
 free:∀b o,h.get? b=some o->H b=none->b ∉ ex->H' b=none
 there:∀b o,h.get? b=some o->b ∉ ex->∃o',h'.get? b=some o'
 tups:∀b xs,H b=some (.tup xs)->H' b=some (.tup xs)
 frzs:∀b o u,H b=some (.frz o u)->H' b=some (.frz o u)
 tbls:∀b ps,H b=some (.tbl ps)->∃more,H' b=some (.tbl (ps++more))
section
variable{fs fs' ex ex':List Addr}{H H1 H2:Hp}{h h1 h2 h':Heap}{a x e:Addr}{o:HO}
theorem Un.any(u:Un fs ex H H1 h h1){b:Addr}{ob:Obj}(q:h.get? b=some ob)(n:H b=none)(hx:b ∉ ex):∃sl,h1.get? b=some { ob with slots:=sl }:=by
 by_cases hb:b∈fs
 ·exact u.slot b ob q n hb hx
 ·exact ⟨ob.slots,u.keep b ob q n hb hx⟩
theorem Un.kept(k:∀b u,h.get? b=some u->h'.get? b=some u):Un fs ex H H h h' :=
 ⟨λb ob q _ _ _=>k b ob q,λb ob q _ _ _=>⟨ob.slots,k b ob q⟩,λ_ _ _ n _=>n,λb ob q _=>⟨ob,k b ob q⟩,λ_ _ q=>q,λ_ _ _ q=>q,λ_ ps q=>⟨#[],by rw [q];simp⟩⟩
theorem Un.refl:Un fs ex H H h h:=Un.kept λ_ _ q=>q
theorem Un.laid(k:∀b u,h.get? b=some u->h'.get? b=some u)(hp:h.objs.size<=a)(hn:H a=none):Un fs ex H (upd H a o) h h' where
 keep:=λb u q _ _ _=>k b u q
 slot:=λb u q _ _ _=>⟨u.slots,k b u q⟩
 free:=λb u q n _=>by rw [cS (dD (aX (aV q) hp))];exact n
 there:=λb u q _=>⟨u,k b u q⟩
 tups:=λb xs q=>by rw [cS (cL q hn)];exact q
 frzs:=λb u xs q=>by rw [cS (cL q hn)];exact q
 tbls:=λb ps q=>⟨#[],by rw [cS (cL q hn),q];simp⟩
theorem Un.write(mu:YO (H x))(he:e=x\/H e=some (.own x))(k:∀b u,b≠e->h.get? b=some u->h'.get? b=some u)(heo:∃u,h'.get? e=some u):Un fs ex H (upd H x o) h h':=by
 have hx:∀b,H b=none->b≠x:=λb n z=>by subst z;rw [n] at mu;exact mu
 have hb:∀b,H b=none->b≠e:=λb n z=>by
  subst z;rcases he with r | r
  ·exact hx b n r
  ·rw [n] at r;cases r
 have hm:∀b u,H b=some u->¬YO (some u)->b≠x:=λb u q nm z=>by subst z;rw [q] at mu;exact nm mu
 refine ⟨λb u q n _ _=>k b u (hb b n) q,λb u q n _ _=>⟨u.slots,k b u (hb b n) q⟩,λb u q n _=>by rw [cS (hx b n)];exact n,λb u q _=>?_,
  λb xs q=>by rw [cS (hm b _ q λz=>z)];exact q,λb u xs q=>by rw [cS (hm b _ q λz=>z)];exact q,λb ps q=>⟨#[],by rw [cS (hm b _ q λz=>z),q];simp⟩⟩
 by_cases hbe:b=e
 ·subst hbe;exact heo
 ·exact ⟨u,k b u hbe q⟩
end
def trk(h:Heap)(H:Hp):List Addr:=(List.range h.objs.size).filter λa=>(H a).isSome
def xT(h:Heap)(H:Hp):Heap:=PySem.W.hideAll h (trk h H)
theorem GT(h:Heap)(H:Hp):(xT h H).objs.size=h.objs.size:=PySem.W.hideAll_size _ _
theorem KS{h:Heap}{H:Hp}{b:Addr}{o:Obj}(e:h.get? b=some o)(n:H b=none):(xT h H).get? b=some o :=
 PySem.W.hideAll_get _ e λhm=>by
  have q:(H b).isSome=true:=(List.mem_filter.mp hm).2;rw [n] at q;simp at q
theorem OM{h:Heap}{H:Hp}{b:Addr}{o:Obj}(e:(xT h H).get? b=some o):h.get? b=some o/\H b=none:=by
 have e':h.get? b=some o:=PySem.W.of_hideAll (trk h H) e;refine ⟨e',?_⟩;cases q:H b with
 | none=>rfl
 | some x =>
  have hm:b∈trk h H:=List.mem_filter.mpr ⟨cU.mpr (aV e'),by simp [q]⟩;have z:(xT h H).get? b=none:=PySem.W.hideAll_none (trk h H) hm;rw [z] at e;cases e
structure ZK(K:PySem.W.Frag)(mg:Str->Option Value)(base:Heap):Prop where
 kin:K.In base
 glob:base.Ns mainGlobals mg
 blt:∃mb,base.Ns builtinsNs mb/\∀x:Str,x ≠ "__name__" -> mb x=bootBuiltins x
 nolimit:base.NoLimit
/-- the context: a def's body (or a comprehension's block) running. base: fixed through the whole law;s₀,H₀: the entry;outer: the frames whose slots others may change (a def's callers);stack: all frames that run;
   ex: iterators that were made ahead of the entry and are walked here (a comprehension's);fn: the names whose cells were made at the entry (a def: all;a comprehension's block: its own);calm: not within an except suite;pn: pins that every state bears;xe: what is wanted of an exception that leaves the code -/
structure Cx where
 prog:Program
 w:World
 K:PySem.W.Frag
 mg:Str->Option Value
 base:Heap
 A:Around
 N:List Str
 s₀:Shared
 H₀:Hp
 env:Env
 outer:List Env
 stack:List Env
 ex:List Addr
 fn:Str->Bool
 calm:Bool
 pn:List (Addr × Obj)
 xe:Value->Shared->Prop
def frs(l:List Env):List Addr:=l.filterMap (·.frame)
abbrev Cx.fs(X:Cx):List Addr:=frs X.outer
def ZH(sc:Scope)(x:Str):Prop:=sc.names.lookup x=some .local\/sc.names.lookup x=some .cell\/sc.names.lookup x=some .free
def WK(sc:Scope)(x:Str):Prop:=sc.names.lookup x=some .local\/sc.names.lookup x=some .cell
def aA9(env:Env)(h:Heap)(m:Str->Option Value)(x:Str)(u:Value):Prop :=
 (env.kindOf x=some .local/\m x=some u)\/((env.kindOf x=some .cell\/env.kindOf x=some .free)/\∃c,env.cells.lookup x=some c/\h.IsCell c (some u))
structure Cx.Ok(X:Cx):Prop where
 mod:ZK X.K X.mg X.base
 kind:X.env.scope.kind=.function
 glob:X.env.globals=mainGlobals
 blt:X.env.builtins=builtinsNs
 above:X.s₀.heap.objs.size<=X.env.locals
 inj:∀x y c,X.env.cells.lookup x=some c->X.env.cells.lookup y=some c->x=y
 has:∀x,(X.env.kindOf x=some .cell\/X.env.kindOf x=some .free)->∃c,X.env.cells.lookup x=some c
 cab:∀x c,X.fn x=true->X.env.cells.lookup x=some c->X.s₀.heap.objs.size<=c
 hd:X.calm=true->X.A.handled=none
 frames:X.A.frames=some X.stack
 stk:X.stack=X.outer\/(X.stack=X.env::X.outer/\X.env.frame=some X.env.locals)
 exf:∀b∈X.ex,b≠X.env.locals/\∀x c,X.env.cells.lookup x=some c->c≠b
 bs:∀b o,X.base.get? b=some o->X.s₀.heap.get? b=some o/\X.H₀ b=none
 bsz:X.base.objs.size<=X.s₀.heap.objs.size
 noex:∀b o,X.base.get? b=some o->b ∉ X.ex
 exfs:∀b∈X.ex,b ∉ X.fs
 funs:X.s₀.heap.FunFrames X.base X.outer
 frf:∀b∈X.fs,X.H₀ b=none
structure cA(X:Cx)(pins:List (Addr × Obj))(σ:List (Option V))(H:Hp)(s:Shared):Prop where
 ok:X.Ok
 os:s.os=X.s₀.os
 bare:AllBare s.gens
 base:Un X.fs X.ex X.H₀ H X.s₀.heap s.heap
 loc:∃m,s.heap.Ns X.env.locals m/\∀(i:Nat) (x:Str) (v:V),X.N[i]?=some x->σ[i]?=some (some v)->ZH X.env.scope x->∃u,dE v u/\aA9 X.env s.heap m x u
 cell:∀x c,X.env.cells.lookup x=some c->∃v,s.heap.IsCell c v
 free:H X.env.locals=none
 freeC:∀x c,X.env.cells.lookup x=some c->H c=none
 pin:∀p∈X.pn++pins,s.heap.get? p.1=some p.2/\H p.1=none/\p.1≠X.env.locals/\p.1 ∉ X.fs/\∀v,p.2.data ≠ .cell v
 hok:mK X.prog X.w H s.heap
 len:σ.length=X.N.length
section
variable{X:Cx}{pins:List (Addr × Obj)}{σ:List (Option V)}{H H':Hp}{s:Shared}{h':Heap}
theorem Cx.Ok.nofr(ok:X.Ok){b:Addr}{o:Obj}(e:X.base.get? b=some o):b ∉ X.fs:=λhb=>by
 have:=(ok.funs.mem hb).1;rw [e] at this;cases this
theorem cA.bs(I:cA X pins σ H s):∀b o,X.base.get? b=some o->s.heap.get? b=some o/\H b=none:=λb o e =>
 ⟨I.base.keep b o (I.ok.bs b o e).1 (I.ok.bs b o e).2 (I.ok.nofr e) (I.ok.noex b o e),I.base.free b o (I.ok.bs b o e).1 (I.ok.bs b o e).2 (I.ok.noex b o e)⟩
theorem cA.bk(I:cA X pins σ H s):∀b o,X.base.get? b=some o->s.heap.get? b=some o:=λb o e=>(I.bs b o e).1
theorem cA.mod(I:cA X pins σ H s):ZK X.K X.mg X.base:=I.ok.mod
theorem cA.kIn(I:cA X pins σ H s):X.K.In s.heap:=I.ok.mod.kin.keeps I.bk
theorem cA.lt(I:cA X pins σ H s):X.env.locals<s.heap.objs.size:=let ⟨_,hn,_⟩:=I.loc;hn.lt
theorem cA.sz(I:cA X pins σ H s):X.s₀.heap.objs.size<=s.heap.objs.size:=aZ I.ok.above (Nat.le_of_lt I.lt)
theorem cA.nofs(I:cA X pins σ H s){a:Addr}(h:s.heap.objs.size<=a):a ∉ X.fs:=λhb=>by
 obtain ⟨_,o,ho,_⟩:=I.ok.funs.mem hb;exact absurd (aX (aV ho) (aZ I.sz h)) (cE _)
theorem cA.cne(I:cA X pins σ H s):∀x c,X.env.cells.lookup x=some c->c≠X.env.locals:=λx c e z=>by
 obtain ⟨v,o,ho,hd⟩:=I.cell x c e;obtain ⟨m,⟨o',es,ep,ho',hd',_⟩,_⟩:=I.loc;rw [z,ho'] at ho;cases ho;rw [hd'] at hd;cases hd
theorem cA.funs(I:cA X pins σ H s):s.heap.FunFrames X.base X.outer:=by
 have all:∀(l:List Env),(∀b∈frs l,b∈X.fs)->X.s₀.heap.FunFrames X.base l->s.heap.FunFrames X.base l:=by
  intro l
  induction l with
  | nil=>intro _ _;trivial
  | cons env r ih =>
   intro hs hl;obtain ⟨hk,⟨L,o,hf,hn,ho,hd⟩,hr⟩:=hl;have hL:L∈X.fs:=hs L (by unfold frs;rw [List.filterMap_cons,hf];exact aO);obtain ⟨sl,e⟩:=I.base.slot L o ho (I.ok.frf L hL) hL λz=>I.ok.exfs L z hL;exact ⟨hk,⟨L,_,hf,hn,e,hd⟩,ih (λb hb=>hs b (by unfold frs;rw [List.filterMap_cons,hf];exact aK _ hb)) hr⟩
 exact all X.outer (λ_ hb=>hb) I.ok.funs
theorem cA.stack(I:cA X pins σ H s):s.heap.FunFrames X.base X.stack:=by
 rcases I.ok.stk with e | ⟨e,hf⟩
 ·rw [e];exact I.funs
 ·rw [e];obtain ⟨m,hn,_⟩:=I.loc;refine .cons (by rw [I.ok.kind];decide) hf hn ?_ I.funs;exact Heap.get?_none_of_le (aZ I.ok.bsz I.ok.above)
theorem cA.stkSub(I:cA X pins σ H s):∀b∈frs X.stack,b∈X.env.locals::X.fs:=λb hb=>by
 rcases I.ok.stk with e | ⟨e,hf⟩
 ·rw [e] at hb;exact aK _ hb
 ·rw [e] at hb;unfold frs at hb;rw [List.filterMap_cons,hf] at hb;exact hb
theorem cA.stkFree(I:cA X pins σ H s):∀b∈frs X.stack,H b=none:=λb hb=>by
 rcases bE.mp (I.stkSub b hb) with e | hb
 ·rw [e];exact I.free
 ·obtain ⟨_,o,ho,_⟩:=I.ok.funs.mem hb;exact I.base.free b o ho (I.ok.frf b hb) λz=>I.ok.exfs b z hb
theorem cA.step{g':Array GenState}{t':Nat}{d':Drawn}{ch:List Addr}(I:cA X pins σ H s)
  (hch:∀b∈ch,(b∈X.ex\/X.s₀.heap.objs.size<=b)/\b≠X.env.locals/\(∀x c,X.env.cells.lookup x=some c->c≠b)/\∀p∈X.pn++pins,p.1≠b)
  (keep:∀b o,b≠X.env.locals->b ∉ X.fs->b ∉ ch->s.heap.get? b=some o->H b=none->h'.get? b=some o)
  (slot:∀b o,b≠X.env.locals->b∈X.fs->b ∉ ch->s.heap.get? b=some o->H b=none->∃sl,h'.get? b=some { o with slots:=sl }) (free:∀b o,b ∉ ch->s.heap.get? b=some o->H b=none->H' b=none)
  (there:∀b o,b ∉ ch->s.heap.get? b=some o->∃o',h'.get? b=some o')
  (tups:∀b xs,H b=some (.tup xs)->H' b=some (.tup xs)) (frzs:∀b o u,H b=some (.frz o u)->H' b=some (.frz o u)) (tbls:∀b ps,H b=some (.tbl ps)->∃more,H' b=some (.tbl (ps++more)))
  (ns:∀m,s.heap.Ns X.env.locals m->h'.Ns X.env.locals m) (hok:mK X.prog X.w H' h') (hg:AllBare g') :
  cA X pins σ H' { s with heap:=h',gens:=g',drawn:=d',toks:=t' }:=by
 have neL:∀b o,X.s₀.heap.get? b=some o->b≠X.env.locals:=λb o e=>dD (aX (aV e) I.ok.above);have neC:∀b o,X.s₀.heap.get? b=some o->b ∉ X.ex->b ∉ ch:=λb o e hx hb=>by
  rcases (hch b hb).1 with z | z
  ·exact hx z
  ·exact absurd (aX (aV e) z) (cE _)
 have cellK:∀x c,X.env.cells.lookup x=some c->∀v,s.heap.IsCell c v->h'.IsCell c v:=λx c e v ⟨o,ho,hd⟩=>by
  have nch:c ∉ ch:=λz=>(hch c z).2.2.1 x c e rfl;by_cases hc:c∈X.fs
  ·obtain ⟨sl,q⟩:=slot c o (I.cne x c e) hc nch ho (I.freeC x c e);exact ⟨_,q,hd⟩
  ·exact ⟨o,keep c o (I.cne x c e) hc nch ho (I.freeC x c e),hd⟩
 refine ⟨I.ok,I.os,hg,⟨λb o e n hb hx=>?_,λb o e n hb hx=>?_,λb o e n hx=>?_,λb o e hx=>?_,λb xs e=>tups b xs (I.base.tups b xs e),λb o xs e=>frzs b o xs (I.base.frzs b o xs e),λb ps e=>?_⟩,?_,λx c e=>?_,?_,λx c e=>?_,λp hp=>?_,hok,I.len⟩
 ·exact keep b o (neL b o e) hb (neC b o e hx) (I.base.keep b o e n hb hx) (I.base.free b o e n hx)
 ·obtain ⟨sl,e1⟩:=I.base.slot b o e n hb hx;obtain ⟨sl',e2⟩:=slot b _ (neL b o e) hb (neC b o e hx) e1 (I.base.free b o e n hx);exact ⟨sl',e2⟩
 ·obtain ⟨o',e1⟩:=I.base.there b o e hx;exact free b o' (neC b o e hx) e1 (I.base.free b o e n hx)
 ·obtain ⟨o',e1⟩:=I.base.there b o e hx;exact there b o' (neC b o e hx) e1
 ·obtain ⟨m1,e1⟩:=I.base.tbls b ps e;obtain ⟨m2,e2⟩:=tbls b _ e1;exact ⟨m1++m2,by rw [e2,Array.append_assoc]⟩
 ·obtain ⟨m,hn,hl⟩:=I.loc;refine ⟨m,ns m hn,λi x v e1 e2 e3=>?_⟩;obtain ⟨u,r,l⟩:=hl i x v e1 e2 e3;refine ⟨u,r,?_⟩;rcases l with l | ⟨k,c,e,z⟩
  ·exact .inl l
  ·exact .inr ⟨k,c,e,cellK x c e _ z⟩
 ·obtain ⟨v,z⟩:=I.cell x c e;exact ⟨v,cellK x c e v z⟩
 ·obtain ⟨m,⟨o,_,_,ho,_⟩,_⟩:=I.loc;exact free _ o (λz=>(hch _ z).2.1 rfl) ho I.free
 ·obtain ⟨v,o,ho,hd⟩:=I.cell x c e;exact free c o (λz=>(hch c z).2.2.1 x c e rfl) ho (I.freeC x c e)
 ·obtain ⟨e,n,ne,nf,d⟩:=I.pin p hp;have nch:p.1 ∉ ch:=λz=>(hch p.1 z).2.2.2 p hp rfl;exact ⟨keep p.1 p.2 ne nf nch e n,free p.1 p.2 nch e n,ne,nf,d⟩
theorem cA.un{t':Nat}(I:cA X pins σ H s)(u:Un X.fs [] H H' s.heap h')(hok:mK X.prog X.w H' h'):cA X pins σ H' { s with heap:=h',toks:=t' }:=by
 obtain ⟨m,⟨o,es,ep,ho,r⟩,_⟩:=id I.loc;obtain ⟨sl,hL⟩:=u.any ho I.free (by simp);exact I.step (g':=s.gens) (d':=s.drawn) (ch:=[]) (λ_ z=>nomatch z) (λb o _ hb _ e n=>u.keep b o e n hb (by simp)) (λb o _ hb _ e n=>u.slot b o e n hb (by simp)) (λb o _ e n=>u.free b o e n (by simp)) (λb o _ e=>u.there b o e (by simp)) u.tups u.frzs u.tbls (λm' hm=>by
  obtain ⟨o',es',ep',ho',r'⟩:=hm;rw [ho] at ho';cases ho';exact ⟨_,es',ep',hL,r'⟩) hok I.bare
theorem cA.call{g':Array GenState}{t':Nat}{d':Drawn}{ch:List Addr}(I:cA X pins σ H s)(u:Un (frs X.stack) ch H H' s.heap h')(hok:mK X.prog X.w H' h')(hg:AllBare g')
  (hch:∀b∈ch,(b∈X.ex\/X.s₀.heap.objs.size<=b)/\b≠X.env.locals/\(∀x c,X.env.cells.lookup x=some c->c≠b)/\∀p∈X.pn++pins,p.1≠b) :
  cA X pins σ H' { s with heap:=h',gens:=g',drawn:=d',toks:=t' }:=by
 obtain ⟨m,⟨o,es,ep,ho,r⟩,_⟩:=id I.loc;obtain ⟨sl,hL⟩:=u.any ho I.free λz=>(hch _ z).2.1 rfl;exact I.step (ch:=ch) hch (λb o hL hb hc e n=>u.keep b o e n (λz=>(bE.mp (I.stkSub b z)).elim hL hb) hc) (λb o _ _ hc e n=>u.any e n hc) (λb o hc e n=>u.free b o e n hc) (λb o hc e=>u.there b o e hc) u.tups u.frzs u.tbls (λm' hm=>by
  obtain ⟨o',es',ep',ho',r'⟩:=hm;rw [ho] at ho';cases ho';exact ⟨_,es',ep',hL,r'⟩) hok hg
theorem cA.turned{t':Nat}{it:Addr}(I:cA X pins σ H s)(k:∀b o,b≠it->s.heap.get? b=some o->h'.get? b=some o)(hn:H it=none)(hL:it≠X.env.locals)
  (h1:it∈X.ex\/X.s₀.heap.objs.size<=it) (h2:∀x c,X.env.cells.lookup x=some c->c≠it) (h3:∀p∈X.pn++pins,p.1≠it):cA X pins σ H { s with heap:=h',toks:=t' }:=by
 have nit:∀b u,H b=some u->b≠it:=λb u e z=>by rw [z,hn] at e;cases e
 refine I.step (g':=s.gens) (d':=s.drawn) (ch:=[it]) (λb hb=>?_) (λb o _ _ hc e _=>k b o (λz=>hc (by simp [z])) e) (λb o _ _ hc e _=>⟨o.slots,k b o (λz=>hc (by simp [z])) e⟩) (λ_ _ _ _ n=>n)
  (λb o hc e=>⟨o,k b o (λz=>hc (by simp [z])) e⟩) (λ_ _ e=>e) (λ_ _ _ e=>e) (λb ps e=>⟨#[],by rw [e];simp⟩) (λm hm=>?_) (λb u e=>?_) I.bare
 ·have e:b=it:=by simpa using hb
  subst e;exact ⟨h1,hL,h2,h3⟩
 ·obtain ⟨o,es,ep,ho,r⟩:=hm;exact ⟨o,es,ep,k _ o (Ne.symm hL) ho,r⟩
 ·refine (I.hok b u e).stay (λc v hc q=>k c v ?_ q) (λ_ q=>q) λ_ _ q=>q;rcases hc with z | z
  ·rw [z];exact nit b u e
  ·exact nit c _ z
theorem cA.tok(I:cA X pins σ H s)(t:Nat):cA X pins σ H { s with toks:=t }:=I.un (h':=s.heap) (t':=t) Un.refl I.hok
theorem cA.kept{t':Nat}(I:cA X pins σ H s)(k:∀b u,s.heap.get? b=some u->h'.get? b=some u):cA X pins σ H { s with heap:=h',toks:=t' }:=I.un (Un.kept k) (I.hok.kept k)
theorem cA.laid{a:Addr}{o:HO}{t':Nat}(I:cA X pins σ H s)(k:∀b u,s.heap.get? b=some u->h'.get? b=some u)(hp:s.heap.objs.size<=a)(new:dY X.prog X.w (upd H a o) h' a o) :
  cA X pins σ (upd H a o) { s with heap:=h',toks:=t' }:=I.un (Un.laid k hp (I.hok.fresh hp)) (I.hok.laid k hp new)
theorem cA.write{x e:Addr}{o:HO}{t':Nat}(I:cA X pins σ H s)(mu:YO (H x))(he:e=x\/H e=some (.own x))(k:∀b u,b≠e->s.heap.get? b=some u->h'.get? b=some u)(heo:∃u,h'.get? e=some u)
  (new:dY X.prog X.w (upd H x o) h' x o):cA X pins σ (upd H x o) { s with heap:=h',toks:=t' }:=I.un (Un.write mu he k heo) (I.hok.write mu he k heo new)
theorem cA.pins_of{pins':List (Addr × Obj)}(I:cA X pins σ H s)(h:∀p∈pins',s.heap.get? p.1=some p.2/\H p.1=none/\p.1≠X.env.locals/\p.1 ∉ X.fs/\∀v,p.2.data ≠ .cell v):cA X pins' σ H s :=
 ⟨I.ok,I.os,I.bare,I.base,I.loc,I.cell,I.free,I.freeC,λp hp=>(dP.mp hp).elim (λz=>I.pin p (bZ _ z)) (h p),I.hok,I.len⟩
theorem zK{N:List Str}(hN:N.Nodup){i j:Nat}{x:Str}(a:N[i]?=some x)(b:N[j]?=some x):i=j:=by
 obtain ⟨h1,e1⟩:=aH.mp a;obtain ⟨h2,e2⟩:=aH.mp b;exact (List.getElem_inj hN).mp (e1.trans e2.symm)
theorem vF{M:Model}{A:Around}{E:Value->Shared->Prop}{i:Nat}{x:Str}{v:V}{u:Value}{Q:Unit->Shared->Prop}(I:cA X pins σ H s)(hN:X.N.Nodup)(hi:X.N[i]?=some x)(hx:WK X.env.scope x)(r:dE v u)
  (h:∀s',cA X pins (σ.set i (some v)) H s'->(∃a,Heap.SameBut a s.heap s'.heap/\(a=X.env.locals\/X.env.cells.lookup x=some a))->Q () s') (hf:X.fn x=true\/X.env.scope.names.lookup x=some .local:=by first | exact .inl rfl | exact .inr rfl | assumption):wpAny M A (storeName X.env x u) Q E s:=by
 obtain ⟨m,hn,hl⟩:=id I.loc;have hcls:(X.env.scope.kind == .class || (X.env.scope.kind == .module&&X.env.locals != X.env.globals))=false:=by rw [I.ok.kind];rfl
 have hiσ:i<σ.length:=by rw [I.len];exact (aH.mp hi).1
 have cne:=I.cne;have tracked:∀{a:Addr} {h':Heap},(∃o,s.heap.get? a=some o/\H a=none)->Heap.SameBut a s.heap h'->mK X.prog X.w H h':=λ{a h'} ha hs b ob e=>by
  obtain ⟨_,_,hfree⟩:=ha;refine (I.hok b ob e).stay (λc w' hc q=>(hs.2 c ?_).trans q) (λ_ q=>q) λ_ _ q=>q;rintro rfl;rcases hc with rfl | hc
  ·rw [hfree] at e;cases e
  ·rw [hfree] at hc;cases hc
 rcases hx with hk | hk
 ·refine wpAny_storeName_local hk hn (λh' hn' hs=>?_) hcls;obtain ⟨oL,_,_,hoL,_⟩:=id hn;refine h _ ⟨I.ok,I.os,I.bare,⟨λb o e n hb hx=>?_,λb o e n hb hx=>?_,I.base.free,λb o e hx=>?_,I.base.tups,I.base.frzs,I.base.tbls⟩,⟨_,hn',λj y v' e1 e2 e3=>?_⟩,λy c e=>?_,I.free,I.freeC,λp hp=>?_,tracked ⟨oL,hoL,I.free⟩ hs,by simpa using I.len⟩ ⟨_,hs,.inl rfl⟩
  ·exact (hs.2 b (dD (aX (aV e) I.ok.above))).trans (I.base.keep b o e n hb hx)
  ·obtain ⟨sl,e1⟩:=I.base.slot b o e n hb hx;exact ⟨sl,(hs.2 b (dD (aX (aV e) I.ok.above))).trans e1⟩
  ·obtain ⟨o',e1⟩:=I.base.there b o e hx;exact ⟨o',(hs.2 b (dD (aX (aV e) I.ok.above))).trans e1⟩
  ·by_cases hj:j=i
   ·subst hj;rw [hi] at e1;cases e1;rw [List.getElem?_set_self hiσ] at e2;cases e2;exact ⟨u,r,.inl ⟨hk,by simp⟩⟩
   ·rw [List.getElem?_set_ne (Ne.symm hj)] at e2;obtain ⟨u',r',q⟩:=hl j y v' e1 e2 e3;refine ⟨u',r',?_⟩;rcases q with ⟨k,e⟩ | ⟨k,c,e,z⟩
    ·refine .inl ⟨k,?_⟩;have:y≠x:=λe=>hj (zK hN e1 (e ▸ hi));simp [this,e]
    ·exact .inr ⟨k,c,e,z.sameBut hs (cne y c e)⟩
  ·obtain ⟨w',z⟩:=I.cell y c e;exact ⟨w',z.sameBut hs (cne y c e)⟩
  ·obtain ⟨e,n,ne,nf,d⟩:=I.pin p hp;exact ⟨(hs.2 p.1 ne).trans e,n,ne,nf,d⟩
 ·have hfn:X.fn x=true:=by
   rcases hf with z | z
   ·exact z
   ·rw [z] at hk;cases hk
  obtain ⟨c,hc⟩:=I.ok.has x (.inl hk);obtain ⟨w',z⟩:=I.cell x c hc;refine wpAny_storeName_cell I.ok.kind hk hc z (λh' hc' hs=>?_);obtain ⟨oc,hoc,hocd⟩:=id z;refine h { s with heap:=h' } ⟨I.ok,I.os,I.bare,⟨λb o e n hb hx=>?_,λb o e n hb hx=>?_,I.base.free,λb o e hx=>?_,I.base.tups,I.base.frzs,I.base.tbls⟩,⟨m,hn.sameBut hs (Ne.symm (cne x c hc)),λj y v' e1 e2 e3=>?_⟩,λy c' e=>?_,I.free,I.freeC,λp hp=>?_,tracked ⟨oc,hoc,I.freeC x c hc⟩ hs,by simpa using I.len⟩ ⟨c,hs,.inr hc⟩
  ·exact (hs.2 b (dD (aX (aV e) (I.ok.cab x c hfn hc)))).trans (I.base.keep b o e n hb hx)
  ·obtain ⟨sl,e1⟩:=I.base.slot b o e n hb hx;exact ⟨sl,(hs.2 b (dD (aX (aV e) (I.ok.cab x c hfn hc)))).trans e1⟩
  ·obtain ⟨o',e1⟩:=I.base.there b o e hx;exact ⟨o',(hs.2 b (dD (aX (aV e) (I.ok.cab x c hfn hc)))).trans e1⟩
  ·by_cases hj:j=i
   ·subst hj;rw [hi] at e1;cases e1;rw [List.getElem?_set_self hiσ] at e2;cases e2;exact ⟨u,r,.inr ⟨.inl hk,c,hc,hc'⟩⟩
   ·rw [List.getElem?_set_ne (Ne.symm hj)] at e2;obtain ⟨u',r',q⟩:=hl j y v' e1 e2 e3;refine ⟨u',r',?_⟩;rcases q with q | ⟨k,c',e,z'⟩
    ·exact .inl q
    ·refine .inr ⟨k,c',e,z'.sameBut hs ?_⟩;rintro rfl;exact hj (zK hN e1 (I.ok.inj _ _ _ e hc ▸ hi))
  ·by_cases hcc:c'=c
   ·subst hcc;exact ⟨_,hc'⟩
   ·obtain ⟨w2,z2⟩:=I.cell y c' e;exact ⟨w2,z2.sameBut hs hcc⟩
  ·obtain ⟨e,n,ne,nf,d⟩:=I.pin p hp;refine ⟨(hs.2 p.1 ?_).trans e,n,ne,nf,d⟩;intro q;rw [q,hoc] at e;have q':oc=p.2:=cO e;exact d w' (by rw [<-q'];exact hocd)
theorem mS{M:Model}{A:Around}{E:Value->Shared->Prop}{i:Nat}{x:Str}{v:V}{u:Value}{Q:Unit->Shared->Prop}(I:cA X pins σ H s)(hN:X.N.Nodup)(hi:X.N[i]?=some x)(hx:WK X.env.scope x)(r:dE v u)
  (h:∀s',cA X pins (σ.set i (some v)) H s'->Q () s') (hf:X.fn x=true\/X.env.scope.names.lookup x=some .local:=by first | exact .inl rfl | exact .inr rfl | assumption):wpAny M A (storeName X.env x u) Q E s :=
 vF I hN hi hx r (λs' I' _=>h s' I') hf
theorem cA.call'{s':Shared}{ch:List Addr}(I:cA X pins σ H s)(ho:s'.os=s.os)(u:Un (frs X.stack) ch H H' s.heap s'.heap)(hok:mK X.prog X.w H' s'.heap)(hg:AllBare s'.gens)
  (hch:∀b∈ch,(b∈X.ex\/X.s₀.heap.objs.size<=b)/\b≠X.env.locals/\(∀x c,X.env.cells.lookup x=some c->c≠b)/\∀p∈X.pn++pins,p.1≠b):cA X pins σ H' s':=by
 obtain ⟨h',g',d',t',o'⟩:=s';have e:o'=s.os:=ho;subst e;exact I.call (g':=g') (t':=t') (d':=d') u hok hg hch
end
abbrev XK:=Value->Option Addr->Hp->Prop
abbrev St:=List (Option V)
abbrev VK:=V->Hp->Prop
abbrev TE:=St->Hp->VK->Prop
abbrev TT:=St->Hp->(Bool->Hp->Prop)->Prop
abbrev TA:=St->Hp->(List V->Hp->Prop)->Prop
structure rX where
 nx:St->Hp->Prop
 rt:VK
 bk:St->Hp->Prop:=λ_ _=>False
 ct:St->Hp->Prop:=λ_ _=>False
abbrev TS:=rX->St->Hp->Prop
def EP(X:Cx)(pins:List (Addr × Obj))(σ:St)(Q:VK)(u:Value)(s':Shared):Prop:=∃v H',cA X pins σ H' s'/\dE v u/\Q v H'
def TP(X:Cx)(pins:List (Addr × Obj))(σ:St)(Q:Bool->Hp->Prop)(b:Bool)(s':Shared):Prop:=∃H',cA X pins σ H' s'/\Q b H'
def AP(X:Cx)(pins:List (Addr × Obj))(σ:St)(Q:List V->Hp->Prop)(us:List Value)(s':Shared):Prop:=∃vs H',cA X pins σ H' s'/\dA vs us/\Q vs H'
def SP(X:Cx)(pins:List (Addr × Obj))(D:rX)(f:Flow)(s':Shared):Prop :=
 match f with
 | .next=>∃σ' H',cA X pins σ' H' s'/\D.nx σ' H'
 | .brk=>∃σ' H',cA X pins σ' H' s'/\D.bk σ' H'
 | .cont=>∃σ' H',cA X pins σ' H' s'/\D.ct σ' H'
 | .ret u=>∃v σ' H',cA X pins σ' H' s'/\dE v u/\D.rt v H'
def PE(X:Cx)(e:Expr)(t:TE):Prop :=
 ∀(pins:List (Addr × Obj)) (s:Shared) (σ:St) (H:Hp) (Q:VK),cA X pins σ H s->t σ H Q->wpAny (model X.prog X.w) X.A (eval e X.env) (EP X pins σ Q) X.xe s
def PT(X:Cx)(e:Expr)(t:TT):Prop :=
 ∀(pins:List (Addr × Obj)) (s:Shared) (σ:St) (H:Hp) (Q:Bool->Hp->Prop),cA X pins σ H s->t σ H Q->wpAny (model X.prog X.w) X.A (isTrue e X.env (eval e X.env)) (TP X pins σ Q) X.xe s
def PW(X:Cx)(e:Expr)(t:TT):Prop :=
 ∀(whole:Sem Value) (pins:List (Addr × Obj)) (s:Shared) (σ:St) (H:Hp) (Q:Bool->Hp->Prop),cA X pins σ H s->t σ H Q->wpAny (model X.prog X.w) X.A (isTrue e X.env whole) (TP X pins σ Q) X.xe s
theorem PW.pt{X:Cx}{e:Expr}{t:TT}(h:PW X e t):PT X e t:=h _
def PA(X:Cx)(es:List Expr)(t:TA):Prop :=
 ∀(pos:Pos) (pins:List (Addr × Obj)) (s:Shared) (σ:St) (H:Hp) (Q:List V->Hp->Prop),cA X pins σ H s->t σ H Q->wpAny (model X.prog X.w) X.A (spliced (backTo pos (starEach es X.env))) (AP X pins σ Q) X.xe s
def PS(X:Cx)(st:Stmt)(t:TS):Prop :=
 ∀(pins:List (Addr × Obj)) (s:Shared) (σ:St) (H:Hp) (D:rX),cA X pins σ H s->t D σ H->wpAny (model X.prog X.w) X.A (exec st X.env) (SP X pins D) X.xe s
def CO(X:Cx)(st:List Stmt)(t:TS):Prop :=
 ∀(pins:List (Addr × Obj)) (s:Shared) (σ:St) (H:Hp) (D:rX),cA X pins σ H s->t D σ H->wpAny (model X.prog X.w) X.A (execs st X.env) (SP X pins D) X.xe s
theorem thn{α:Type}{t:Sem α}{Q Q':α->Shared->Prop}{M:Model}{A:Around}{E:Value->Shared->Prop}{s:Shared}(h:wpAny M A t Q E s)(hQ:∀a s,Q a s->Q' a s):wpAny M A t Q' E s:=wpAny_mono h hQ λ_ _ x=>x
section
variable{X:Cx}
def SC(i:Nat):TE:=λσ H Q=>∃v,σ[i]?=some (some v)/\Q v H
def tC(v:V):TE:=λ_ H Q=>Q v H
theorem UE{i:Nat}{x:Str}{pos:Pos}(hN:X.N[i]?=some x)(hv:ZH X.env.scope x)(hd:(x == ("__debug__" : Str))=false:=by decide)(hcd:(x == ("__classdict__" : Str))=false:=by decide):PE X (.Name x pos) (SC i):=by
 intro pins s σ H Q I h;obtain ⟨v,e,h⟩:=h;obtain ⟨m,hn,hl⟩:=I.loc;obtain ⟨u,r,l⟩:=hl i x v hN e hv;have fin:EP X pins σ Q u s:=⟨v,H,I,r,h⟩;rcases l with ⟨hk,hm⟩ | ⟨hk,c,hc,hcell⟩
 ·exact wpAny_Name (wpAny_loadName_local I.ok.kind hk hn hm fin) hd
 ·rcases hk with hk | hk
  ·exact wpAny_Name (wpAny_loadName_cell I.ok.kind hk hc hcell fin) hd
  ·exact wpAny_Name (wpAny_loadName_free I.ok.kind hk hc hcell fin hcd) hd
theorem pe_int{i j pos}:PE X (.Constant (.int i) j pos) (tC (.int i)):=λ_ _ _ H _ I h=>wpAny_Constant_int ⟨.int i,H,I.tok _,⟨_,rfl⟩,h⟩
theorem pe_bl{b j pos}:PE X (.Constant (.bool b) j pos) (tC (.bl b)):=λ_ _ _ H _ I h=>Constant_bool ⟨.bl b,H,I,rfl,h⟩
theorem pe_str{x j pos}:PE X (.Constant (.str x) j pos) (tC (.str x)):=λ_ _ _ H _ I h=>Calls.Constant_str ⟨.str x,H,I.tok _,⟨_,rfl⟩,h⟩
def Gl(X:Cx)(x:Str):Prop:=X.env.kindOf x=some .globalImplicit
theorem EG{E:Value->Shared->Prop}{pins:List (Addr × Obj)}{s:Shared}{σ:St}{H:Hp}{x:Str}{u:Value}{pos:Pos}{Q:Value->Shared->Prop}(I:cA X pins σ H s)(hg:Gl X x)(hm:X.mg x=some u)(h:Q u s)
  (hd:(x == ("__debug__" : Str))=false:=by decide):wpAny (model X.prog X.w) X.A (eval (.Name x pos) X.env) Q E s :=
 Calls.Name_function_global I.ok.kind hg (Calls.loadGlobal_global (by rw [I.ok.glob];exact I.mod.glob.keeps I.bk) hm h) hd
theorem rG{E:Value->Shared->Prop}{pins:List (Addr × Obj)}{s:Shared}{σ:St}{H:Hp}{x:Str}{u:Value}{pos:Pos}{Q:Value->Shared->Prop}(I:cA X pins σ H s)(hg:Gl X x)(hm:X.mg x=none)(hv:bootBuiltins x=some u)(h:Q u s)
  (hn:x ≠ "__name__" := by decide) (hd:(x == ("__debug__" : Str))=false:=by decide):wpAny (model X.prog X.w) X.A (eval (.Name x pos) X.env) Q E s:=by
 obtain ⟨mb,h1,h2⟩:=I.mod.blt;exact Calls.Name_function_global I.ok.kind hg (Calls.loadGlobal_builtin (by rw [I.ok.glob];exact I.mod.glob.keeps I.bk) hm (by rw [I.ok.blt];exact h1.keeps I.bk) ((h2 x hn).trans hv) h) hd
theorem OB{x:Str}{v:V}{u:Value}{pos:Pos}(hg:Gl X x)(hm:X.mg x=some u)(r:dE v u)(hd:(x == ("__debug__" : Str))=false:=by decide):PE X (.Name x pos) (tC v) :=
 λ_ _ _ H _ I h=>EG I hg hm ⟨v,H,I,r,h⟩ hd
theorem OG{x:Str}{v:V}{u:Value}{pos:Pos}(hg:Gl X x)(hm:X.mg x=none)(hv:bootBuiltins x=some u)(r:dE v u)(hn:x ≠ "__name__" := by decide)(hd:(x == ("__debug__" : Str))=false:=by decide):PE X (.Name x pos) (tC v) :=
 λ_ _ _ H _ I h=>rG I hg hm hv ⟨v,H,I,r,h⟩ hn hd
variable{a b:Expr}{ta tb:TE}{pos:Pos}
def tB(t:TE):TT:=λσ H Q=>t σ H λx H1=>∃c,x=.bl c/\Q c H1
theorem TN{e:Expr}{t:TE}(h:PE X e t)(he:∀whole,isTrue e X.env whole=(do let v <-whole;standAt e.pos;holding [v] (truthy v)):=by intro _;rfl):PT X e (tB t):=by
 intro pins s σ H Q I hw;refine isTrue_plain (thn (h pins s σ H _ I hw) λv s1 ⟨x,H1,I1,r1,q1⟩=>?_) (he _);obtain ⟨d,rfl,q⟩:=q1;cases r1;exact wpAny_truthy_bool ⟨H1,I1,q⟩
variable{tA tB':TT}{rest:List Expr}
def WY(t u:TT):TT:=λσ H Q=>t σ H λc H1=>if c=true then u σ H1 Q else Q false H1
def tOr(t u:TT):TT:=λσ H Q=>t σ H λc H1=>if c=true then Q true H1 else u σ H1 Q
def WS(t:TT):TT:=λσ H Q=>t σ H λc H1=>Q (!c) H1
theorem NR(ha:PT X a tA):PW X (.BoolOp .And [a] pos) tA:=by
 intro wh pins s σ H Q I h;refine isTrue_and (thn (ha pins s σ H Q I h) λc s1 e=>?_);cases c with
 | true=>exact isTrue_and_nil e
 | false=>exact e
theorem TL(ha:PT X a tA):PW X (.BoolOp .Or [a] pos) tA:=by
 intro wh pins s σ H Q I h;refine isTrue_or (thn (ha pins s σ H Q I h) λc s1 e=>?_);cases c with
 | false=>exact isTrue_or_nil e
 | true=>exact e
theorem TM(ha:PT X a tA)(hb:PW X (.BoolOp .And (b::rest) pos) tB'):PW X (.BoolOp .And (a::b::rest) pos) (WY tA tB'):=by
 intro wh pins s σ H Q I h;refine isTrue_and (thn (ha pins s σ H _ I h) λc s1 ⟨H1,I1,q1⟩=>?_);cases c with
 | true=>exact hb wh pins s1 σ H1 Q I1 q1
 | false=>exact ⟨H1,I1,q1⟩
theorem XL(ha:PT X a tA)(hb:PW X (.BoolOp .Or (b::rest) pos) tB'):PW X (.BoolOp .Or (a::b::rest) pos) (tOr tA tB'):=by
 intro wh pins s σ H Q I h;refine isTrue_or (thn (ha pins s σ H _ I h) λc s1 ⟨H1,I1,q1⟩=>?_);cases c with
 | true=>exact ⟨H1,I1,q1⟩
 | false=>exact hb wh pins s1 σ H1 Q I1 q1
theorem TR(ha:PT X a tA):PT X (.UnaryOp .Not a pos) (WS tA):=by
 intro pins s σ H Q I h;exact isTrue_not (ha pins s σ H (λc H1=>Q (!c) H1) I h)
def QS(ta tb:TE):TE:=λσ H Q=>ta σ H λx H1=>∃c,x=.bl c/\if c=true then tb σ H1 Q else Q (.bl false) H1
def WR(ta tb:TE):TE:=λσ H Q=>ta σ H λx H1=>∃c,x=.bl c/\if c=true then Q (.bl true) H1 else tb σ H1 Q
def QM(ta:TE):TE:=λσ H Q=>ta σ H λx H1=>∃c,x=.bl c/\Q (.bl (!c)) H1
theorem UG{op}{t:TE}(h:PE X a t):PE X (.BoolOp op [a] pos) t:=λpins s σ H Q I hw=>BoolOp_one (h pins s σ H Q I hw)
theorem UJ(ha:PE X a ta)(hb:PE X (.BoolOp .And (b::rest) pos) tb):PE X (.BoolOp .And (a::b::rest) pos) (QS ta tb):=by
 intro pins s σ H Q I h;refine BoolOp_and (thn (ha pins s σ H _ I h) λv s1 ⟨x,H1,I1,r1,q1⟩=>?_);obtain ⟨c,rfl,q1⟩:=q1;cases r1;refine wpAny_truthy_bool ?_;cases c with
 | true=>exact hb pins s1 σ H1 Q I1 q1
 | false=>exact ⟨.bl false,H1,I1,rfl,q1⟩
theorem XO(ha:PE X a ta)(hb:PE X (.BoolOp .Or (b::rest) pos) tb):PE X (.BoolOp .Or (a::b::rest) pos) (WR ta tb):=by
 intro pins s σ H Q I h;refine BoolOp_or (thn (ha pins s σ H _ I h) λv s1 ⟨x,H1,I1,r1,q1⟩=>?_);obtain ⟨c,rfl,q1⟩:=q1;cases r1;refine wpAny_truthy_bool ?_;cases c with
 | false=>exact hb pins s1 σ H1 Q I1 q1
 | true=>exact ⟨.bl true,H1,I1,rfl,q1⟩
theorem UH(ha:PE X a ta):PE X (.UnaryOp .Not a pos) (QM ta):=by
 intro pins s σ H Q I h;refine UnaryOp_ (thn (ha pins s σ H _ I h) λv s1 ⟨x,H1,I1,r1,q1⟩=>?_);obtain ⟨c,rfl,q1⟩:=q1;cases r1;exact not_of (wpAny_truthy_bool ⟨.bl (!c),H1,I1,rfl,q1⟩)
end
def fE(K:PySem.W.Frag)(H:Hp)(a:Addr)(xs:List V):Prop :=
 Rd H a (.lst xs) \/
  ∃(o:Obj) (its:Array Value) (n:Nat),K.lookup a=some o/\o.cls=.type "list" /\ o.dict=none/\o.data=.seq its n/\its.size<=sizeLine/\dA xs its.toList
def gK(K:PySem.W.Frag)(H:Hp)(a:Addr)(xs:List V):Prop :=
 Rd H a (.tup xs) \/
  ∃(o:Obj) (its:Array Value) (n:Nat),K.lookup a=some o/\o.cls=.type "tuple" /\ o.data=.seq its n/\its.size<=sizeLine/\dA xs its.toList
def aA7:Value->Option V
 | .none=>some .non
 | .bool b=>some (.bl b)
 | .int i _=>some (.int i)
 | .str x _=>some (.str x)
 | .bytes b _=>some (.byt b)
 | .float b _=>some (.flt b)
 | .ref a=>some (.ref a)
 | .type n=>some (.ty n)
 | _=>none
theorem dE.abs{x:V}{u:Value}(r:dE x u):aA7 u=some x:=by
 cases x with
 | non=>cases r;rfl
 | bl _=>cases r;rfl
 | int _=>obtain ⟨t,rfl⟩:=r;rfl
 | str _=>obtain ⟨t,rfl⟩:=r;rfl
 | byt _=>obtain ⟨t,rfl⟩:=r;rfl
 | flt _=>obtain ⟨t,rfl⟩:=r;rfl
 | ref _=>cases r;rfl
 | ty _=>cases r;rfl
theorem dE.inj{x y:V}{u:Value}(r:dE x u)(q:dE y u):x=y:=cO (r.abs.symm.trans q.abs)
theorem dA.inj:∀{xs ys:List V}{us:List Value},dA xs us->dA ys us->xs=ys
 | _,_,_,.nil,.nil=>rfl
 | _,_,_,.cons r t,.cons r' t'=>by rw [r.inj r',dA.inj t t']
section
variable{X:Cx}{pins:List (Addr × Obj)}{σ:St}{H:Hp}{s:Shared}{a:Addr}{xs ys:List V}
theorem fE.of{K:PySem.W.Frag}(h:H a=some (.lst xs)):fE K H a xs:=.inl (.inl h)
theorem gK.of{K:PySem.W.Frag}(h:H a=some (.tup xs)):gK K H a xs:=.inl (.inl h)
theorem cA.list(I:cA X pins σ H s)(h:fE X.K H a xs):∃its:List Value,dA xs its/\PlainL s.heap a its.toArray/\xs.length<=sizeLine:=by
 rcases h with h | ⟨o,its,n,hk,hc,hd,hs,hz,r⟩
 ·obtain ⟨z,its,n,r,e⟩:=h.ok I.hok;exact ⟨its,r,⟨_,n,e,rfl,rfl,rfl⟩,z⟩
 ·refine ⟨its.toList,r,⟨o,n,I.kIn a o hk,hc,hd,by simpa using hs⟩,?_⟩;have e:=r.length;simp only [Array.length_toList] at e;omega
theorem cA.tuple(I:cA X pins σ H s)(h:gK X.K H a xs):∃its:List Value,dA xs its/\IsTup s.heap a its.toArray/\xs.length<=sizeLine:=by
 rcases h with h | ⟨o,its,n,hk,hc,hs,hz,r⟩
 ·obtain ⟨⟨z,_⟩,its,r,p⟩:=h.ok I.hok;exact ⟨its,r,p,z⟩
 ·refine ⟨its.toList,r,⟨o,I.kIn a o hk,hc,n,by simpa using hs⟩,?_⟩;have e:=r.length;simp only [Array.length_toList] at e;omega
theorem cA.list_inj(I:cA X pins σ H s)(h:fE X.K H a xs)(h':fE X.K H a ys):xs=ys:=by
 obtain ⟨its,r,⟨o,n,e,_,_,d⟩,_⟩:=I.list h;obtain ⟨its',r',⟨o',n',e',_,_,d'⟩,_⟩:=I.list h';rw [e] at e';cases e';rw [d] at d';injection d' with d1 _;have:its=its':=by simpa using congrArg Array.toList d1
 subst this;exact r.inj r'
theorem cA.tuple_inj(I:cA X pins σ H s)(h:gK X.K H a xs)(h':gK X.K H a ys):xs=ys:=by
 obtain ⟨its,r,⟨o,e,_,n,d⟩,_⟩:=I.tuple h;obtain ⟨its',r',⟨o',e',_,n',d'⟩,_⟩:=I.tuple h';rw [e] at e';cases e';rw [d] at d';injection d' with d1 _;have:its=its':=by simpa using congrArg Array.toList d1
 subst this;exact r.inj r'
end
abbrev Cx.wish(X:Cx)(E:Value->Shared->Prop):Cx:={ X with xe:=E }
abbrev Cx.nox(X:Cx):Cx:=X.wish λ_ _=>False
theorem Cx.Ok.wish{X:Cx}(ok:X.Ok)(E:Value->Shared->Prop):(X.wish E).Ok :=
 ⟨ok.mod,ok.kind,ok.glob,ok.blt,ok.above,ok.inj,ok.has,ok.cab,ok.hd,ok.frames,ok.stk,ok.exf,ok.bs,ok.bsz,ok.noex,ok.exfs,ok.funs,ok.frf⟩
theorem Cx.Ok.unwish{X:Cx}{E:Value->Shared->Prop}(ok:(X.wish E).Ok):X.Ok :=
 ⟨ok.mod,ok.kind,ok.glob,ok.blt,ok.above,ok.inj,ok.has,ok.cab,ok.hd,ok.frames,ok.stk,ok.exf,ok.bs,ok.bsz,ok.noex,ok.exfs,ok.funs,ok.frf⟩
section
variable{X:Cx}{pins:List (Addr × Obj)}{σ:St}{H:Hp}{s:Shared}{E:Value->Shared->Prop}
theorem cA.wish(I:cA X pins σ H s)(E:Value->Shared->Prop):cA (X.wish E) pins σ H s:=⟨I.ok.wish E,I.os,I.bare,I.base,I.loc,I.cell,I.free,I.freeC,I.pin,I.hok,I.len⟩
theorem cA.unwish(I:cA (X.wish E) pins σ H s):cA X pins σ H s:=⟨I.ok.unwish,I.os,I.bare,I.base,I.loc,I.cell,I.free,I.freeC,I.pin,I.hok,I.len⟩
theorem SP.unwish{D:rX}{f:Flow}{s':Shared}(h:SP (X.wish E) pins D f s'):SP X pins D f s':=by
 cases f with
 | next=>obtain ⟨σ',H',I,q⟩:=h;exact ⟨σ',H',I.unwish,q⟩
 | brk=>obtain ⟨σ',H',I,q⟩:=h;exact ⟨σ',H',I.unwish,q⟩
 | cont=>obtain ⟨σ',H',I,q⟩:=h;exact ⟨σ',H',I.unwish,q⟩
 | ret u=>obtain ⟨v,σ',H',I,r,q⟩:=h;exact ⟨v,σ',H',I.unwish,r,q⟩
theorem CO.nox{st:List Stmt}{t:TS}(h:CO X.nox st t):CO X st t:=λpins s σ H D I hw =>
 wpAny_mono (h pins s σ H D (I.wish _) hw) (λ_ _ q=>q.unwish) λ_ _ z=>False.elim z
end
section
variable{X:Cx}{st:Stmt}{rest:List Stmt}{t u:TS}{e:Expr}{te:TE}{pos:Pos}
def QN:TS:=λD σ H=>D.nx σ H
def WO(t u:TS):TS:=λD σ H=>t { D with nx:=u D } σ H
theorem pss_nil:CO X [] QN:=λ_ _ σ H _ I h=>wpAny_execs_nil ⟨σ,H,I,h⟩
theorem JU(h1:PS X st t)(h2:CO X rest u):CO X (st::rest) (WO t u):=by
 intro pins s σ H D I h;refine wpAny_execs_cons (thn (h1 pins s σ H { D with nx:=u D } I h) λf s1 q=>?_);cases f with
 | next =>
  obtain ⟨σ',H',I',q⟩:=q;exact h2 pins s1 σ' H' D I' q
 | ret v=>exact q
 | brk=>exact q
 | cont=>exact q
theorem NU(h1:PS X st t):CO X [st] t:=by
 intro pins s σ H D I h;refine wpAny_execs_cons (thn (h1 pins s σ H D I h) λf s1 q=>?_);cases f with
 | next=>exact wpAny_execs_nil q
 | ret v=>exact q
 | brk=>exact q
 | cont=>exact q
theorem cA.quiet{pins:List (Addr × Obj)}{σ:St}{H:Hp}{s:Shared}(I:cA X pins σ H s):interactive X.env=false:=by simp [interactive,I.ok.kind]
def QO(te:TE):TS:=λD σ H=>te σ H λ_ H1=>D.nx σ H1
theorem NV(he:PE X e te)(hs:swapsWith e none pos.line X.env=pure false:=by rfl):PS X (.Expr e pos) (QO te):=by
 intro pins s σ H D I h;exact wpAny_Expr_any (thn (he pins s σ H _ I h) λv s1 ⟨x,H1,I1,r1,q1⟩=>⟨σ,H1,I1,q1⟩) I.quiet hs
def WP(te:TE):TS:=λD σ H=>te σ H D.rt
theorem TV(he:PE X e te):PS X (.Return (some e) pos) (WP te):=by
 intro pins s σ H D I h;exact wpAny_Return_some (thn (he pins s σ H _ I h) λv s1 ⟨x,H1,I1,r1,q1⟩=>⟨x,σ,H1,I1,r1,q1⟩)
def WU(c:TT)(t u:TS):TS:=λD σ H=>c σ H λb H1=>if b=true then t D σ H1 else u D σ H1
theorem XM{c:Expr}{a b:List Stmt}{tc:TT}(hc:PT X c tc)(ha:CO X a t)(hb:CO X b u):PS X (.If c a b pos) (WU tc t u):=by
 intro pins s σ H D I h;refine wpAny_If (thn (hc pins s σ H _ I h) λd s1 ⟨H1,I1,q1⟩=>?_);cases d with
 | true=>exact ha pins s1 σ H1 D I1 q1
 | false=>exact hb pins s1 σ H1 D I1 q1
end
abbrev TG:=V->St->Hp->(St->Hp->Prop)->Prop
abbrev LV:=List V->St->Hp->(St->Hp->Prop)->Prop
def PG(X:Cx)(target:Expr)(t:TG):Prop :=
 ∀(pins:List (Addr × Obj)) (s:Shared) (σ:St) (H:Hp) (v:V) (u:Value) (Q:St->Hp->Prop),cA X pins σ H s->dE v u->t v σ H Q ->
  wpAny (model X.prog X.w) X.A (assign target X.env u) (λ_ s'=>∃σ' H',cA X pins σ' H' s'/\Q σ' H') X.xe s
def YN(X:Cx)(ts:List Expr)(t:LV):Prop :=
 ∀(pins:List (Addr × Obj)) (s:Shared) (σ:St) (H:Hp) (vs:List V) (us:List Value) (Q:St->Hp->Prop),cA X pins σ H s->dA vs us->t vs σ H Q ->
  wpAny (model X.prog X.w) X.A (assignInOrder ((assignEach ts X.env).map (·.2)) us) (λ_ s'=>∃σ' H',cA X pins σ' H' s'/\Q σ' H') X.xe s
abbrev QA:=V->V->V->Hp->(Hp->Prop)->Prop
def VY(X:Cx)(t:QA):Prop :=
 ∀(pins:List (Addr × Obj)) (s:Shared) (σ:St) (H:Hp) (o i v:V) (ov iv u:Value) (Q:Hp->Prop),cA X pins σ H s->dE o ov->dE i iv->dE v u->t o i v H Q ->
  wpAny (model X.prog X.w) X.A (setItem ov iv u) (λ_ s'=>∃H',cA X pins σ H' s'/\Q H') X.xe s
section
variable{X:Cx}{pos:Pos}
def pR(i:Nat):TG:=λv σ H Q=>Q (σ.set i (some v)) H
theorem OA{i:Nat}{x:Str}(hN:X.N.Nodup)(hi:X.N[i]?=some x)(hx:WK X.env.scope x)(hf:X.fn x=true\/X.env.scope.names.lookup x=some .local:=by first | exact .inl rfl | exact .inr rfl | assumption):PG X (.Name x pos) (pR i):=by
 intro pins s σ H v u Q I r h;exact wpAny_assign_Name (mS I hN hi hx r (λs' I'=>⟨_,H,I',h⟩) hf)
def VH:LV:=λvs σ H Q=>vs=[]/\Q σ H
def KU(t:TG)(u:LV):LV:=λvs σ H Q=>∃v r,vs=v::r/\t v σ H λσ' H'=>u r σ' H' Q
theorem pgs_nil:YN X [] VH:=by
 intro pins s σ H vs us Q I r h;obtain ⟨e,h⟩:=h;subst e;cases r;exact assignInOrder_nil ⟨σ,H,I,h⟩
theorem JY{e:Expr}{es:List Expr}{t:TG}{u:LV}(h1:PG X e t)(h2:YN X es u)
  (hs:(assignEach (e::es) X.env).map (·.2)=assign e X.env::(assignEach es X.env).map (·.2):=by rfl):YN X (e::es) (KU t u):=by
 intro pins s σ H vs us Q I r h;obtain ⟨v,vr,e1,h⟩:=h;subst e1;cases r with
 | cons r rr =>
  rw [hs];refine assignInOrder_cons (thn (h1 pins s σ H _ _ _ I r h) λ_ s1 ⟨σ1,H1,I1,q1⟩=>?_);exact h2 pins s1 σ1 H1 _ _ Q I1 rr q1
def VG(K:PySem.W.Frag)(n:Nat)(t:LV):TG:=λv σ H Q=>∃a xs,v=.ref a/\gK K H a xs/\xs.length=n/\t xs σ H Q
theorem UC{es:List Expr}{k:Nat}{t:LV}{n:Nat}(hc:X.calm=true)(h:YN X es t)
  (hn:(assignEach es X.env).length=n:=by rfl) (hst:(assignEach es X.env).findIdx? (·.1)=none:=by rfl):PG X (.Tuple es k pos) (VG X.K n t):=by
 intro pins s σ H v u Q I r hw;obtain ⟨a,xs,e1,hq,hl,hw⟩:=hw;subst e1;cases r;obtain ⟨its,rv,ht,hz⟩:=I.tuple hq;refine assign_Tuple_tuple (I.ok.hd hc) ht (by simp [hn,<-hl,rv.length]) hst λh' hx=>?_;have I1:cA X pins σ H { s with heap:=h' }:=I.kept (t':=s.toks) λb o e=>hx b o (dD (aV e)) e;exact h pins _ σ H xs _ Q I1 (by simpa using rv) hw
def YE(to ti:TE)(t:QA):TG:=λv σ H Q=>to σ H λo H1=>ti σ H1 λi H2=>t o i v H2 λH3=>Q σ H3
theorem UD{o i:Expr}{to ti:TE}{t:QA}(ho:PE X o to)(hi:PE X i ti)(hs:VY X t)
  (ha:∀v,assign (.Subscript o i pos) X.env v=(do
   let ov <-holding [v] (eval o X.env)
   let iv <-holding [v,ov] (eval i X.env)
   standAt pos
   holding [v,ov,iv] (setItem ov iv v)
   release [v,ov,iv] []):=by intro _;rfl):PG X (.Subscript o i pos) (YE to ti t):=by
 intro pins s σ H v u Q I r h;rw [ha];refine wpAny_bind (wpAny_holding (thn (ho pins s σ H _ I h) λov s1 ⟨x,H1,I1,r1,q1⟩=>?_));refine wpAny_bind (wpAny_holding (thn (hi pins s1 σ H1 _ I1 q1) λiv s2 ⟨y,H2,I2,r2,q2⟩=>?_));refine wpAny_bind (wpAny_standAt (wpAny_bind (wpAny_holding (thn (hs pins s2 σ H2 x y v ov iv u _ I2 r1 r2 r q2) λ_ s3 ⟨H3,I3,q3⟩=>?_))));exact wpAny_release ⟨σ,H3,I3,q3⟩
def FQ(te:TE)(g:TG):TS:=λD σ H=>te σ H λx H1=>g x σ H1 D.nx
theorem TZ{tg e:Expr}{te:TE}{g:TG}(he:PE X e te)(hg:PG X tg g)(hs:swapsWithSole [tg] e pos.line X.env=pure false:=by rfl)(hw:swappedStores [tg] e X.env=pure none:=by rfl)
  (h1:(assignEach [tg] X.env).map (·.2)=[assign tg X.env]:=by rfl):PS X (.Assign [tg] e pos) (FQ te g):=by
 intro pins s σ H D I h;refine wpAny_Assign_stores (thn (he pins s σ H _ I h) λv s1 ⟨x,H1,I1,r1,q1⟩=>?_) hs hw;rw [h1];exact thn (hg pins s1 σ H1 x v _ I1 r1 q1) λ_ s2 q=>q
theorem TU{i:Nat}{x:Str}{e:Expr}{te:TE}{pos':Pos}(hN:X.N.Nodup)(hi:X.N[i]?=some x)(hx:WK X.env.scope x)(he:PE X e te)(hs:swapsWith e (some (.Name x pos')) pos.line X.env=pure false:=by rfl)(hf:X.fn x=true\/X.env.scope.names.lookup x=some .local:=by first | exact .inl rfl | exact .inr rfl | assumption) :
  PS X (.Assign [.Name x pos'] e pos) (FQ te (pR i)):=by
 intro pins s σ H D I h;refine wpAny_Assign_Name (thn (he pins s σ H _ I h) λv s1 ⟨y,H1,I1,r1,q1⟩=>?_) hs;exact mS I1 hN hi hx r1 (λs2 I2=>⟨_,H1,I2,q1⟩) hf
def WQ(i j:Nat)(ta:TA):TS:=λD σ H=>ta σ H λvs H1=>∃v w,vs=[v,w]/\D.nx ((σ.set i (some v)).set j (some w)) H1
theorem TW{i j:Nat}{x y:Str}{a b:Expr}{ta:TA}{px py pt:Pos}{kt k2 pt2}(hc:X.calm=true)(hN:X.N.Nodup)(hi:X.N[i]?=some x)(hj:X.N[j]?=some y)(hij:i≠j)
  (hx:X.env.scope.names.lookup x=some .local) (hy:X.env.scope.names.lookup y=some .local) (ha:PA X [a,b] ta)
  (hw:swappedStores [.Tuple [.Name x px,.Name y py] kt pt] (.Tuple [a,b] k2 pt2) X.env=pure (some [x,y]))
  (hs:swapsWithSole [.Tuple [.Name x px,.Name y py] kt pt] (.Tuple [a,b] k2 pt2) pos.line X.env=pure false:=by rfl) :
  PS X (.Assign [.Tuple [.Name x px,.Name y py] kt pt] (.Tuple [a,b] k2 pt2) pos) (WQ i j ta):=by
 intro pins s σ H D I h;rw [exec_Assign_arm];refine wpAny_bind (wpAny_standAt ?_);rw [hs];refine wpAny_bind (wpAny_pure ?_);rw [if_neg yd];refine wpAny_bind (Tuple_ (thn (ha _ pins s σ H _ I h) λus s1 ⟨vs,H1,I1,r1,q1⟩=>?_));obtain ⟨v,w,e1,q1⟩:=q1;subst e1;obtain ⟨u1,u2,rfl,rv,rw'⟩:∃u1 u2,us=[u1,u2]/\dE v u1/\dE w u2:=by
  cases r1 with
  | cons p q =>
   cases q with
   | cons p' q' =>
    cases q';exact ⟨_,_,rfl,p,p'⟩
 refine wpAny_newObj_type ?_ (by show 2<=sizeLine;decide);have I2:cA X pins σ H1 { s1 with heap:=s1.heap.push { cls:=.type "tuple",data:=.seq [u1,u2].toArray } }:=I1.kept (t':=s1.toks) λb o e=>aC _ e;rw [hw];refine wpAny_bind (wpAny_pure ?_);show wpAny (model X.prog X.w) X.A (do rule "assign.swapped-stores";let items <-unpackItems (.ref s1.heap.objs.size) 2 none;assignInOrder [λv=>bindName X.env y v,λv=>bindName X.env x v] items.reverse;pure Flow.next) _ _ _;refine wpAny_bind (wpAny_rule (wpAny_bind (unpackItems_tuple (items:=#[u1,u2]) (I.ok.hd hc) (IsTup.new s1.heap _) λh' hx'=>?_)));have I3:=I2.kept (h':=h') (t':=s1.toks) λb o e=>hx' b o (dD (aV e)) e;show wpAny _ _ (assignInOrder [λv=>bindName X.env y v,λv=>bindName X.env x v] [u2,u1] >>= λ_=>pure Flow.next) _ _ _;refine wpAny_bind (assignInOrder_cons (wpAny_bindName (mS I3 hN hj (.inl hy) rw' (λs2 I4=>?_) (.inr hy))));refine assignInOrder_cons (wpAny_bindName (mS I4 hN hi (.inl hx) rv (λs3 I5=>assignInOrder_nil (wpAny_pure ?_)) (.inr hx)));rw [List.set_comm _ _ (Ne.symm hij)] at I5;exact ⟨_,H1,I5,q1⟩
end
section
variable{X:Cx}{pos:Pos}
def wT(c:TT)(tb:TS):TS:=λD σ H=>∃W:Nat->St->Hp->Prop,(∃m,W m σ H)/\∀m σ H,W m σ H ->
 c σ H λb H1=>if b=true then ∃N:St->Hp->Prop,(∀σ' H',N σ' H'->∃m',m' < m/\W m' σ' H')/\tb { D with nx:=N,ct:=N,bk:=D.nx } σ H1 else D.nx σ H1
theorem JV{c:Expr}{body:List Stmt}{tc:TT}{tb:TS}(hp:PassesOwn (model X.prog X.w) X.A X.env X.xe)(hc:PT X c tc)(hb:CO X body tb):PS X (.While c body [] pos) (wT tc tb):=by
 intro pins s σ H D I h;obtain ⟨W,⟨m0,w0⟩,turn⟩:=h;refine wpAny_While (codeAny_whileLoop (λn s'=>∃σ' H',cA X pins σ' H' s'/\W n σ' H') ?_ m0 ⟨σ,H,I,w0⟩);rintro n s1 ⟨σ1,H1,I1,w1⟩;refine wpAny_passesOwn hp (thn (hc pins s1 σ1 H1 _ I1 (turn n σ1 H1 w1)) λb s2 ⟨H2,I2,q2⟩=>?_);cases b with
 | true =>
  obtain ⟨N,hN,q2⟩:=q2;rw [if_pos rfl];refine wpAny_passesOwn hp (thn (hb pins s2 σ1 H2 _ I2 q2) λf s3 q3=>?_);cases f with
  | next =>
   obtain ⟨σ3,H3,I3,n3⟩:=q3;obtain ⟨m',hm,w3⟩:=hN σ3 H3 n3;exact ⟨m',hm,σ3,H3,I3,w3⟩
  | cont =>
   obtain ⟨σ3,H3,I3,n3⟩:=q3;obtain ⟨m',hm,w3⟩:=hN σ3 H3 n3;exact ⟨m',hm,σ3,H3,I3,w3⟩
  | brk=>exact q3
  | ret v=>exact q3
 | false =>
  rw [if_neg bD];exact wpAny_execs_nil ⟨σ1,H2,I2,q2⟩
end
structure It where
 go:Nat->Hp->Prop
 yld:Nat->Hp->V->Hp->Prop
 stop:Nat->Hp->Prop
def jB(X:Cx)(pins:List (Addr × Obj))(H:Hp)(b:Addr):Prop :=
 H b=none/\b≠X.env.locals/\b ∉ X.fs/\(b∈X.ex\/X.s₀.heap.objs.size<=b)/\(∀x c,X.env.cells.lookup x=some c->c≠b)/\∀p∈X.pn++pins,p.1≠b
theorem cA.fpOk{X:Cx}{pins:List (Addr × Obj)}{σ:St}{H H':Hp}{s:Shared}{b:Addr}(I:cA X pins σ H s)(hb:s.heap.objs.size<=b)(hn:H' b=none):jB X pins H' b:=by
 refine ⟨hn,Nat.ne_of_gt (aX I.lt hb),I.nofs hb,.inr (aZ I.sz hb),λx c e z=>?_,λp hp z=>?_⟩
 ·obtain ⟨v,q⟩:=I.cell x c e;exact absurd (aX q.lt (by rw [z];exact hb)) (cE _)
 ·exact absurd (aX (aV (I.pin p hp).1) (by rw [z];exact hb)) (cE _)
structure yC(P:Program)(w:World)(K:PySem.W.Frag)(tg:Expr)(J:It)(fp:List Addr)(it:Addr)(tn:Nat->Heap->Prop):Prop where
 mem:it∈fp
 obj:∀i h,tn i h->∀b∈fp,∃o,h.get? b=some o/\∀v,o.data ≠ .cell v
 keep:∀i h h',tn i h->(∀b∈fp,∀o,h.get? b=some o->h'.get? b=some o)->tn i h'
 item:∀(X:Cx),X.prog=P->X.w=w->X.K=K->X.calm=true->∀(i:Nat) (pins:List (Addr × Obj)) (s:Shared) (σ:St) (H:Hp) (E:Value->Shared->Prop),cA X pins σ H s->(∀b∈fp,jB X pins H b)->tn i s.heap->J.go i H ->
  wpAny (model P w) X.A (pyNext (.ref it)) (λr s1=>∃u,r=some u /\
   wpAny (model P w) X.A (letOwnedTupleGo tg (.ref it) u) (λ_ s2=>∃x H',cA X pins σ H' s2/\dE x u/\J.yld i H x H'/\tn (i+1) s2.heap/\∀b∈fp,H' b=none) E s1) E s
 done:∀(X:Cx),X.prog=P->X.w=w->X.K=K->X.calm=true->∀(i:Nat) (pins:List (Addr × Obj)) (s:Shared) (σ:St) (H:Hp) (E:Value->Shared->Prop),cA X pins σ H s->(∀b∈fp,jB X pins H b)->tn i s.heap->J.stop i H ->
  wpAny (model P w) X.A (pyNext (.ref it)) (λr s1=>r=none/\cA X pins σ H s1) E s
 self:∀(A:Around) (i:Nat) (s:Shared) (Q:Value->Shared->Prop) (E:Value->Shared->Prop),tn i s.heap->Q (.ref it) s->wpAny (model P w) A (pyIter (.ref it)) Q E s
abbrev TI:=St->Hp->(It->Hp->Prop)->Prop
def PIE(X:Cx)(pins:List (Addr × Obj))(σ:St)(tg:Expr)(R:It->Hp->Prop)(itv:Value)(s2:Shared):Prop :=
 ∃(it:Addr) (fp:List Addr) (tn:Nat->Heap->Prop) (J:It) (H':Hp),itv=.ref it/\cA X pins σ H' s2/\yC X.prog X.w X.K tg J fp it tn/\tn 0 s2.heap/\(∀b∈fp,jB X pins H' b)/\R J H'
def PI(X:Cx)(tg iter:Expr)(wi:TI):Prop :=
 ∀(pins:List (Addr × Obj)) (s:Shared) (σ:St) (H:Hp) (R:It->Hp->Prop),cA X pins σ H s->wi σ H R ->
  wpAny (model X.prog X.w) X.A (eval iter X.env) (λv s1=>wpAny (model X.prog X.w) X.A (pyIter v) (PIE X pins σ tg R) X.xe s1) X.xe s
theorem zZ{M:Model}{A:Around}{E:Value->Shared->Prop}{s:Shared}{tg:Expr}{it:Addr}{u:Value}{o:Obj}{n:String}{vs:Array Value}{Q:Unit->Shared->Prop}(ho:s.heap.get? it=some o)(hc:o.cls=.type n)(hd:o.data=.fields vs)
    (hn:["enumerate","zip","dict_itemiterator","dict_reverseitemiterator","odict_iterator","itertools.zip_longest","itertools.pairwise"].contains n=false) (hQ:Q () s):wpAny M A (letOwnedTupleGo tg (.ref it) u) Q E s:=by
  unfold letOwnedTupleGo;cases tg <;> first
    | exact wpAny_pure hQ
    | (cases u <;> first
        | exact wpAny_pure hQ
        | (refine wpAny_bind (wpAny_load ho ?_)
           rw [hc,hd];show wpAny M A (if (["enumerate","zip","dict_itemiterator","dict_reverseitemiterator","odict_iterator","itertools.zip_longest","itertools.pairwise"].contains n&&vs[0]? == some (rawInt _))=true then _ else _) Q E s;rw [if_neg (by intro h;rw [hn,Bool.false_and] at h;cases h)];exact wpAny_pure hQ))
def MG(K:PySem.W.Frag)(a:Addr):It :=
 ⟨λi H=>∃xs x,fE K H a xs/\xs[i]?=some x,λi H x H'=>H'=H/\∀xs,fE K H a xs->xs[i]?=some x,λi H=>∃xs,fE K H a xs/\xs.length<=i⟩
def WM(K:PySem.W.Frag)(a:Addr):It :=
 ⟨λi H=>∃xs x,gK K H a xs/\xs[i]?=some x,λi H x H'=>H'=H/\∀xs,gK K H a xs->xs[i]?=some x,λi H=>∃xs,gK K H a xs/\xs.length<=i⟩
def QE(lo:Int)(n:Nat):It:=⟨λi _=>i<n,λi H x H'=>H'=H/\x=.int (lo+i),λi _=>n<=i⟩
theorem FN{P:Program}{w:World}{K:PySem.W.Frag}{tg:Expr}(a it:Addr):yC P w K tg (MG K a) [it] it (λi h=>h.IsListIter it a i) where
 mem:=by simp
 obj:=λi h st b hb=>by
  have e:b=it:=by simpa using hb
  subst e;obtain ⟨o,e,c,d⟩:=st;exact ⟨o,e,λv z=>by rw [d] at z;cases z⟩
 keep:=λi h h' st k=>st.at λo e=>k it (by simp) o e
 item:=by
  intro X hP hw hK hc i pins s σ H E I hf st hg;subst hP hw hK;obtain ⟨xs,x,hq,hx⟩:=hg;obtain ⟨its,rv,p,hz⟩:=I.list hq;obtain ⟨u,hu,ru⟩:=rv.get hx;obtain ⟨f0,f1,f2,f3,f4,f5⟩:=hf it (by simp);refine wpAny_pyNext_list_item st p.isList (x:=u) (by simpa using hu) λh' st' sb=>?_;have I1:cA X pins σ H { s with heap:=h' }:=I.turned (t':=s.toks) (λb o hb e=>(sb.2 b hb).trans e) f0 f1 f3 f4 f5;obtain ⟨o,e,c,d⟩:=id st';exact ⟨u,rfl,zZ (s:={ s with heap:=h' }) e c d yd ⟨x,H,I1,ru,⟨rfl,λys hy=>by rw [I.list_inj hy hq];exact hx⟩,st',λb hb=>(hf b hb).1⟩⟩
 done:=by
  intro X hP hw hK hc i pins s σ H E I hf st hg;subst hP hw hK;obtain ⟨xs,hq,hx⟩:=hg;obtain ⟨its,rv,p,hz⟩:=I.list hq;obtain ⟨f0,f1,f2,f3,f4,f5⟩:=hf it (by simp);have hl:=rv.length;exact wpAny_pyNext_list_end (I.ok.hd hc) st p.isList (by simp;omega) λh' eb=>⟨rfl,I.turned (t':=s.toks) (λb o hb e=>eb b o hb e) f0 f1 f3 f4 f5⟩
 self:=λ_ _ _ _ _ st h=>wpAny_pyIter_listiter st h
theorem BF{P:Program}{w:World}{K:PySem.W.Frag}{tg:Expr}(a it:Addr):yC P w K tg (WM K a) [it] it (λi h=>h.IsTupleIter it a i) where
 mem:=by simp
 obj:=λi h st b hb=>by
  have e:b=it:=by simpa using hb
  subst e;obtain ⟨o,e,c,d⟩:=st;exact ⟨o,e,λv z=>by rw [d] at z;cases z⟩
 keep:=λi h h' st k=>st.at λo e=>k it (by simp) o e
 item:=by
  intro X hP hw hK hc i pins s σ H E I hf st hg;subst hP hw hK;obtain ⟨xs,x,hq,hx⟩:=hg;obtain ⟨its,rv,p,hz⟩:=I.tuple hq;obtain ⟨u,hu,ru⟩:=rv.get hx;obtain ⟨f0,f1,f2,f3,f4,f5⟩:=hf it (by simp);refine wpAny_pyNext_tuple_item st (show s.heap.IsTuple a its.toArray from p) (x:=u) (by simpa using hu) λh' st' sb=>?_;have I1:cA X pins σ H { s with heap:=h' }:=I.turned (t':=s.toks) (λb o hb e=>(sb.2 b hb).trans e) f0 f1 f3 f4 f5;obtain ⟨o,e,c,d⟩:=id st';exact ⟨u,rfl,zZ (s:={ s with heap:=h' }) e c d yd ⟨x,H,I1,ru,⟨rfl,λys hy=>by rw [I.tuple_inj hy hq];exact hx⟩,st',λb hb=>(hf b hb).1⟩⟩
 done:=by
  intro X hP hw hK hc i pins s σ H E I hf st hg;subst hP hw hK;obtain ⟨xs,hq,hx⟩:=hg;obtain ⟨its,rv,p,hz⟩:=I.tuple hq;obtain ⟨f0,f1,f2,f3,f4,f5⟩:=hf it (by simp);have hl:=rv.length;exact wpAny_pyNext_tuple_end (I.ok.hd hc) st (show s.heap.IsTuple a its.toArray from p) (by simp;omega) λh' eb=>⟨rfl,I.turned (t':=s.toks) (λb o hb e=>eb b o hb e) f0 f1 f3 f4 f5⟩
 self:=λ_ _ _ _ _ st h=>wpAny_pyIter_tupleiter st h
theorem BG{P:Program}{w:World}{K:PySem.W.Frag}{tg:Expr}(it:Addr)(lo:Int)(n:Nat):yC P w K tg (QE lo n) [it] it (λi h=>IsRangeIter h it (lo+(i:Nat)*1) ((n:Int)-(i:Nat)) 1) where
 mem:=by simp
 obj:=λi h st b hb=>by
  have e:b=it:=by simpa using hb
  subst e;exact ⟨_,st,λv z=>by
   have z':Data.fields _=Data.cell v:=z;cases z'⟩
 keep:=λi h h' st k=>k it (by simp) _ st
 item:=by
  intro X hP hw hK hc i pins s σ H E I hf st hg;subst hP hw hK;obtain ⟨f0,f1,f2,f3,f4,f5⟩:=hf it (by simp);have W:=Walks.range (prog:=X.prog) (w:=X.w) (I.ok.hd hc) it lo 1 n;refine W.item i s _ _ hg st λv h' tk hv st' kk=>?_;obtain ⟨t,rfl⟩:=hv;have I1:cA X pins σ H { s with heap:=h',toks:=tk }:=I.turned (λb o hb e=>kk b o (by simpa using hb) e) f0 f1 f3 f4 f5;refine ⟨_,rfl,zZ (s:={ s with heap:=h',toks:=tk }) (n := "range_iterator") st' rfl rfl yd ⟨.int (lo+i),H,I1,⟨t,?_⟩,⟨rfl,rfl⟩,st',λb hb=>(hf b hb).1⟩⟩;rw [Int.mul_one]
 done:=by
  intro X hP hw hK hc i pins s σ H E I hf st hg;subst hP hw hK;obtain ⟨f0,f1,f2,f3,f4,f5⟩:=hf it (by simp);exact wpAny_pyNext_range_end (I.ok.hd hc) st (by have:n<=i:=hg;omega) λh' eb=>⟨rfl,I.turned (t':=s.toks) (λb o hb e=>eb b o hb e) f0 f1 f3 f4 f5⟩
 self:=λ_ _ _ _ _ st h=>wpAny_pyIter_rangeiter st h
section
variable{X:Cx}{tg:Expr}
def RC(K:PySem.W.Frag)(tl:TE):TI:=λσ H R=>tl σ H λx H1=>∃a,x=.ref a/\(∃xs,fE K H1 a xs)/\R (MG K a) H1
def YC(K:PySem.W.Frag)(tl:TE):TI:=λσ H R=>tl σ H λx H1=>∃a,x=.ref a/\(∃xs,gK K H1 a xs)/\R (WM K a) H1
theorem NZ{l:Expr}{tl:TE}(hl:PE X l tl):PI X tg l (RC X.K tl):=by
 intro pins s σ H R I h;refine thn (hl pins s σ H _ I h) λv s1 ⟨x,H1,I1,r1,q1⟩=>?_;obtain ⟨a,e,⟨xs,hq⟩,q⟩:=q1;subst e;cases r1;obtain ⟨its,rv,p,hz⟩:=I1.list hq;refine wpAny_pyIter_list p.isList ?_;refine ⟨s1.heap.objs.size,[s1.heap.objs.size],_,_,H1,rfl,I1.kept (t':=s1.toks) λb o e=>aC _ e,FN a _,⟨_,aS _ rfl,rfl,rfl⟩,λb hb=>?_,q⟩;have e:b=s1.heap.objs.size:=by simpa using hb
 subst e;exact I1.fpOk (aF _) (I1.hok.fresh (aF _))
theorem UB{l:Expr}{tl:TE}(hl:PE X l tl):PI X tg l (YC X.K tl):=by
 intro pins s σ H R I h;refine thn (hl pins s σ H _ I h) λv s1 ⟨x,H1,I1,r1,q1⟩=>?_;obtain ⟨a,e,⟨xs,hq⟩,q⟩:=q1;subst e;cases r1;obtain ⟨its,rv,p,hz⟩:=I1.tuple hq;refine wpAny_pyIter_tuple (show s1.heap.IsTuple a its.toArray from p) ?_;refine ⟨s1.heap.objs.size,[s1.heap.objs.size],_,_,H1,rfl,I1.kept (t':=s1.toks) λb o e=>aC _ e,BF a _,⟨_,aS _ rfl,rfl,rfl⟩,λb hb=>?_,q⟩;have e:b=s1.heap.objs.size:=by simpa using hb
 subst e;exact I1.fpOk (aF _) (I1.hok.fresh (aF _))
theorem yZ{pins:List (Addr × Obj)}{σ:St}{H:Hp}{s:Shared}{R:It->Hp->Prop}{E:Value->Shared->Prop}{lo hi:Int}{t u v:Tok}{tk:Nat}(I:cA X pins σ H s)(h1:-(2^62)<=lo)(h2:lo<2^62)(h3:-(2^62)<=hi)(h4:hi<2^62)
  (q:R (QE lo (hi-lo).toNat) H):wpAny (model X.prog X.w) X.A (pyIter (.ref s.heap.objs.size)) (PIE X pins σ tg R) E { s with heap:=s.heap.push { cls:=.type "range",data:=.fields #[.int lo t,.int hi u,.int 1 v] },toks:=tk }:=by
 refine wpAny_pyIter_range (IsRange.new ..) (small_one h1 h2 h3 h4) ?_;have I1:cA X pins σ H { s with heap:=s.heap.push { cls:=.type "range",data:=.fields #[.int lo t,.int hi u,.int 1 v] },toks:=tk }:=I.kept λb o e=>aC _ e;refine ⟨(s.heap.push { cls:=.type "range",data:=.fields #[.int lo t,.int hi u,.int 1 v] }).objs.size,[(s.heap.push { cls:=.type "range",data:=.fields #[.int lo t,.int hi u,.int 1 v] }).objs.size],_,_,H,rfl,
  I1.kept (t':=tk) λb o e=>aC _ e,BG _ lo (hi-lo).toNat,?_,λb hb=>?_,q⟩
 ·have e1:lo+((0:Nat):Int)*1=lo:=by simp
  have e2:(((hi-lo).toNat:Nat):Int)-((0:Nat):Int)=Builtin.Range.rangeSize lo hi 1:=by rw [rangeSize_one];split <;> omega
  show IsRangeIter _ _ (lo+((0:Nat):Int)*1) ((((hi-lo).toNat:Nat):Int)-((0:Nat):Int)) 1;rw [e1,e2];exact aS _ rfl
 ·have e:b=(s.heap.push { cls:=.type "range",data:=.fields #[.int lo t,.int hi u,.int 1 v] }).objs.size:=by simpa using hb
  subst e;exact I1.fpOk (aF _) (I1.hok.fresh (aF _))
def RB(ta:TA):TI:=λσ H R=>ta σ H λvs H1=>∃j:Int,vs=[.int j]/\-(2^62)<=j/\j<2^62/\R (QE 0 j.toNat) H1
def RA(ta:TA):TI:=λσ H R=>ta σ H λvs H1=>∃i j:Int,vs=[.int i,.int j]/\(-(2^62)<=i/\i<2^62/\-(2^62)<=j/\j<2^62)/\R (QE i (j-i).toNat) H1
theorem GF{a:Expr}{ta:TA}{p pos:Pos}(hg:Gl X "range")(hm:X.mg "range" = none)(ha:PA X [a] ta)(hs:starEach [a] X.env=[(false,eval a X.env)]:=by rfl):PI X tg (.Call (.Name "range" p) [a] [] pos) (RB ta):=by
 intro pins s σ H R I h;refine Call_ (rG I hg hm boot_range (PyProof.Rows.callWith_type1 (thn (ha pos pins s σ H _ I h) λus s1 ⟨vs,H1,I1,r1,q1⟩=>?_) hs rfl));obtain ⟨j,e,q1,q2,q⟩:=q1;subst e;cases r1 with
 | cons r rr =>
  cases rr;obtain ⟨t,rfl⟩:=r;exact call_range_1 (yZ I1 Oo Oo q1 q2 (by simpa using q))
theorem GE{a b:Expr}{ta:TA}{p pos:Pos}(hg:Gl X "range")(hm:X.mg "range" = none)(ha:PA X [a,b] ta)(hs:starEach [a,b] X.env=[(false,eval a X.env),(false,eval b X.env)]:=by rfl)(hs2:starEach [b] X.env=[(false,eval b X.env)]:=by rfl) :
  PI X tg (.Call (.Name "range" p) [a,b] [] pos) (RA ta):=by
 intro pins s σ H R I h;refine Call_ (rG I hg hm boot_range (PyProof.Rows.callWith_type1 (thn (ha pos pins s σ H _ I h) λus s1 ⟨vs,H1,I1,r1,q1⟩=>?_) (by rw [hs,hs2]) (by rw [hs2];rfl)));obtain ⟨i,j,e,⟨q1,q2,q3,q4⟩,q⟩:=q1;subst e;cases r1 with
 | cons r rr =>
  cases rr with
  | cons r' rr =>
   cases rr;obtain ⟨t,rfl⟩:=r;obtain ⟨t',rfl⟩:=r';exact call_range_2 (yZ I1 q1 q2 q3 q4 q)
def WV(wi:TI)(g:TG)(tb:TS):TS:=λD σ H=>wi σ H λJ H1=>∃W:Nat->Nat->St->Hp->Prop,(∃m,W 0 m σ H1)/\∀i m σ H,W i m σ H ->
 (J.stop i H/\D.nx σ H)\/(J.go i H/\∃N:St->Hp->Prop,(∀σ' H',N σ' H'->∃m',m' < m/\W (i+1) m' σ' H')/\∀x H',J.yld i H x H'->g x σ H' λσ2 H2=>tb { D with nx:=N,ct:=N,bk:=D.nx } σ2 H2)
def qW(fp:List Addr)(h:Heap):List (Addr × Obj):=fp.filterMap λb=>(h.get? b).map λo=>(b,o)
theorem iP{fp:List Addr}{h:Heap}{b:Addr}{o:Obj}(hb:b∈fp)(e:h.get? b=some o):(b,o)∈qW fp h:=List.mem_filterMap.mpr ⟨b,hb,by rw [e];rfl⟩
theorem GJ{fp:List Addr}{h:Heap}{p:Addr × Obj}(hp:p∈qW fp h):p.1∈fp/\h.get? p.1=some p.2:=by
 obtain ⟨b,hb,e⟩:=List.mem_filterMap.mp hp;cases q:h.get? b with
 | none=>rw [q] at e;cases e
 | some o =>
  rw [q] at e;have e':(b,o)=p:=cO e;subst e';exact ⟨hb,q⟩
theorem cA.pinned{pins:List (Addr × Obj)}{σ:St}{H:Hp}{s:Shared}{fp:List Addr}(I:cA X pins σ H s)(hf:∀b∈fp,jB X pins H b)(ho:∀b∈fp,∃o,s.heap.get? b=some o/\∀v,o.data ≠ .cell v):cA X (pins++qW fp s.heap) σ H s :=
 I.pins_of λp hp=>(dP.mp hp).elim (λz=>I.pin p (bH _ z)) λz=>by
  obtain ⟨hb,e⟩:=GJ z;obtain ⟨f0,f1,f2,_⟩:=hf p.1 hb;obtain ⟨o,e',d⟩:=ho p.1 hb;rw [e] at e';cases e';exact ⟨e,f0,f1,f2,d⟩
theorem cA.unpinned{pins pl:List (Addr × Obj)}{σ:St}{H:Hp}{s:Shared}(I:cA X (pins++pl) σ H s):cA X pins σ H s:=I.pins_of λp hp=>I.pin p (bH _ (bZ _ hp))
theorem TX{iter:Expr}{body:List Stmt}{wi:TI}{g:TG}{tb:TS}{pos:Pos}(hp:PassesOwn (model X.prog X.w) X.A X.env X.xe)(hc:X.calm=true)(hi:PI X tg iter wi)(hg:PG X tg g)(hb:CO X body tb)
  (hs:∀x,foldedSetIterable iter X.env x=pure x:=by intro _;rfl):PS X (.For tg iter body [] pos) (WV wi g tb):=by
 intro pins s σ H D I h;refine wpAny_For (thn (hi pins s σ H _ I h) λv s1 h1=>thn h1 λitv s2 h2=>?_) hs;obtain ⟨it,fp,tn,J,H2,e,I2,T,st2,f2,W,⟨m0,w0⟩,turn⟩:=h2;subst e;have stat:∀{H':Hp},(∀b∈fp,H' b=none)->∀b∈fp,jB X pins H' b:=λhn b hb=>⟨hn b hb,(f2 b hb).2⟩;refine codeAny_forLoop_any (λn s'=>∃i σ' H',cA X pins σ' H' s'/\tn i s'.heap/\(∀b∈fp,H' b=none)/\W i n σ' H') ?_ m0 ⟨0,σ,H2,I2,st2,λb hb=>(f2 b hb).1,w0⟩;rintro n s3 ⟨i,σ3,H3,I3,st3,fr3,w3⟩;rcases turn i n σ3 H3 w3 with ⟨stop,qn⟩ | ⟨go,N,hN,step⟩
 ·refine wpAny_passesOwn hp (thn (T.done X rfl rfl rfl hc i pins s3 σ3 H3 X.xe I3 (stat fr3) st3 stop) λr s4 ⟨hr,I4⟩=>?_);subst hr;exact wpAny_execs_nil ⟨σ3,H3,I4,qn⟩
 ·refine wpAny_passesOwn hp (thn (T.item X rfl rfl rfl hc i pins s3 σ3 H3 X.xe I3 (stat fr3) st3 go) λr s4 ⟨u,hr,h4⟩=>?_);subst hr;refine wpAny_passesOwn hp (thn h4 λ_ s5 ⟨x,H5,I5,r5,y5,st5,fr5⟩=>?_);have I5':=I5.pinned (stat fr5) (T.obj _ _ st5);refine wpAny_passesOwn hp (thn (hg _ s5 σ3 H5 x u _ I5' r5 (step x H5 y5)) λ_ s6 ⟨σ6,H6,I6,q6⟩=>?_);refine wpAny_passesOwn hp (thn (hb _ s6 σ6 H6 _ I6 q6) λf s7 q7=>?_);have again:∀{σ7:St} {H7:Hp},cA X (pins++qW fp s5.heap) σ7 H7 s7->N σ7 H7->∃m,m<n/\∃i σ' H',cA X pins σ' H' s7/\tn i s7.heap/\(∀b∈fp,H' b=none)/\W i m σ' H':=λ{σ7 H7} I7 n7=>by
   obtain ⟨m',hm,w7⟩:=hN σ7 H7 n7;refine ⟨m',hm,i+1,σ7,H7,I7.unpinned,T.keep _ _ _ st5 λb hb o e=>(I7.pin (b,o) (bH _ (bH _ (iP hb e)))).1,λb hb=>?_,w7⟩;obtain ⟨o,e,d⟩:=T.obj _ _ st5 b hb;exact (I7.pin (b,o) (bH _ (bH _ (iP hb e)))).2.1
  cases f with
  | next=>obtain ⟨σ7,H7,I7,n7⟩:=q7;exact again I7 n7
  | cont=>obtain ⟨σ7,H7,I7,n7⟩:=q7;exact again I7 n7
  | brk=>obtain ⟨σ7,H7,I7,q7⟩:=q7;exact ⟨σ7,H7,I7.unpinned,q7⟩
  | ret v=>obtain ⟨x7,σ7,H7,I7,r7,q7⟩:=q7;exact ⟨x7,σ7,H7,I7.unpinned,r7,q7⟩
end
theorem iJ{K:PySem.W.Frag}{a:Addr}{xs:List V}{g:TG}{tb:TS}{D:rX}{σ:St}{H:Hp}(Pv:Nat->St->Hp->Prop)(h0:Pv 0 σ H)(hl:∀i σ H,i<=xs.length->Pv i σ H->fE K H a xs)
  (hs:∀i x σ H,xs[i]?=some x->Pv i σ H->g x σ H λσ2 H2=>tb { D with nx:=Pv (i+1),ct:=Pv (i+1),bk:=D.nx } σ2 H2) (hd:∀σ H,Pv xs.length σ H->D.nx σ H) :
  ∃W:Nat->Nat->St->Hp->Prop,(∃m,W 0 m σ H)/\∀i m σ H,W i m σ H ->
   ((MG K a).stop i H/\D.nx σ H)\/((MG K a).go i H/\∃N:St->Hp->Prop,(∀σ' H',N σ' H'->∃m',m' < m/\W (i+1) m' σ' H')/\∀x H',(MG K a).yld i H x H'->g x σ H' λσ2 H2=>tb { D with nx:=N,ct:=N,bk:=D.nx } σ2 H2):=by
 refine ⟨λi m σ H=>m=xs.length-i/\i<=xs.length/\Pv i σ H,⟨xs.length,by simp,cM _,h0⟩,?_⟩;rintro i m σ H ⟨rfl,hi,p⟩;have q:=hl i σ H hi p;by_cases hlt:i<xs.length
 ·refine .inr ⟨⟨xs,xs[i],q,by simp [hlt]⟩,Pv (i+1),λσ' H' p'=>⟨xs.length-(i+1),Oo,rfl,hlt,p'⟩,λx H' y=>?_⟩;obtain ⟨e,y⟩:=y;subst e;exact hs i x σ _ (y xs q) p
 ·have e:i=xs.length:=Oo;subst e;exact .inl ⟨⟨xs,q,aF _⟩,hd σ H p⟩
theorem pU{K:PySem.W.Frag}{a:Addr}{xs:List V}{g:TG}{tb:TS}{D:rX}{σ:St}{H:Hp}(Pv:Nat->St->Hp->Prop)(h0:Pv 0 σ H)(hl:∀i σ H,i<=xs.length->Pv i σ H->gK K H a xs)
  (hs:∀i x σ H,xs[i]?=some x->Pv i σ H->g x σ H λσ2 H2=>tb { D with nx:=Pv (i+1),ct:=Pv (i+1),bk:=D.nx } σ2 H2) (hd:∀σ H,Pv xs.length σ H->D.nx σ H) :
  ∃W:Nat->Nat->St->Hp->Prop,(∃m,W 0 m σ H)/\∀i m σ H,W i m σ H ->
   ((WM K a).stop i H/\D.nx σ H)\/((WM K a).go i H/\∃N:St->Hp->Prop,(∀σ' H',N σ' H'->∃m',m' < m/\W (i+1) m' σ' H')/\∀x H',(WM K a).yld i H x H'->g x σ H' λσ2 H2=>tb { D with nx:=N,ct:=N,bk:=D.nx } σ2 H2):=by
 refine ⟨λi m σ H=>m=xs.length-i/\i<=xs.length/\Pv i σ H,⟨xs.length,by simp,cM _,h0⟩,?_⟩;rintro i m σ H ⟨rfl,hi,p⟩;have q:=hl i σ H hi p;by_cases hlt:i<xs.length
 ·refine .inr ⟨⟨xs,xs[i],q,by simp [hlt]⟩,Pv (i+1),λσ' H' p'=>⟨xs.length-(i+1),Oo,rfl,hlt,p'⟩,λx H' y=>?_⟩;obtain ⟨e,y⟩:=y;subst e;exact hs i x σ _ (y xs q) p
 ·have e:i=xs.length:=Oo;subst e;exact .inl ⟨⟨xs,q,aF _⟩,hd σ H p⟩
theorem gM{lo:Int}{n:Nat}{g:TG}{tb:TS}{D:rX}{σ:St}{H:Hp}(Pv:Nat->St->Hp->Prop)(h0:Pv 0 σ H)
  (hs:∀i σ H,i<n->Pv i σ H->g (.int (lo+i)) σ H λσ2 H2=>tb { D with nx:=Pv (i+1),ct:=Pv (i+1),bk:=D.nx } σ2 H2) (hd:∀σ H,Pv n σ H->D.nx σ H) :
  ∃W:Nat->Nat->St->Hp->Prop,(∃m,W 0 m σ H)/\∀i m σ H,W i m σ H ->
   ((QE lo n).stop i H/\D.nx σ H)\/((QE lo n).go i H/\∃N:St->Hp->Prop,(∀σ' H',N σ' H'->∃m',m' < m/\W (i+1) m' σ' H')/\∀x H',(QE lo n).yld i H x H'->g x σ H' λσ2 H2=>tb { D with nx:=N,ct:=N,bk:=D.nx } σ2 H2):=by
 refine ⟨λi m σ H=>m=n-i/\i<=n/\Pv i σ H,⟨n,by simp,cM _,h0⟩,?_⟩;rintro i m σ H ⟨rfl,hi,p⟩;by_cases hlt:i<n
 ·refine .inr ⟨hlt,Pv (i+1),λσ' H' p'=>⟨n-(i+1),Oo,rfl,hlt,p'⟩,λx H' y=>?_⟩;obtain ⟨e,y⟩:=y;subst e y;exact hs i σ _ hlt p
 ·have e:i=n:=Oo;subst e;exact .inl ⟨aF _,hd σ H p⟩
abbrev R2:=V->V->Hp->VK->Prop
def oK(X:Cx)(f:Value->Value->Sem Value)(r:R2):Prop :=
 ∀(pins:List (Addr × Obj)) (s:Shared) (σ:St) (H:Hp) (x y:V) (v u:Value) (Q:VK),cA X pins σ H s->dE x v->dE y u->r x y H Q ->
  wpAny (model X.prog X.w) X.A (f v u) (EP X pins σ Q) X.xe s
def ZI(X:Cx)(f:Value->Sem Value)(r:V->Hp->VK->Prop):Prop :=
 ∀(pins:List (Addr × Obj)) (s:Shared) (σ:St) (H:Hp) (x:V) (v:Value) (Q:VK),cA X pins σ H s->dE x v->r x H Q ->
  wpAny (model X.prog X.w) X.A (f v) (EP X pins σ Q) X.xe s
def gW(X:Cx)(f:Value)(r:List V->Hp->VK->Prop):Prop :=
 ∀(pins:List (Addr × Obj)) (s:Shared) (σ:St) (H:Hp) (xs:List V) (us:List Value) (Q:VK),cA X pins σ H s->dA xs us->r xs H Q ->
  wpAny (model X.prog X.w) X.A (call f us) (EP X pins σ Q) X.xe s
def MS(r:R2)(ta tb:TE):TE:=λσ H Q=>ta σ H λx H1=>tb σ H1 λy H2=>r x y H2 Q
def tUn(r:V->Hp->VK->Prop)(ta:TE):TE:=λσ H Q=>ta σ H λx H1=>r x H1 Q
def rI(C:Int->Int->Prop)(g:Int->Int->V):R2:=λx y H Q=>∃i j,x=.int i/\y=.int j/\C i j/\Q (g i j) H
def QU(g:Int->Int->V):R2:=λx y H Q=>∃i j,x=.int i/\y=.int j/\Q (g i j) H
def rU(g:Int->V):V->Hp->VK->Prop:=λx H Q=>∃i,x=.int i/\Q (g i) H
section
variable{X:Cx}{a b c:Expr}{ta tb tc:TE}{pos:Pos}
theorem VT(ha:PE X a ta)(hb:PE X b tb){pins:List (Addr × Obj)}{s:Shared}{σ:St}{H:Hp}{R:V->V->Hp->Prop}(I:cA X pins σ H s)
  (h:ta σ H λx H1=>tb σ H1 λy H2=>R x y H2) {Q:Value->Shared->Prop} {f:Value->Value->Sem Value}
  (hf:∀v u s2 x y H2,cA X pins σ H2 s2->dE x v->dE y u->R x y H2->wpAny (model X.prog X.w) X.A (f v u) Q X.xe s2) :
  wpAny (model X.prog X.w) X.A (eval a X.env) (λv s₁=>wpAny (model X.prog X.w) X.A (eval b X.env) (λu s₂=>wpAny (model X.prog X.w) X.A (f v u) Q X.xe s₂) X.xe s₁) X.xe s:=by
 refine thn (ha pins s σ H _ I h) λv s1 ⟨x,H1,I1,r1,q1⟩=>?_;refine thn (hb pins s1 σ H1 _ I1 q1) λu s2 ⟨y,H2,I2,r2,q2⟩=>?_;exact hf v u s2 x y H2 I2 r1 r2 q2
theorem XQ{op:Operator}{r:R2}(ho:oK X (binaryOp op) r)(ha:PE X a ta)(hb:PE X b tb):PE X (.BinOp a op b pos) (MS r ta tb):=by
 intro pins s σ H Q I h;exact wpAny_BinOp (VT ha hb I h λv u s2 x y H2 I2 rx ry q=>ho pins s2 σ H2 x y v u Q I2 rx ry q)
theorem XN{op:UnaryOp}{r:V->Hp->VK->Prop}(ho:ZI X (unaryOp op) r)(ha:PE X a ta):PE X (.UnaryOp op a pos) (tUn r ta):=by
 intro pins s σ H Q I h;exact UnaryOp_ (thn (ha pins s σ H _ I h) λv s1 ⟨x,H1,I1,r1,q1⟩=>ho pins s1 σ H1 x v Q I1 r1 q1)
theorem ZA{f:Value->Value->Sem Value}{C:Int->Int->Prop}{g:Int->Int->Int}
  (rule:∀(i j:Int) (t u:Tok) (s:Shared) (Q:Value->Shared->Prop) (E:Value->Shared->Prop),C i j->Q (.int (g i j) s.toks) { s with toks:=s.toks+1 }->wpAny (model X.prog X.w) X.A (f (.int i t) (.int j u)) Q E s) :
  oK X f (rI C λi j=>.int (g i j)):=by
 intro pins s σ H x y v u Q I rx ry h;obtain ⟨i,j,rfl,rfl,hc,q⟩:=h;obtain ⟨t,rfl⟩:=rx;obtain ⟨t',rfl⟩:=ry;exact rule i j t t' s _ _ hc ⟨.int (g i j),H,I.tok _,⟨_,rfl⟩,q⟩
theorem XW{f:Value->Value->Sem Value}{g:Int->Int->Int}
  (rule:∀(i j:Int) (t u:Tok) (s:Shared) (Q:Value->Shared->Prop) (E:Value->Shared->Prop),Q (.int (g i j) s.toks) { s with toks:=s.toks+1 }->wpAny (model X.prog X.w) X.A (f (.int i t) (.int j u)) Q E s) :
  oK X f (QU λi j=>.int (g i j)):=by
 intro pins s σ H x y v u Q I rx ry h;obtain ⟨i,j,rfl,rfl,q⟩:=h;obtain ⟨t,rfl⟩:=rx;obtain ⟨t',rfl⟩:=ry;exact rule i j t t' s _ _ ⟨.int (g i j),H,I.tok _,⟨_,rfl⟩,q⟩
theorem OL{f:Value->Value->Sem Value}{g:Int->Int->Bool}
  (rule:∀(i j:Int) (t u:Tok) (s:Shared) (Q:Value->Shared->Prop) (E:Value->Shared->Prop),Q (.bool (g i j)) s->wpAny (model X.prog X.w) X.A (f (.int i t) (.int j u)) Q E s) :
  oK X f (QU λi j=>.bl (g i j)):=by
 intro pins s σ H x y v u Q I rx ry h;obtain ⟨i,j,rfl,rfl,q⟩:=h;obtain ⟨t,rfl⟩:=rx;obtain ⟨t',rfl⟩:=ry;exact rule i j t t' s _ _ ⟨.bl (g i j),H,I,rfl,q⟩
def aBe(i j:Int):Prop:=0<=j/\j<=1000000/\i.natAbs<2^64
theorem eS:oK X (binaryOp .Add) (QU λi j=>.int (i+j)):=XW λ_ _ _ _ _ _ _ q=>add_int q
theorem qY:oK X (binaryOp .Sub) (QU λi j=>.int (i-j)):=XW λ_ _ _ _ _ _ _ q=>sub_int q
theorem kJ:oK X (binaryOp .Mod) (rI (λ_ j=>0<j) λi j=>.int (i % j)):=ZA λi j _ _ _ _ _ hc q=>by
 have h1:(0:Int)<j:=hc;exact mod_int' Oo (by rw [Int.fmod_eq_emod_of_nonneg i Oo];exact q)
theorem UM:oK X (binaryOp .Pow) (rI aBe λi j=>.int (i^j.toNat)):=ZA λ_ _ _ _ _ _ _ hc q=>pow_int_small hc.1 hc.2.1 hc.2.2 q
theorem unI{f:Value->Sem Value}{g:Int->Int}
  (rule:∀(i:Int) (t:Tok) (s:Shared) (Q:Value->Shared->Prop) (E:Value->Shared->Prop),Q (.int (g i) s.toks) { s with toks:=s.toks+1 }->wpAny (model X.prog X.w) X.A (f (.int i t)) Q E s) :
  ZI X f (rU λi=>.int (g i)):=by
 intro pins s σ H x v Q I rx h;obtain ⟨i,rfl,q⟩:=h;obtain ⟨t,rfl⟩:=rx;exact rule i t s _ _ ⟨.int (g i),H,I.tok _,⟨_,rfl⟩,q⟩
theorem BE:ZI X (unaryOp .USub) (rU λi=>.int (-i)):=unI λ_ _ _ _ _ q=>neg_int q
end
def scal:V->V->Bool
 | .non,.non=>true | .non,.int _=>true | .int _,.non=>true | .non,.bl _=>true | .bl _,.non=>true | .non,.str _=>true | .str _,.non=>true
 | .int _,.int _=>true | .bl _,.bl _=>true | .str _,.str _=>true | .byt _,.byt _=>true
 | .int _,.str _=>true | .str _,.int _=>true | .bl _,.str _=>true | .str _,.bl _=>true
 | _,_=>false
def rEq:R2:=λx y H Q=>scal x y=true/\Q (.bl (decide (x=y))) H
def rNe:R2:=λx y H Q=>scal x y=true/\Q (.bl (!decide (x=y))) H
theorem ES{i j:Int}:decide (V.int i=V.int j)=(i == j):=by
 rw [Bool.eq_iff_iff];simp
theorem LA{i j:Bool}:decide (V.bl i=V.bl j)=(i == j):=by
 rw [Bool.eq_iff_iff];simp
theorem ER{i j:Str}:decide (V.str i=V.str j)=(i == j):=by
 rw [Bool.eq_iff_iff];simp
theorem ET{i j:Array UInt8}:decide (V.byt i=V.byt j)=(i.toList == j.toList):=by
 rw [Bool.eq_iff_iff];cases i;cases j;simp
section
variable{X:Cx}{a b c:Expr}{ta tb tc:TE}{pos:Pos}
theorem dS{pins:List (Addr × Obj)}{σ:St}{H:Hp}{s:Shared}{Q:VK}{k k':Bool}(I:cA X pins σ H s)(q:Q (.bl k) H)(e:k=k'):EP X pins σ Q (.bool k') s:=by
 subst e;exact ⟨.bl k,H,I,rfl,q⟩
theorem zJ:oK X (compareOp .Eq) rEq:=by
 intro pins s σ H x y v u Q I rx ry h;obtain ⟨hs,q⟩:=h;cases x with
 | non =>
  cases rx;cases y with
  | non=>cases ry;exact PySem.EqNone.eq_none_none (dS I q (by simp))
  | bl j=>cases ry;exact PySem.EqNone.eq_none_bool (dS I q (by simp))
  | int j=>obtain ⟨t',rfl⟩:=ry;exact PySem.EqNone.eq_none_int (dS I q (by simp))
  | str j=>obtain ⟨t',rfl⟩:=ry;exact PySem.EqNone.eq_none_str (dS I q (by simp))
  | _=>exact absurd (show false=true from hs) bD
 | bl i =>
  cases rx;cases y with
  | non=>cases ry;exact PySem.EqNone.eq_bool_none (dS I q (by simp))
  | bl j=>cases ry;exact eq_bool (dS I q LA)
  | str j=>obtain ⟨t',rfl⟩:=ry;exact PySem.EqMixed.eq_bool_str (dS I q (by simp))
  | _=>exact absurd (show false=true from hs) bD
 | int i =>
  obtain ⟨t,rfl⟩:=rx;cases y with
  | non=>cases ry;exact PySem.EqNone.eq_int_none (dS I q (by simp))
  | int j=>obtain ⟨t',rfl⟩:=ry;exact eq_int (dS I q ES)
  | str j=>obtain ⟨t',rfl⟩:=ry;exact PySem.EqMixed.eq_int_str (dS I q (by simp))
  | _=>exact absurd (show false=true from hs) bD
 | str i =>
  obtain ⟨t,rfl⟩:=rx;cases y with
  | non=>cases ry;exact PySem.EqNone.eq_str_none (dS I q (by simp))
  | bl j=>cases ry;exact PySem.EqMixed.eq_str_bool (dS I q (by simp))
  | int j=>obtain ⟨t',rfl⟩:=ry;exact PySem.EqMixed.eq_str_int (dS I q (by simp))
  | str j=>obtain ⟨t',rfl⟩:=ry;exact eq_str (dS I q ER)
  | _=>exact absurd (show false=true from hs) bD
 | byt i =>
  obtain ⟨t,rfl⟩:=rx;cases y with
  | byt j=>obtain ⟨t',rfl⟩:=ry;exact PySem.W.eq_bytes (dS I q ET)
  | _=>exact absurd (show false=true from hs) bD
 | _=>cases y <;> exact absurd (show false=true from hs) bD
theorem vN:oK X (compareOp .NotEq) rNe:=by
 intro pins s σ H x y v u Q I rx ry h;obtain ⟨hs,q⟩:=h;cases x with
 | non =>
  cases rx;cases y with
  | non=>cases ry;exact PySem.EqNone.ne_none_none (dS I q (by simp))
  | bl j=>cases ry;exact PySem.EqNone.ne_none_bool (dS I q (by simp))
  | int j=>obtain ⟨t',rfl⟩:=ry;exact PySem.EqNone.ne_none_int (dS I q (by simp))
  | str j=>obtain ⟨t',rfl⟩:=ry;exact PySem.EqNone.ne_none_str (dS I q (by simp))
  | _=>exact absurd (show false=true from hs) bD
 | bl i =>
  cases rx;cases y with
  | non=>cases ry;exact PySem.EqNone.ne_bool_none (dS I q (by simp))
  | bl j=>cases ry;exact ne_bool (dS I q (congrArg not LA))
  | str j=>obtain ⟨t',rfl⟩:=ry;exact PySem.EqMixed.ne_bool_str (dS I q (by simp))
  | _=>exact absurd (show false=true from hs) bD
 | int i =>
  obtain ⟨t,rfl⟩:=rx;cases y with
  | non=>cases ry;exact PySem.EqNone.ne_int_none (dS I q (by simp))
  | int j=>obtain ⟨t',rfl⟩:=ry;exact ne_int (dS I q (congrArg not ES))
  | str j=>obtain ⟨t',rfl⟩:=ry;exact PySem.EqMixed.ne_int_str (dS I q (by simp))
  | _=>exact absurd (show false=true from hs) bD
 | str i =>
  obtain ⟨t,rfl⟩:=rx;cases y with
  | non=>cases ry;exact PySem.EqNone.ne_str_none (dS I q (by simp))
  | bl j=>cases ry;exact PySem.EqMixed.ne_str_bool (dS I q (by simp))
  | int j=>obtain ⟨t',rfl⟩:=ry;exact PySem.EqMixed.ne_str_int (dS I q (by simp))
  | str j=>obtain ⟨t',rfl⟩:=ry;exact ne_str (dS I q (congrArg not ER))
  | _=>exact absurd (show false=true from hs) bD
 | byt i =>
  obtain ⟨t,rfl⟩:=rx;cases y with
  | byt j=>obtain ⟨t',rfl⟩:=ry;exact PySem.W.ne_bytes (dS I q (congrArg not ET))
  | _=>exact absurd (show false=true from hs) bD
 | _=>cases y <;> exact absurd (show false=true from hs) bD
theorem QV:oK X (compareOp .Lt) (QU λi j=>.bl (decide (i<j))):=OL λ_ _ _ _ _ _ _ q=>lt_int q
theorem QW:oK X (compareOp .LtE) (QU λi j=>.bl (decide (i<=j))):=OL λ_ _ _ _ _ _ _ q=>le_int q
theorem zI:oK X (compareOp .Gt) (QU λi j=>.bl (decide (j<i))):=OL λ_ _ _ _ _ _ _ q=>gt_int q
theorem XV:oK X (compareOp .GtE) (QU λi j=>.bl (decide (j<=i))):=OL λ_ _ _ _ _ _ _ q=>ge_int q
theorem nomark(b:Expr){op:CmpOp}(h:op ≠ .In:=by decide)(h2:op ≠ .NotIn:=by decide):behindInMarks op b=false:=by
 have e1:(op == CmpOp.In)=false:=by cases op <;> first | rfl | exact absurd rfl h
 have e2:(op == CmpOp.NotIn)=false:=by cases op <;> first | rfl | exact absurd rfl h2
 cases b <;> simp [behindInMarks,e1,e2]
theorem OE{op:CmpOp}{r:R2}(ho:oK X (compareOp op) r)(ha:PE X a ta)(hb:PE X b tb)(hm:behindInMarks op b=false):PE X (.Compare a [op] [b] pos) (MS r ta tb):=by
 intro pins s σ H Q I h;exact wpAny_Compare1 (VT ha hb I h λv u s2 x y H2 I2 rx ry q=>ho pins s2 σ H2 x y v u Q I2 rx ry q) hm
def QK(t:TE):TT:=λσ H Q=>t σ H λx H'=>∃k,x=.bl k/\Q k H'
theorem NT{op:CmpOp}{r:R2}(ho:oK X (compareOp op) r)(ha:PE X a ta)(hb:PE X b tb)(hm:behindInMarks op b=false):PT X (.Compare a [op] [b] pos) (QK (MS r ta tb)):=by
 intro pins s σ H Q I h;refine wpAny_isTrue_Compare1 (thn (ha pins s σ H _ I h) λv s1 ⟨x,H1,I1,r1,q1⟩=>thn (hb pins s1 σ H1 _ I1 q1) λu s2 ⟨y,H2,I2,r2,q2⟩ =>
  thn (ho pins s2 σ H2 x y v u _ I2 r1 r2 q2) λc s3 ⟨z,H3,I3,r3,k,e,q3⟩=>?_) hm
 subst e;cases r3;exact wpAny_truthy_bool ⟨H3,I3,q3⟩
theorem tX:(sizeLine:Nat)<2^63:=by rw [sizeLine_eq];decide
theorem mO{x:V}{us:List Value}(r:dA [x] us):∃u,us=[u]/\dE x u:=by
 cases r with
 | cons r1 r2=>cases r2;exact ⟨_,rfl,r1⟩
theorem QJ{x y:V}{us:List Value}(r:dA [x,y] us):∃u w',us=[u,w']/\dE x u/\dE y w':=by
 cases r with
 | cons r1 r2 =>
  cases r2 with
  | cons r3 r4=>cases r4;exact ⟨_,_,rfl,r1,r3⟩
theorem LM:gW X (.builtin "abs") (λxs H Q=>∃i,xs=[.int i]/\Q (.int (if i<0 then -i else i)) H):=by
 intro pins s σ H xs us Q I r h;obtain ⟨i,rfl,q⟩:=h;obtain ⟨u,rfl,t,rfl⟩:=mO r;exact call_abs_int λu tk=>⟨.int (if i<0 then -i else i),H,I.tok _,⟨_,rfl⟩,q⟩
theorem rP:gW X (.type "int") (λxs H Q=>(∃i,xs=[.int i]/\Q (.int i) H)\/∃k,xs=[.bl k]/\Q (.int (if k then 1 else 0)) H):=by
 intro pins s σ H xs us Q I r h;rcases h with ⟨i,rfl,q⟩ | ⟨k,rfl,q⟩
 ·obtain ⟨u,rfl,t,rfl⟩:=mO r;exact call_int_int ⟨.int i,H,I,⟨_,rfl⟩,q⟩
 ·obtain ⟨u,rfl,r1⟩:=mO r;cases r1;exact call_int_bool ⟨.int (if k then 1 else 0),H,I.tok _,⟨_,rfl⟩,q⟩
def YR(K:PySem.W.Frag)(x:V)(H:Hp)(n:Nat):Prop :=
 match x with
 | .str y=>y.length<=sizeLine/\n=y.length
 | .byt y=>y.size<=sizeLine/\n=y.size
 | .ref p=>(∃xs,fE K H p xs/\n=xs.length)\/∃xs,gK K H p xs/\n=xs.length
 | _=>False
theorem LL:gW X (.builtin "len") (λxs H Q=>∃x n,xs=[x]/\YR X.K x H n/\Q (.int n) H):=by
 intro pins s σ H xs us Q I r h;obtain ⟨x,n,rfl,e,q⟩:=h;obtain ⟨u,rfl,rx⟩:=mO r;have hl:=tX;have hs:sizeLine=16777216:=sizeLine_eq;cases x with
 | str y =>
  obtain ⟨t,rfl⟩:=rx;obtain ⟨hy,e'⟩:y.length<=sizeLine/\n=y.length:=e;subst e';exact len_str Oo ⟨.int _,H,I.tok _,⟨_,rfl⟩,q⟩
 | byt y =>
  obtain ⟨t,rfl⟩:=rx;obtain ⟨hy,e'⟩:y.size<=sizeLine/\n=y.size:=e;subst e';exact PySem.W.len_bytes Oo ⟨.int _,H,I.tok _,⟨_,rfl⟩,q⟩
 | ref p =>
  cases rx;have e':(∃xs,fE X.K H p xs/\n=xs.length)\/∃xs,gK X.K H p xs/\n=xs.length:=e;rcases e' with ⟨xs,hx,e'⟩ | ⟨xs,hx,e'⟩
  ·subst e';obtain ⟨its,r',pl,hz⟩:=I.list hx;have hlen:=r'.length;exact Calls.call_len_list pl.isList (by simp only [aU];omega) ⟨.int xs.length,H,I.tok _,⟨_,by simp only [aU];rw [hlen]⟩,q⟩
  ·subst e';obtain ⟨its,r',pl,hz⟩:=I.tuple hx;have hlen:=r'.length;exact len_tuple pl (by simp only [aU];omega) ⟨.int xs.length,H,I.tok _,⟨_,by simp only [aU];rw [hlen]⟩,q⟩
 | _=>exact (show False from e).elim
end
structure VZ(h:Heap)(x dx C:Addr)(mA:Str->Option Value):Prop where
 obj:h.get? x=some (PySem.W.instObj C dx)
 ns:h.Ns1 dx mA
 ne:dx≠x
theorem GN{h:Heap}{dx:Addr}{mA:Str->Option Value}(n:h.Ns1 dx mA):∃od,h.get? dx=some od/\∀name,PySem.W.lookIn name od=some (mA name):=by
 obtain ⟨o,es,ep,ho,hd,hk,_,hm⟩:=n;refine ⟨o,ho,λname=>?_⟩;have e:=hm name;unfold nsFind findBy at e;rw [<-Array.find?_toList] at e;unfold PySem.W.lookIn;rw [hd];dsimp only;split
 ·rename_i y q
  rw [q] at e;exact congrArg some e
 ·rename_i q
  rw [q] at e;have a:es.toList.any (·.refKey)=false:=by
   rw [List.any_eq_false];intro y hy;obtain ⟨z,t,hkey⟩:=hk y (Array.mem_toList_iff.mp hy);simp [DictEntry.refKey,hkey]
  have a':¬es.toList.any (·.refKey)=true:=by rw [a];exact bD
  rw [if_neg a'];exact congrArg some e
theorem VZ.look{h:Heap}{x dx C:Addr}{mA:Str->Option Value}(I:VZ h x dx C mA):∃od,PySem.W.InstAt h x (PySem.W.instObj C dx) C (some od)/\∀name,PySem.W.lookIn name od=some (mA name) :=
 let ⟨od,ho,hl⟩:=GN I.ns
 ⟨od,⟨I.obj,rfl,rfl,ho⟩,hl⟩
section
variable{prog:Program}{w:World}{A:Around}{E:Value->Shared->Prop}{s:Shared}{K:PySem.W.Frag}{x dx C f:Addr}{mA:Str->Option Value}{name:Str}{v:Value}
end
theorem rT.some_of{v:V}{o:Option Value}(r:rT (some v) o):∃u,o=some u/\dE v u:=by
 cases o with
 | none=>exact (show False from r).elim
 | some u=>exact ⟨u,rfl,r⟩
section
variable{P:Program}{w:World}{H H':Hp}{h h':Heap}{a C dx:Addr}{fs fs':List (Str × V)}
theorem OV(hok:mK P w H h)(e:H a=some (.ins C dx fs)):∃mA,VZ h a dx C mA/\(∀f,rT (fs.lookup f) (mA f))/\PySem.Within mA (fs.map (·.1))/\fs.length<=1000/\H dx=some (.own a):=by
 obtain ⟨d,z,ne,ob,mA,n,r,q⟩:=(show dY P w H h a (.ins C dx fs) from hok a _ e);exact ⟨mA,⟨ob,n,ne⟩,r,q,z,d⟩
end
structure Cls(K:PySem.W.Frag)(C:Addr):Prop where
 pg:PySem.W.plainGet K C Str.empty=true
 hd:PySem.W.hasDictIn K C=true
 po:PySem.W.plainOver K C=true
 sa:PySem.W.findIn K (.ref C) "__setattr__" = some (some (.builtin "object.__setattr__"))
theorem Cls.get{K:PySem.W.Frag}{C:Addr}(c:Cls K C)(f:Str):PySem.W.plainGet K C f=true:=c.pg
section
variable{X:Cx}{pins:List (Addr × Obj)}{σ:St}{H:Hp}{s:Shared}{a C dx:Addr}{fs:List (Str × V)}{f:Str}{v:V}{A:Around}{E:Value->Shared->Prop}
end
section
variable{X:Cx}{o e value:Expr}{f:Str}{pos pos' tpos:Pos}{ta tv:TE}
end
section
variable{X:Cx}{pins:List (Addr × Obj)}{σ:St}{H:Hp}{s:Shared}{A:Around}{E:Value->Shared->Prop}{Q:Value->Shared->Prop}{c:Value}{b:Bool}
inductive rR (K:PySem.W.Frag) (H:Hp):V->Value->Prop where
 | non:rR K H .non (.type "NoneType")
 | bl (x:Bool):rR K H (.bl x) (.type "bool")
 | int (i:Int):rR K H (.int i) (.type "int")
 | str (x:Str):rR K H (.str x) (.type "str")
 | flt (x:UInt64):rR K H (.flt x) (.type "float")
 | lst {a:Addr} {xs:List V} (e:H a=some (.lst xs)):rR K H (.ref a) (.type "list")
 | frz {a:Addr} {o:Obj} {xs:List V} (e:H a=some (.frz o (.lst xs))):rR K H (.ref a) (.type "list")
 | tup {a:Addr} {xs:List V} (e:H a=some (.tup xs)):rR K H (.ref a) (.type "tuple")
 | dK {a:Addr} {kvs:List (eG × V)} (e:H a=some (.dK kvs)):rR K H (.ref a) (.type "dict")
 | dT {a:Addr} {kvs:List (List eG × V)} (e:H a=some (.dT kvs)):rR K H (.ref a) (.type "dict")
 | ins {a C dx:Addr} {fs:List (Str × V)} (e:H a=some (.ins C dx fs)) (cl:Cls K C) (ha:PySem.W.findIn K (.ref C) "__class__" = some (some (.builtin "object.__class__")))
   (hn:PySem.W.specialIn K (.builtin "object.__class__") "__get__" = some (some (.builtin "getset_descriptor.__get__"))) (htk:PySem.W.takesIn K (.builtin "object.__class__")=some true)
   (hm:PySem.W.mroIn K C (.type "object")=some true):rR K H (.ref a) (.ref C)
theorem GR{x:V}{u t:Value}(I:cA X pins σ H s)(rx:dE x u)(ty:rR X.K H x t)(e:PySem.W.kitOne X.K t c=some b)(h:∀tk,Q (.bool b) { s with toks:=tk }) :
  wpAny (model X.prog X.w) A (call (.builtin "isinstance") [u,c]) Q E s:=by
 cases ty with
 | non=>cases (show u=Value.none from rx);exact PySem.W.kia_one PySem.W.kitx_none I.kIn True.intro e (λz=>nomatch z) h
 | bl y=>cases (show u=Value.bool y from rx);exact PySem.W.kia_one PySem.W.kitx_bool I.kIn True.intro e (λz=>nomatch z) h
 | int i=>obtain ⟨t,q⟩:=(show ∃t,u=Value.int i t from rx);cases q;exact PySem.W.kia_one PySem.W.kitx_int I.kIn True.intro e (λz=>nomatch z) h
 | str y=>obtain ⟨t,q⟩:=(show ∃t,u=Value.str y t from rx);cases q;exact PySem.W.kia_one PySem.W.kitx_str I.kIn True.intro e (λz=>nomatch z) h
 | flt y=>obtain ⟨t,q⟩:=(show ∃t,u=Value.float y t from rx);cases q;exact PySem.W.kia_one PySem.W.kitx_float I.kIn True.intro e (λz=>nomatch z) h
 | @lst a xs ea =>
  cases (show u=Value.ref a from rx);obtain ⟨_,_,n,_,h1⟩:=(show dY X.prog X.w H s.heap a (.lst xs) from I.hok a _ ea);exact PySem.W.kia_one PySem.W.kitx_list I.kIn ⟨_,h1,rfl⟩ e (λz=>nomatch z) h
 | @frz a ob xs ea =>
  cases (show u=Value.ref a from rx);obtain ⟨_,_,_,n,_,h1⟩:=(show dY X.prog X.w H s.heap a (.frz ob (.lst xs)) from I.hok a _ ea);exact PySem.W.kia_one PySem.W.kitx_list I.kIn ⟨_,h1,rfl⟩ e (λz=>nomatch z) h
 | @tup a xs ea =>
  cases (show u=Value.ref a from rx);obtain ⟨_,_,_,p⟩:=(show dY X.prog X.w H s.heap a (.tup xs) from I.hok a _ ea);obtain ⟨o,h1,h2,_⟩:=p;exact PySem.W.kia_one PySem.W.kitx_tuple I.kIn ⟨o,h1,h2⟩ e (λz=>nomatch z) h
 | @dK a kvs ea =>
  cases (show u=Value.ref a from rx);obtain ⟨_,_,vs,_,p⟩:=(show dY X.prog X.w H s.heap a (.dK kvs) from I.hok a _ ea);obtain ⟨o,es,ep,h1,h2,_⟩:=p;exact PySem.W.kia_one PySem.W.kitx_dict I.kIn ⟨o,h1,h2.1⟩ e (λz=>nomatch z) h
 | @dT a kvs ea =>
  cases (show u=Value.ref a from rx);obtain ⟨_,_,xs,_,o,es,ep,h1,h2,_⟩:=(show dY X.prog X.w H s.heap a (.dT kvs) from I.hok a _ ea);exact PySem.W.kia_one PySem.W.kitx_dict I.kIn ⟨o,h1,h2.1⟩ e (λz=>nomatch z) h
 | @ins a C dx fs ea cl ha hn htk hm =>
  cases (show u=Value.ref a from rx);obtain ⟨mA,O,_⟩:=OV I.hok ea;obtain ⟨od,J,_⟩:=O.look;exact PySem.W.kia_one (PySem.W.kitx_own (cl.get _) cl.hd ha hn htk hm) I.kIn J e (λz=>nomatch z) h
end
structure jL(k:Nat)(A:Around):Prop where
 hd:A.handled=none
 dp:A.depth+3*k+5<recursionLimit
 un:A.units+16*k+200<cLine
 gd:A.guards=some []
theorem jL.mono{j k:Nat}{A:Around}(r:jL k A)(h:j<=k):jL j A:=⟨r.hd,by have:=r.dp;omega,by have:=r.un;omega,r.gd⟩
theorem jL.deeper{k:Nat}{A:Around}(r:jL (k+1) A)(env:Env):jL k (A.deeper env) :=
 ⟨r.hd,by have:=r.dp;show A.depth+1+3*k+5<_;omega,by have:=r.un;show A.units+3+16*k+200<_;omega,r.gd⟩
theorem jL.depth{k:Nat}{A:Around}(r:jL k A):A.depth<recursionLimit:=by have:=r.dp;omega
theorem jL.units{k:Nat}{A:Around}(r:jL k A):A.units+64<cLine:=by have:=r.un;omega
def WT:TA:=λ_ H Q=>Q [] H
def QQ(ta:TE)(tr:TA):TA:=λσ H Q=>ta σ H λx H1=>tr σ H1 λxs H2=>Q (x::xs) H2
section
variable{X:Cx}{e:Expr}{es:List Expr}{te:TE}{t:TA}{pos:Pos}
theorem pa_nil:PA X [] WT:=λ_ _ _ _ H Q I h=>Calls.spliced_nil ⟨[],H,I,.nil,h⟩
theorem OH(ha:PE X e te)(hr:PA X es t)(hs:starEach (e::es) X.env=(false,eval e X.env)::starEach es X.env:=by rfl):PA X (e::es) (QQ te t):=by
 intro pos pins s σ H Q I h;rw [hs];show wpAny _ _ (spliced ((false,eval e X.env)::backTo pos (starEach es X.env))) _ _ s;refine Calls.spliced_cons (thn (ha pins s σ H _ I h) λu s1 ⟨x,H1,I1,r1,q1⟩=>?_);exact thn (hr pos pins s1 σ H1 _ I1 q1) λus s2 ⟨xs,H2,I2,r2,q2⟩=>⟨x::xs,H2,I2,.cons r1 r2,q2⟩
def ZN(t:TA):TE:=λσ H Q=>t σ H λxs H1=>xs.length<=sizeLine/\∀p,H1 p=none->Q (.ref p) (upd H1 p (.tup xs))
def ZO(t:TA):TE:=λσ H Q=>t σ H λxs H1=>xs.length<=sizeLine/\∀p,H1 p=none->Q (.ref p) (upd H1 p (.lst xs))
theorem UF{x1}(h:PA X es t):PE X (.Tuple es x1 pos) (ZN t):=by
 intro pins s σ H Q I hq;refine wpAny_Tuple_spliced (thn (h pos pins s σ H _ I hq) λus s1 ⟨xs,H1,I1,r,z,q⟩=>⟨by rw [<-r.length];exact z,?_⟩);have hf:H1 s1.heap.objs.size=none:=I1.hok.fresh (aF _);refine ⟨.ref s1.heap.objs.size,upd H1 s1.heap.objs.size (.tup xs),I1.laid (t':=s1.toks) (λb u e=>aC _ e) (aF _) ?_,rfl,q _ hf⟩;exact ⟨⟨z,_,aS _ rfl,rfl⟩,us,r,⟨_,aS _ rfl,rfl,_,rfl⟩⟩
theorem UI(h:PA X es t):PE X (.List es pos) (ZO t):=by
 intro pins s σ H Q I hq;refine wpAny_List_spliced (thn (h pos pins s σ H _ I hq) λus s1 ⟨xs,H1,I1,r,z,q⟩=>⟨by rw [<-r.length];exact z,?_⟩);have hf:H1 s1.heap.objs.size=none:=I1.hok.fresh (aF _);refine ⟨.ref s1.heap.objs.size,upd H1 s1.heap.objs.size (.lst xs),I1.laid (t':=s1.toks) (λb u e=>aC _ e) (aF _) ?_,rfl,q _ hf⟩;exact ⟨z,us,0,r,aS _ rfl⟩
end
abbrev Sp:=List V->Hp->VK->XK->Prop
abbrev HV:=List Env->Hp->Shared->XK->Value->Shared->Prop
structure QF(P:Program)(w:World)(K:PySem.W.Frag)(mg:Str->Option Value)(base:Heap)(A:Around)(outer:List Env)(s:Shared)(H:Hp):Prop where
 frames:A.frames=some outer
 mod:ZK K mg base
 bs:∀b o,base.get? b=some o->s.heap.get? b=some o/\H b=none
 bsz:base.objs.size<=s.heap.objs.size
 funs:s.heap.FunFrames base outer
 frf:∀b∈frs outer,H b=none
 hok:mK P w H s.heap
 bare:AllBare s.gens
def CE(outer:List Env)(P:Program)(w:World)(H:Hp)(s:Shared)(Q:VK)(u:Value)(s':Shared):Prop :=
 ∃v H',s'.os=s.os/\AllBare s'.gens/\Un (frs outer) [] H H' s.heap s'.heap/\mK P w H' s'.heap/\dE v u/\Q v H'
def CR(CX:HV)(outer:List Env)(P:Program)(w:World)(H:Hp)(s:Shared)(Q:VK)(E:XK)(r:Result)(s':Shared):Prop :=
 match r with
 | .ok (.ret u)=>CE outer P w H s Q u s'
 | .ok _=>False
 | .error e=>CX outer H s E e s'
structure eJ(P:Program)(w:World)(K:PySem.W.Frag)(mg:Str->Option Value)(base:Heap)(CX:HV)(k:Nat)(f:Addr)(fd:FuncData)(ps:List Str)(sp:Sp):Prop where
 len:∀vs H Q E,sp vs H Q E->vs.length=ps.length
 run:∀(A:Around) (outer:List Env) (s:Shared) (H:Hp) (args:Args) (us:List Value) (vs:List V) (Q:VK) (E:XK),jL k A->QF P w K mg base A outer s H->BindsTo s fd args (ps.zip us)->dA vs us->sp vs H Q E ->
  codeAny (model P w) A (.call (.ref f) args) (CR CX outer P w H s Q E) s
section
variable{X:Cx}{pins:List (Addr × Obj)}{σ:St}{H:Hp}{s s':Shared}
theorem cA.env0(I:cA X pins σ H s):QF X.prog X.w X.K X.mg X.base X.A X.stack s H :=
 ⟨I.ok.frames,I.ok.mod,I.bs,aZ I.ok.bsz I.sz,I.stack,I.stkFree,I.hok,I.bare⟩
theorem cA.after{Q:VK}{u:Value}(I:cA X pins σ H s)(h:CE X.stack X.prog X.w H s Q u s'):EP X pins σ Q u s':=by
 obtain ⟨v,H',os,bare,un,hok,r,q⟩:=h;obtain ⟨hh,g,d,t,os'⟩:=s';obtain rfl:os'=s.os:=os;exact ⟨v,H',I.call (h':=hh) (g':=g) (d':=d) (t':=t) (ch:=[]) un hok bare (λb z=>absurd z (by simp)),r,q⟩
end
def IU(sp:Sp)(dvs:List V)(E:XK)(t:TA):TE:=λσ H Q=>t σ H λvs H1=>sp (vs++dvs) H1 Q E
def wJ(K:PySem.W.Frag)(fd:FuncData)(ps:List Str)(ds:List Value):Prop :=
 ∀(s:Shared) (us:List Value),K.In s.heap->(us++ds).length=ps.length->BindsTo s fd ⟨us,[]⟩ (ps.zip (us++ds))
theorem wJ.all{K:PySem.W.Frag}{fd:FuncData}{ps:List Str}(h:∀us:List Value,us.length=ps.length->bindArgs fd ⟨us,[]⟩=pure (ps.zip us)):wJ K fd ps []:=λs us _ hl=>by
 rw [List.append_nil] at hl ⊢;exact .of_eq (h us hl)
def CN(CX:HV)(X:Cx)(E:XK):Prop:=∀(pins:List (Addr × Obj)) (σ:St) (H:Hp) (s:Shared) (e:Value) (s':Shared),cA X pins σ H s->CX X.stack H s E e s'->X.xe e s'
section
variable{X:Cx}{CX:HV}{k:Nat}{f C:Addr}{fd:FuncData}{ps:List Str}{sp:Sp}{dvs:List V}{ds:List Value}{E:XK}{x m:Str}{p pos apos:Pos}{e o:Expr}{es:List Expr}{ta:TE}{t:TA}
theorem TJ{pins:List (Addr × Obj)}{σ:St}{H:Hp}{s:Shared}{Q:VK}{us:List Value}{vs:List V}(F:eJ X.prog X.w X.K X.mg X.base CX k f fd ps sp)(hr:jL k X.A)(hb:wJ X.K fd ps ds)(hd:dA dvs ds)(hx:CN CX X E)
  (I:cA X pins σ H s) (r:dA vs us) (h:sp (vs++dvs) H Q E):wpAny (model X.prog X.w) X.A (call (.ref f) us) (EP X pins σ Q) X.xe s:=by
 have r2:dA (vs++dvs) (us++ds):=r.append hd;have hl:(us++ds).length=ps.length:=by rw [<-r2.length];exact F.len _ _ _ _ h
 refine wpAny_call (codeAny_mono (F.run X.A X.stack s H ⟨us,[]⟩ (us++ds) (vs++dvs) Q E hr I.env0 (hb s us I.kIn hl) r2 h) λr s' hq=>?_);cases r with
 | error e=>exact hx pins σ H s e s' I hq
 | ok fl =>
  cases fl with
  | ret u=>exact I.after hq
  | next=>exact False.elim hq
  | brk=>exact False.elim hq
  | cont=>exact False.elim hq
theorem OF(F:eJ X.prog X.w X.K X.mg X.base CX k f fd ps sp)(hr:jL k X.A)(hg:Gl X x)(hm:X.mg x=some (.ref f))(hk:PySem.W.keepIn X.K (.ref f)=true)(hb:wJ X.K fd ps ds)(hd:dA dvs ds)(hx:CN CX X E)
  (ha:PA X (e::es) t) (hdb:(x == ("__debug__" : Str))=false:=by decide) (he:starEach (e::es) X.env=(false,eval e X.env)::starEach es X.env:=by rfl) (hpl:(backTo pos (starEach es X.env)).any (·.1)=false:=by rfl) :
  PE X (.Call (.Name x p) (e::es) [] pos) (IU sp dvs E t):=by
 intro pins s σ H Q I h;refine wpAny_Call_Name_kw (EG I hg hm ?_ hdb);refine PySem.W.callWith_K (h₀:=X.base) I.ok.mod.kin hk (thn (ha pos pins s σ H _ I h) λus s1 ⟨vs,H1,I1,r,q⟩=>⟨I1.kIn,?_⟩) he hpl;exact TJ F hr hb hd hx I1 r q
end
section
variable{X:Cx}{CX:HV}{k:Nat}{f C:Addr}{fd:FuncData}{ps ks:List Str}{sp:Sp}{E:XK}{x m:Str}{p pos apos kpos:Pos}{e o:Expr}{es:List Expr}{kws:List Keyword}{te ta:TE}{t tk:TA}{nm:Option Str}
variable{g:List Value->List Value->List Value}{gV:List V->List V->List V}
end
structure bW(N P:List Str)(sc:Scope):Prop where
 kind:sc.kind=.function
 co:sc.isCoroutine=false
 gen:sc.isGenerator=false
 nd:N.Nodup
 pre:N.take P.length=P
 par:∀x∈P,sc.names.lookup x=some .local\/sc.names.lookup x=some .cell
 nofree:∀y∈sc.names,y.2 ≠ .free
theorem wA{kindOf:Str->Option NameKind}{x:Str}:∀{binds:List (Str × Value)}{m:Str->Option Value},(∀v,(x,v) ∉ binds)->bindL kindOf binds m x=m x
 | [],_,_=>rfl
 | (n,v)::r,m,h=>by
  unfold bindL;rw [wA λw hw=>h w (aK _ hw)];split
  ·have:x≠n:=by rintro rfl;exact h v aO
   simp [this]
  ·rfl
theorem wC{kindOf:Str->Option NameKind}{x:Str}:∀{binds:List (Str × Value)}{m:Str->Option Value},(∀v,(x,v) ∉ binds)->bindC kindOf binds m x=m x
 | [],_,_=>rfl
 | (n,v)::r,m,h=>by
  unfold bindC;rw [wC λw hw=>h w (aK _ hw)];split
  ·rfl
  ·have:x≠n:=by rintro rfl;exact h v aO
   simp [this]
theorem wB{kindOf:Str->Option NameKind}{x:Str}{v:Value}:∀{P:List Str}{vs:List Value}{i:Nat}{m:Str->Option Value},P.Nodup->P[i]?=some x->vs[i]?=some v->kindOf x=some .local ->
  bindL kindOf (P.zip vs) m x=some v
 | [],_,_,_,_,h,_,_=>by simp at h
 | _::_,[],_,_,_,_,h,_=>by simp at h
 | p::P,w::vs,0,m,nd,h1,h2,hk=>by
  simp at h1 h2;subst h1;subst h2;show bindL kindOf ((p,w)::P.zip vs) m p=_;unfold bindL;rw [wA λv hv=>(List.nodup_cons.mp nd).1 (List.of_mem_zip hv).1,if_pos hk];simp
 | p::P,w::vs,i+1,m,nd,h1,h2,hk=>by
  show bindL kindOf ((p,w)::P.zip vs) m x=_;unfold bindL;exact wB (i:=i) (List.nodup_cons.mp nd).2 (by simpa using h1) (by simpa using h2) hk
theorem wE{kindOf:Str->Option NameKind}{x:Str}{v:Value}:∀{P:List Str}{vs:List Value}{i:Nat}{m:Str->Option Value},P.Nodup->P[i]?=some x->vs[i]?=some v->kindOf x≠some .local ->
  bindC kindOf (P.zip vs) m x=some v
 | [],_,_,_,_,h,_,_=>by simp at h
 | _::_,[],_,_,_,_,h,_=>by simp at h
 | p::P,w::vs,0,m,nd,h1,h2,hk=>by
  simp at h1 h2;subst h1;subst h2;show bindC kindOf ((p,w)::P.zip vs) m p=_;unfold bindC;rw [wC λv hv=>(List.nodup_cons.mp nd).1 (List.of_mem_zip hv).1,if_neg hk];simp
 | p::P,w::vs,i+1,m,nd,h1,h2,hk=>by
  show bindC kindOf ((p,w)::P.zip vs) m x=_;unfold bindC;exact wE (i:=i) (List.nodup_cons.mp nd).2 (by simpa using h1) (by simpa using h2) hk
def start(N:List Str)(vs:List V):St:=vs.map some++List.replicate (N.length-vs.length) none
def AH(CX:HV)(P:Program)(w:World)(K:PySem.W.Frag)(mg:Str->Option Value)(base:Heap)(N:List Str)(qual:Str)(scope:Scope)(f:Addr)(cd:Value)(A:Around)(outer:List Env)(s:Shared)(H:Hp)(E:XK):Cx where
 prog:=P
 w:=w
 K:=K
 mg:=mg
 base:=base
 A:=A.deeper (envOfC qual scope s.heap.objs.size f cd)
 N:=N
 s₀:=s
 H₀:=H
 env:=envOfC qual scope s.heap.objs.size f cd
 outer:=outer
 stack:=envOfC qual scope s.heap.objs.size f cd::outer
 ex:=[]
 calm:=true
 fn:=λ_=>true
 pn:=[]
 xe:=λe s'=>wpAny (model P w) (A.deeper (envOfC qual scope s.heap.objs.size f cd)) (leaving (envOfC qual scope s.heap.objs.size f cd) e) (λ_ s''=>CX outer H s E e s'') (λe' s''=>CX outer H s E e' s'') s'
theorem AR{sc:Scope}{n:Nat}{x:Str}(h:sc.names.lookup x=some .cell):∃c,(cellsFrom n sc.names []).lookup x=some c:=by
 have q:=PySem.W.cellsFrom_some sc.names n [] (.inl h);exact Option.isSome_iff_exists.mp q
theorem GS{CX:HV}{P:Program}{w:World}{K:PySem.W.Frag}{mg:Str->Option Value}{base:Heap}{N ps:List Str}{qual:Str}{scope:Scope}{f:Addr}{cd:Value}{A:Around}{outer:List Env}{s s1:Shared}{H:Hp}{E:XK}{us:List Value}{vs:List V}
  (S:bW N ps scope) (hd:A.handled=none) (e0:QF P w K mg base A outer s H) (hl:vs.length=ps.length) (r:dA vs us)
  (x:InCallC s s.heap.objs.size (bindL (envOfC qual scope s.heap.objs.size f cd).kindOf (ps.zip us) λ_=>none) (cellsFrom (s.heap.objs.size+1) scope.names []) (bindC (envOfC qual scope s.heap.objs.size f cd).kindOf (ps.zip us) λ_=>none) s1) :
  cA (AH CX P w K mg base N qual scope f cd A outer s H E) [] (start N vs) H s1:=by
 have hpl:ps.length<=N.length:=by have:=congrArg List.length S.pre;rw [bP] at this;omega
 obtain ⟨h1,tk,rfl,hk⟩:=x.done;have noA:∀b:Addr,b ∉ (AH CX P w K mg base N qual scope f cd A outer s H E).ex:=λb z=>absurd (show b∈([]:List Addr) from z) (by simp);refine ⟨⟨e0.mod,S.kind,rfl,rfl,aF _,λy z c h1 h2=>?_,λy hy=>?_,λy c _ h=>?_,λ_=>hd,Around.frames_deeper e0.frames,.inr ⟨rfl,rfl⟩,λb z=>absurd z (noA b),e0.bs,e0.bsz,λb _ _=>noA b,λb z=>absurd z (noA b),e0.funs,e0.frf⟩,
  rfl,e0.bare,Un.kept hk,⟨_,x.toInCall.ns,λi y v h1 h2 h3=>?_⟩,λy c h=>⟨_,x.cell y c h⟩,e0.hok.fresh (aF _),λy c h=>?_,λp hp=>absurd (show p∈([]:List (Addr × Obj)) from hp) (by simp),e0.hok.kept hk,?_⟩
 ·exact name_of_addr x.apart (PySem.mem_of_lookup h1) (PySem.mem_of_lookup h2)
 ·have hy:scope.names.lookup y=some .cell\/scope.names.lookup y=some .free:=hy;rcases hy with hy | hy
  ·exact AR hy
  ·exact absurd rfl (S.nofree _ (PySem.mem_of_lookup hy))
 ·exact Nat.le_of_lt (x.above y c (PySem.mem_of_lookup h))
 ·have hi:i<vs.length:=by
   unfold start at h2;by_cases hi:i<vs.length
   ·exact hi
   ·rw [List.getElem?_append_right (by simpa using hi)] at h2;rw [List.getElem?_replicate] at h2;split at h2 <;> cases h2
  have ha:vs[i]?=some v:=by
   unfold start at h2;rw [List.getElem?_append_left (by simpa using hi),aI] at h2;cases e:vs[i]? with
   | none=>rw [e] at h2;cases h2
   | some a=>rw [e] at h2;cases h2;rfl
  obtain ⟨u,hu,rv⟩:=r.get ha;have hp:ps[i]?=some y:=by
   rw [<-S.pre,List.getElem?_take_of_lt Oo];exact h1
  have ndP:ps.Nodup:=by rw [<-S.pre];exact S.nd.sublist (List.take_sublist _ _)
  refine ⟨u,rv,?_⟩;rcases S.par y (aM hp) with k | k
  ·exact .inl ⟨k,wB ndP hp hu k⟩
  ·obtain ⟨c,e⟩:=AR (n:=s.heap.objs.size+1) k;refine .inr ⟨.inl k,c,e,?_⟩;have q:=x.cell y c e;rw [wE ndP hp hu (by show scope.names.lookup y≠_;rw [k];decide)] at q;exact q
 ·exact e0.hok.fresh (Nat.le_of_lt (x.above y c (PySem.mem_of_lookup h)))
 ·unfold start;show _=N.length;rw [bC,aA,cY];omega
theorem YF{CX:HV}{P:Program}{w:World}{K:PySem.W.Frag}{mg:Str->Option Value}{base:Heap}{k:Nat}{f:Addr}{name qual:Str}{params:Arguments}{body:List Stmt}{scope:Scope}{dV kV doc pm cdv ct oc:Value}{an od:Option Addr}
  {osl:Array (Option Value)} {N ps:List Str} {sp:Sp} (lk:K.lookup f=some ⟨oc,od,.func (PySem.W.fnOf name qual params body scope dV kV doc pm an cdv ct),osl⟩) (hcd:PySem.W.codeIn K cdv qual=true) (S:bW N ps scope)
  (len:∀vs H Q E,sp vs H Q E->vs.length=ps.length)
  (hbody:∀(A:Around) (outer:List Env) (s:Shared) (H:Hp) (vs:List V) (Q:VK) (E:XK),jL k (A.deeper (envOfC qual scope s.heap.objs.size f cdv))->sp vs H Q E ->
   ∃t,CO (AH CX P w K mg base N qual scope f cdv A outer s H E) body t/\t { nx:=λ_ H'=>Q .non H',rt:=Q } (start N vs) H) :
  eJ P w K mg base CX (k+1) f (PySem.W.fnOf name qual params body scope dV kV doc pm an cdv ct) ps sp:=by
 refine ⟨len,λA outer s H args us vs Q E hr e0 hb r hsp=>?_⟩;have hl:=len _ _ _ _ hsp;have KX:K.In s.heap:=e0.mod.kin.keeps λb o e=>(e0.bs b o e).1;have lim:s.heap.NoLimit:=e0.mod.nolimit.keeps λb o e=>(e0.bs b o e).1;have hkind:∀y∈ps.zip us,scope.names.lookup y.1=some .local\/(scope.names.lookup y.1=some .cell/\((cellsFrom (s.heap.objs.size+1) scope.names []).lookup y.1).isSome=true):=λ⟨n,v⟩ hy=>by
  rcases S.par n (List.of_mem_zip hy).1 with q | q
  ·exact .inl q
  ·exact .inr ⟨q,PySem.W.cellsFrom_some _ _ _ (.inl q)⟩
 refine codeAny_call_function hr.depth (KX _ _ lk) rfl S.co S.gen rfl (PySem.W.codeRec_of KX hcd) (hb _ _ _ _ ?_);refine wpAny_newFunctionEnv_cells S.kind hkind λenv he s1 x=>?_;subst he;refine ⟨lim.keeps x.toInCall.keep,codeAny_func ?_⟩;obtain ⟨t,ht,hq⟩:=hbody A outer s H vs Q E (hr.deeper _) hsp;have I:cA (AH CX P w K mg base N qual scope f cdv A outer s H E) [] (start N vs) H s1:=GS S hr.hd e0 hl r x;refine wpAny_mono (ht [] s1 (start N vs) H _ I hq) (λfl s' hs=>?_) λe s' hs=>hs;have fin:∀{σ':St} {H':Hp} {v:V} {u:Value},cA (AH CX P w K mg base N qual scope f cdv A outer s H E) [] σ' H' s'->dE v u->Q v H'->CE outer P w H s Q u s' :=
  λ{σ' H' v u} J rv q=>⟨v,H',J.os,J.bare,J.base,J.hok,rv,q⟩
 cases fl with
 | ret u =>
  obtain ⟨v,σ',H',J,rv,q⟩:=hs;exact fin J rv q
 | next =>
  obtain ⟨σ',H',J,q⟩:=hs;exact fin (v:=V.non) (u:=Value.none) J rfl q
 | brk =>
  obtain ⟨_,_,_,q⟩:=hs;exact False.elim q
 | cont =>
  obtain ⟨_,_,_,q⟩:=hs;exact False.elim q
section
variable{X:Cx}{x:Str}{p pos:Pos}{e:Expr}{es:List Expr}{t:TA}{id T:String}{r:List V->Hp->VK->Prop}
def YU(r:List V->Hp->VK->Prop)(t:TA):TE:=λσ H Q=>t σ H λvs H1=>r vs H1 Q
theorem KB(hc:gW X (.builtin id) r)(hg:Gl X x)(hm:X.mg x=none)(hv:bootBuiltins x=some (.builtin id))(ha:PA X (e::es) t)(hn:x ≠ "__name__" := by decide)(hdb:(x == ("__debug__" : Str))=false:=by decide)
  (he:starEach (e::es) X.env=(false,eval e X.env)::starEach es X.env:=by rfl) (hpl:(backTo pos (starEach es X.env)).any (·.1)=false:=by rfl):PE X (.Call (.Name x p) (e::es) [] pos) (YU r t):=by
 intro pins s σ H Q I h;refine wpAny_Call_Name_kw (rG I hg hm hv ?_ hn hdb);exact PyProof.Rows.callWith_builtin1 (thn (ha pos pins s σ H _ I h) λus s1 ⟨vs,H1,I1,r1,q1⟩=>hc pins s1 σ H1 vs us Q I1 r1 q1) he hpl
theorem GG(hc:gW X (.type T) r)(hg:Gl X x)(hm:X.mg x=none)(hv:bootBuiltins x=some (.type T))(ha:PA X (e::es) t)(hn:x ≠ "__name__" := by decide)(hdb:(x == ("__debug__" : Str))=false:=by decide)
  (he:starEach (e::es) X.env=(false,eval e X.env)::starEach es X.env:=by rfl) (hpl:(backTo pos (starEach es X.env)).any (·.1)=false:=by rfl):PE X (.Call (.Name x p) (e::es) [] pos) (YU r t):=by
 intro pins s σ H Q I h;refine wpAny_Call_Name_kw (rG I hg hm hv ?_ hn hdb);exact PyProof.Rows.callWith_type1 (thn (ha pos pins s σ H _ I h) λus s1 ⟨vs,H1,I1,r1,q1⟩=>hc pins s1 σ H1 vs us Q I1 r1 q1) he hpl
end
end L2
namespace HT
open PySem PyProof.Rows
section
open PySem.SeqAt
open PySem.AutoSeq1 (wpAny_loadPart')
open PySem.MeetsSeq PySem.MeetsSeq2 PySem.MeetsSeq3
end
section
variable{prog:Program}{w:World}{A:Around}{E:Value->Shared->Prop}{s:Shared}
theorem PP{t b:Addr}{vs ws:List Value}{Q:Value->Shared->Prop}(ht:IsTup s.heap t vs.toArray)(hb:IsTup s.heap b ws.toArray)(hv:vs≠[])
  (h1:ws=[]->Q (.ref t) s) (h2:ws≠[]->Q (.ref s.heap.objs.size) { s with heap:=s.heap.push { cls:=.type "tuple",data:=.seq (vs++ws).toArray } })
  (hsz:vs.length+ws.length<=sizeLine):wpAny (model prog w) A (binaryOp .Add (.ref t) (.ref b)) Q E s:=by
 obtain ⟨⟨cls,dd,data,sl⟩,ho,hc,n,hd⟩:=id ht;obtain ⟨⟨cls2,dd2,data2,sl2⟩,ho2,hc2,n2,hd2⟩:=id hb;simp only at hc hd hc2 hd2;subst hc hd hc2 hd2;have e:vs.toArray++ws.toArray=(vs++ws).toArray:=by simp
 by_cases hw:ws=[]
 ·exact concat_meets ⟨_,ho,rfl⟩ ⟨_,ho2,rfl⟩ noFill_tuple_add seq_tuple_add PySem.F.slot_tuple_add PySem.F.entry_tuple_add (PySem.F.args_tuple_add_2 _ _)
   (tuple_addW1 t b vs.toArray ws.toArray n n2 dd dd2 sl sl2 (by simpa using hv) (by simp [hw])) ⟨ho,ho2,h1 hw⟩
 ·refine concat_meets ⟨_,ho,rfl⟩ ⟨_,ho2,rfl⟩ noFill_tuple_add seq_tuple_add PySem.F.slot_tuple_add PySem.F.entry_tuple_add (PySem.F.args_tuple_add_2 _ _)
   (tuple_addW2 t b vs.toArray ws.toArray n n2 dd dd2 sl sl2 (by simpa using hv) (by simpa using hw) (by rw [aU,aU];exact hsz)) ⟨ho,ho2,?_⟩
  rw [e];exact h2 hw
def gO(n d:Nat):Option Int->Nat
 | none=>d
 | some v=>if v<0 then (v+(n:Int)).toNat else min v.toNat n
theorem tO(n d:Nat):gO n d none=d:=rfl
theorem xF(n d k:Nat):gO n d (some (k:Int))=min k n:=by
 show (if (k:Int)<0 then ((k:Int)+(n:Int)).toNat else min (k:Int).toNat n)=min k n;rw [if_neg Oo,Int.toNat_natCast]
theorem TD(n d:Nat)(hd:d<=n)(o:Option Int):gO n d o<=n:=by
 cases o with
 | none=>exact hd
 | some v =>
  show (if v<0 then (v+(n:Int)).toNat else min v.toNat n)<=n;by_cases hv:v<0
  ·rw [if_pos hv];omega
  ·rw [if_neg hv];exact Nat.min_le_right _ _
theorem EX(v:Int)(n d:Nat):(if v<0 then max (v+(n:Int)) 0 else min v (n:Int))=((gO n d (some v):Nat):Int):=by
 show (if v<0 then max (v+(n:Int)) 0 else min v (n:Int))=(((if v<0 then (v+(n:Int)).toNat else min v.toNat n):Nat):Int);by_cases hv:v<0
 ·simp only [if_pos hv];omega
 ·simp only [if_neg hv];omega
theorem CK(lo hi:Option Int)(n:Nat):Builtin.Slice.sliceAdjust lo hi 1 (n:Int)=(((gO n 0 lo:Nat):Int),((gO n n hi:Nat):Int)):=by
 have h1:¬((1:Int)<0):=Oo;unfold Builtin.Slice.sliceAdjust;simp only [h1,if_false];refine Prod.ext ?_ ?_
 ·cases lo with
  | none=>rfl
  | some v=>exact EX v n 0
 ·cases hi with
  | none=>rfl
  | some v=>exact EX v n n
theorem BV(i j:Nat):Builtin.Slice.slicePlaces (i:Int) (j:Int) 1=j-i:=by
 unfold Builtin.Slice.slicePlaces;have h1:(1:Int) > 0:=Oo;simp only [h1,if_true,Int.ediv_one];split <;> omega
theorem tM{v:Value}{o:Option Int}{Q:Option Int->Shared->Prop}(p:IsPart v o)(h:Q o s):wpAny (model prog w) A (Builtin.Slice.slicePartIndex v) Q E s:=by
 cases p with
 | none=>exact slicePart_none h
 | int i t=>exact slicePart_int h
theorem lG{sl:Addr}{vl vu:Value}{lo hi:Option Int}{n:Nat}{Q:Int × Int × Nat->Shared->Prop}(hs:s.heap.IsSliceOf sl vl vu .none)(pl:IsPart vl lo)(pu:IsPart vu hi)
  (h:Q (((gO n 0 lo:Nat):Int),1,gO n n hi-gO n 0 lo) s):wpAny (model prog w) A (Builtin.Slice.sliceApplied (.ref sl) (pure (n:Int))) Q E s:=by
 obtain ⟨os,hos,hcs,hds⟩:=id hs;unfold Builtin.Slice.sliceApplied Builtin.Slice.sliceFields;refine wpAny_bind (wpAny_bind (wpAny_field hos hds (x:=vl) rfl (wpAny_bind (wpAny_field hos hds (x:=vu) rfl (wpAny_bind (wpAny_field hos hds (x:=.none) rfl (wpAny_pure ?_)))))));refine wpAny_bind (slicePart_none ?_);show wpAny _ _ (if ((1:Int) == 0)=true then _ else _) _ _ s;rw [if_neg yd];refine wpAny_bind (tM pl (wpAny_bind (tM pu (wpAny_bind (wpAny_pure ?_)))));show wpAny _ _ (match Builtin.Slice.sliceAdjust lo hi 1 (n:Int) with | (lo,hi)=>pure (lo,(1:Int),Builtin.Slice.slicePlaces lo hi 1)) _ _ s;rw [CK lo hi n];show wpAny _ _ (pure (((gO n 0 lo:Nat):Int),(1:Int),Builtin.Slice.slicePlaces ((gO n 0 lo:Nat):Int) ((gO n n hi:Nat):Int) 1)) _ _ s;rw [BV];exact wpAny_pure h
theorem JX(xs:Array Value)(i k:Nat):((List.range k).filterMap λ(m:Nat)=>xs[((i:Int)+(m:Int)*1).toNat]?).toArray=((xs.toList.drop i).take k).toArray:=by
 have e:(λ(m:Nat)=>xs[((i:Int)+(m:Int)*1).toNat]?)=λm=>xs[i+m]?:=by
  funext m
  have:((i:Int)+(m:Int)*1).toNat=i+m:=Oo;rw [this]
 rw [e];have:=pick_run xs i k;rw [List.filterMap_map] at this;have e2:((λx=>xs[x]?) ∘ λx=>i+x)=λm=>xs[i+m]?:=rfl;rw [e2] at this;rw [this]
theorem pQ{t sl:Addr}{items:Array Value}{vl vu:Value}{lo hi:Option Int}{Q:Value->Shared->Prop}(ht:IsTup s.heap t items)(hs:s.heap.IsSliceOf sl vl vu .none)(pl:IsPart vl lo)(pu:IsPart vu hi)
  (hw:¬(gO items.size 0 lo=0/\gO items.size items.size hi=items.size))
  (h:Q (.ref s.heap.objs.size) { s with heap:=s.heap.push { cls:=.type "tuple",data:=.seq ((items.toList.drop (gO items.size 0 lo)).take (gO items.size items.size hi-gO items.size 0 lo)).toArray } })
  (hsz:items.size<=sizeLine):wpAny (model prog w) A (getItem (.ref t) (.ref sl)) Q E s:=by
 have htake:sizeOk (.seq ((items.toList.drop (gO items.size 0 lo)).take (gO items.size items.size hi-gO items.size 0 lo)).toArray):=by
  show ((items.toList.drop (gO items.size 0 lo)).take (gO items.size items.size hi-gO items.size 0 lo)).toArray.size<=sizeLine;rw [aU,bP,List.length_drop,Array.length_toList];omega
 have hj:gO items.size items.size hi<=items.size:=TD _ _ (aF _) hi;obtain ⟨os,hos,hcs,hds⟩:=id hs;have hTs:s.TypeIs (.ref sl) "slice" := ⟨os,hos,hcs⟩;unfold getItem
 try with_reducible refine wpAny_holding ?_
 first | refine wpAny_bind (wpAny_pure ?_) | skip
 refine wpAny_bind (wpAny_sequenceKey ht.typeIs yd ?_);refine wpAny_bind (wpAny_callSpecial?_slot (name:=Str.ofString "__getitem__") ht.typeIs PyProof.Rows.slot_tuple_getitem
  (wpAny_call_entry PyProof.Rows.slot_tuple_getitem ht.typeIs entry_tuple_getitem ?_ (args_tuple_getitem _ _)))
 show wpAny _ _ (Builtin.Tuple.tupleItemsOf (.ref t) >>= _) _ _ s;refine wpAny_bind (tupleItemsOf_ ht ?_);refine wpAny_bind (wpAny_typeOf hTs ?_);rw [if_pos yd];refine wpAny_bind (lG hs pl pu ?_);have hno:¬((((gO items.size 0 lo:Nat):Int) == 0&&(1:Int) == 1&&(gO items.size items.size hi-gO items.size 0 lo) == items.size)=true):=by
  intro q;rw [cN,cN] at q;have q1:((gO items.size 0 lo:Nat):Int)=0:=eq_of_beq q.1.1;have q2:gO items.size items.size hi-gO items.size 0 lo=items.size:=eq_of_beq q.2;exact hw ⟨Oo,Oo⟩
 show wpAny _ _ (if (((gO items.size 0 lo:Nat):Int) == 0&&(1:Int) == 1&&(gO items.size items.size hi-gO items.size 0 lo) == items.size)=true then _ else _) _ _ s;rw [if_neg hno,JX]
 first
  | exact wpAny_bind (m:=Builtin.Tuple.tupleExact _) (wpAny_newObj_type (wpAny_pure ⟨_,rfl,wpAny_pure h⟩) htake)
  | exact wpAny_bind (m:=Builtin.Tuple.tupleExact _) (wpAny_newObj_type (wpAny_bind (wpAny_pure (wpAny_pure ⟨_,rfl,wpAny_pure h⟩))) htake)
  | exact wpAny_bind (wpAny_bind (m:=Builtin.Tuple.tupleExact _) (wpAny_newObj_type (wpAny_pure (wpAny_pure ⟨_,rfl,wpAny_pure h⟩)) htake))
  | exact wpAny_bind (wpAny_bind (m:=Builtin.Tuple.tupleExact _) (wpAny_newObj_type (wpAny_pure ⟨_,rfl,wpAny_pure h⟩) htake))
end
end HT
namespace L2
open PySem PySem.Spec PyProof.Rows
abbrev TO:=St->Hp->(Option Int->Hp->Prop)->Prop
def PO(X:Cx)(e:Option Expr)(t:TO):Prop :=
 ∀(pins:List (Addr × Obj)) (s:Shared) (σ:St) (H:Hp) (Q:Option Int->Hp->Prop),cA X pins σ H s->t σ H Q ->
  wpAny (model X.prog X.w) X.A (evalPart e X.env) (λu s'=>∃o H',cA X pins σ H' s'/\IsPart u o/\Q o H') X.xe s
def DG:TO:=λ_ H Q=>Q none H
def QL(t:TE):TO:=λσ H Q=>t σ H λx H1=>∃i,x=.int i/\Q (some i) H1
theorem BZ{ns:List Int}:∀{us:List Value},dA (ns.map V.int) us->IntsAre us ns:=by
 induction ns with
 | nil=>intro us r;rw [List.map_nil] at r;cases r;exact .nil
 | cons n ns ih =>
  intro us r;rw [bI] at r;cases r with
  | cons r1 r2 =>
   obtain ⟨t,e⟩:=r1;subst e;exact .cons n t (ih r2)
section
variable{X:Cx}{e:Expr}{te:TE}{lo hi:Option Expr}{tl th:TO}{pos p2:Pos}
theorem po_none:PO X none DG:=by
 intro pins s σ H Q I h;rw [evalPart_none];exact wpAny_pure ⟨none,H,I,.none,h⟩
theorem NX(h:PE X e te):PO X (some e) (QL te):=by
 intro pins s σ H Q I hw;rw [evalPart_some];refine thn (h pins s σ H _ I hw) λu s1 ⟨x,H1,I1,r1,q1⟩=>?_;obtain ⟨i,rfl,q⟩:=q1;obtain ⟨t,rfl⟩:=r1;exact ⟨some i,H1,I1,.int i t,q⟩
def WJ(X:Cx)(r:V->Option Int->Option Int->Hp->VK->Prop):Prop :=
 ∀(pins:List (Addr × Obj)) (s:Shared) (σ:St) (H:Hp) (x:V) (v vl vu:Value) (lo hi:Option Int) (sl:Addr) (Q:VK),cA X pins σ H s->dE x v->s.heap.IsSliceOf sl vl vu .none->IsPart vl lo->IsPart vu hi->r x lo hi H Q ->
  ∃T id,typeLookup (.type T) "__getitem__" = pure (some (.builtin id))/\s.TypeIs v T/\wpAny (model X.prog X.w) X.A (getItem v (.ref sl)) (EP X pins σ Q) X.xe s
def tSl(r:V->Option Int->Option Int->Hp->VK->Prop)(te:TE)(tl th:TO):TE:=λσ H Q=>te σ H λx H1=>tl σ H1 λl H2=>th σ H2 λu H3=>r x l u H3 Q
theorem JZ{r:V->Option Int->Option Int->Hp->VK->Prop}(hr:WJ X r)(he:PE X e te)(hl:PO X lo tl)(hu:PO X hi th):PE X (.Subscript e (.Slice lo hi none p2) pos) (tSl r te tl th):=by
 intro pins s σ H Q I h;refine Subscript_ (thn (he pins s σ H _ I h) λv s1 ⟨x,H1,I1,r1,q1⟩=>?_);refine wpAny_Slice (thn (hl pins s1 σ H1 _ I1 q1) λvl s2 ⟨l,H2,I2,pl,q2⟩=>thn (hu pins s2 σ H2 _ I2 q2) λvu s3 ⟨u,H3,I3,pu,q3⟩=>?_);rw [evalPart_none];refine wpAny_pure ?_;have I4:cA X pins σ H3 { s3 with heap:=s3.heap.push { cls:=.type "slice",data:=.fields #[vl,vu,.none] } }:=I3.kept (t':=s3.toks) λb ob q=>aC _ q;obtain ⟨T,id,hT,ht,hg⟩:=hr pins { s3 with heap:=s3.heap.push { cls:=.type "slice",data:=.fields #[vl,vu,.none] } } σ H3 x v vl vu l u s3.heap.objs.size Q I4 r1 (Heap.IsSliceOf.new ..) pl pu q3;show wpAny (model X.prog X.w) X.A (subscriptTail e (.Slice lo hi none p2) v (.ref s3.heap.objs.size)) (EP X pins σ Q) X.xe { s3 with heap:=s3.heap.push { cls:=.type "slice",data:=.fields #[vl,vu,.none] } };exact tail_any (ops:=[.ref s3.heap.objs.size,v]) ht hT hg (by with_unfolding_all rfl)
def nU(xs:List V)(lo hi:Option Int):List V:=(xs.drop (HT.gO xs.length 0 lo)).take (HT.gO xs.length xs.length hi-HT.gO xs.length 0 lo)
theorem sI(xs:List V)(lo hi:Option Int):(nU xs lo hi).length<=xs.length:=by
 unfold nU;rw [bP,List.length_drop];omega
def ZZ(K:PySem.W.Frag):V->Option Int->Option Int->Hp->VK->Prop:=λx lo hi H Q=>∃a xs,x=.ref a/\gK K H a xs /\
 ¬(HT.gO xs.length 0 lo=0/\HT.gO xs.length xs.length hi=xs.length)/\∀p,H p=none->Q (.ref p) (upd H p (.tup (nU xs lo hi)))
theorem SE:WJ X (ZZ X.K):=by
 intro pins s σ H x v vl vu lo hi sl Q I rx hs pl pu h;obtain ⟨a,xs,rfl,hx,hw,q⟩:=h;cases rx;obtain ⟨its,r,ht,hz⟩:=I.tuple hx;have hlen:its.toArray.size=xs.length:=by rw [aU];exact r.length.symm
 refine ⟨"tuple",_,PyProof.Rows.slot_tuple_getitem.lookup,ht.typeIs,?_⟩;refine HT.pQ ht hs pl pu (by rw [hlen];exact hw) ?_ (by rw [hlen];exact hz);rw [hlen];refine ⟨.ref s.heap.objs.size,_,I.laid (t':=s.toks) (o:=.tup (nU xs lo hi)) (λb ob q=>aC _ q) (aF _) ?_,rfl,q _ (I.hok.fresh (aF _))⟩;exact ⟨⟨aZ (sI xs lo hi) hz,_,aS _ rfl,rfl⟩,_,(r.drop (HT.gO xs.length 0 lo)).take (HT.gO xs.length xs.length hi-HT.gO xs.length 0 lo),IsTup.new _ _⟩
def XI(K:PySem.W.Frag):R2:=λx y H Q=>∃a b xs ys,x=.ref a/\y=.ref b/\gK K H a xs/\gK K H b ys/\xs≠[]/\xs.length+ys.length<=sizeLine /\
 (ys=[]->Q (.ref a) H)/\(ys≠[]->∀p,H p=none->Q (.ref p) (upd H p (.tup (xs++ys))))
theorem dA.nil_iff{xs:List V}{us:List Value}(r:dA xs us):us=[]↔xs=[]:=by
 cases r with
 | nil=>simp
 | cons _ _=>simp
theorem OJ:oK X (binaryOp .Add) (XI X.K):=by
 intro pins s σ H x y v u Q I rx ry h;obtain ⟨a,b,xs,ys,rfl,rfl,ha,hb,hx,hz,q1,q2⟩:=h;cases rx;cases ry;obtain ⟨its,r1,p1,_⟩:=I.tuple ha;obtain ⟨its2,r2,p2,_⟩:=I.tuple hb;refine HT.PP p1 p2 (λz=>hx (r1.nil_iff.mp z)) (λz=>⟨.ref a,H,I,rfl,q1 (r2.nil_iff.mp z)⟩) (λz=>?_) (by rw [<-r1.length,<-r2.length];exact hz);refine ⟨.ref s.heap.objs.size,_,I.laid (t':=s.toks) (o:=.tup (xs++ys)) (λb ob q=>aC _ q) (aF _) ?_,rfl,q2 (λw=>z (r2.nil_iff.mpr w)) _ (I.hok.fresh (aF _))⟩;exact ⟨⟨by rw [bC];exact hz,_,aS _ rfl,rfl⟩,_,r1.append r2,IsTup.new _ _⟩
end
def vS(n:Nat)(i:Int):Option Nat:=if 0<=i then (if i<n then some i.toNat else none) else if -(n:Int)<=i then some (i+n).toNat else none
def yF{α:Type}(xs:List α)(i:Int):Option α:=(vS xs.length i).bind λj=>xs[j]?
theorem EJ{n:Nat}{i:Int}{j:Nat}(h:vS n i=some j):seqIndex? i n=some j/\j<n/\-(n:Int)<=i/\i<n:=by
 unfold vS at h;by_cases h0:0<=i
 ·rw [if_pos h0] at h;by_cases h1:i<n
  ·rw [if_pos h1] at h;have e:i.toNat=j:=cO h;exact ⟨by rw [seqIndex_of h0 h1,e],Oo,Oo,h1⟩
  ·rw [if_neg h1] at h;cases h
 ·rw [if_neg h0] at h;by_cases h1:-(n:Int)<=i
  ·rw [if_pos h1] at h;have e:(i+n).toNat=j:=cO h;exact ⟨by rw [seqIndex_neg Oo h1,e],Oo,h1,Oo⟩
  ·rw [if_neg h1] at h;cases h
theorem xX{α:Type}{xs:List α}{i:Int}{v:α}(h:yF xs i=some v):∃j,seqIndex? i xs.length=some j/\xs[j]?=some v/\j<xs.length/\-(xs.length:Int)<=i/\i<xs.length:=by
 unfold yF at h;cases e:vS xs.length i with
 | none=>rw [e] at h;cases h
 | some j =>
  rw [e] at h;obtain ⟨h1,h2,h3,h4⟩:=EJ e;exact ⟨j,h1,h,h2,h3,h4⟩
theorem cK{α:Type}{xs:List α}{j:Nat}{v:α}(h:xs[j]?=some v):yF xs (j:Int)=some v:=by
 have hj:j<xs.length:=(aH.mp h).1;have e:vS xs.length (j:Int)=some j:=by
  unfold vS;rw [if_pos Oo,if_pos Oo];simp
 unfold yF;rw [e];exact h
theorem LR{α:Type}(xs:List α)(v:α):yF (xs++[v]) (-1)=some v:=by
 have hl:(xs++[v]).length=xs.length+1:=by simp
 have e:vS (xs++[v]).length (-1)=some xs.length:=by
  unfold vS;rw [hl,if_neg yd,if_pos Oo];congr 1;omega
 unfold yF;rw [e];show (xs++[v])[xs.length]?=some v;simp
def FC(b:Expr):Prop:=∀o i,subscripted b false o i=operate [o,i] (getItem o i)
def LX(X:Cx)(r:R2):Prop :=
 ∀(value slice:Expr) (pins:List (Addr × Obj)) (s:Shared) (σ:St) (H:Hp) (x y:V) (v u:Value) (Q:VK),cA X pins σ H s->dE x v->dE y u->r x y H Q ->
  subscripted slice false v u=operate [v,u] (getItem v u)->wpAny (model X.prog X.w) X.A (subscriptTail value slice v u) (EP X pins σ Q) X.xe s
def YQ(X:Cx)(id:String)(r:V->List V->Hp->VK->Prop):Prop :=
 ∀(pins:List (Addr × Obj)) (s:Shared) (σ:St) (H:Hp) (x:V) (xs:List V) (v:Value) (us:List Value) (Q:VK),cA X pins σ H s->dE x v->dA xs us->r x xs H Q ->
  wpAny (model X.prog X.w) X.A (call (.builtin id) (v::us)) (EP X pins σ Q) X.xe s
section
variable{X:Cx}{a b:Expr}{ta tb:TE}{pos:Pos}
theorem LX.or{r r':R2}(h:LX X r)(h':LX X r'):LX X (λx y H Q=>r x y H Q\/r' x y H Q):=by
 intro value slice pins s σ H x y v u Q I rx ry q hs;rcases q with q | q
 ·exact h value slice pins s σ H x y v u Q I rx ry q hs
 ·exact h' value slice pins s σ H x y v u Q I rx ry q hs
theorem XR{r:R2}(hr:LX X r)(ha:PE X a ta)(hb:PE X b tb)(hs:FC b):PE X (.Subscript a b pos) (MS r ta tb):=by
 intro pins s σ H Q I h;exact Subscript_ (VT ha hb I h λv u s2 x y H2 I2 rx ry q=>hr a b pins s2 σ H2 x y v u Q I2 rx ry q (hs _ _))
def XG(K:PySem.W.Frag):R2:=λx y H Q=>∃p xs i v,x=.ref p/\y=.int i/\fE K H p xs/\yF xs i=some v/\Q v H
def XE(K:PySem.W.Frag):R2:=λx y H Q=>∃p xs i v,x=.ref p/\y=.int i/\gK K H p xs/\yF xs i=some v/\Q v H
def XF:R2:=λx y H Q=>∃z i c,x=.str z/\y=.int i/\z.length<=sizeLine/\yF z.cps.toList i=some c/\Q (.str ⟨#[c]⟩) H
theorem OU:LX X (XG X.K):=by
 intro value slice pins s σ H x y v u Q I rx ry h hs;obtain ⟨p,xs,i,z,rfl,rfl,hq,he,q⟩:=h;cases rx;obtain ⟨t,rfl⟩:=ry;obtain ⟨its,r,pl,hz⟩:=I.list hq;obtain ⟨j,h1,h2,h3,h4,h5⟩:=xX he;obtain ⟨w,ew,rw'⟩:=r.get h2;have hl:=r.length;have hn:=tX;have fin:EP X pins σ Q w s:=⟨z,H,I,rw',q⟩;by_cases h0:0<=i
 ·have hj:i.toNat=j:=by
   rw [seqIndex_of h0 h5] at h1;exact cO h1
  exact item_listR pl.isList h0 Oo (by rw [hj];simpa using ew) fin hs
 ·have hj:(i+(its.toArray.size:Int)).toNat=j:=by
   rw [seqIndex_neg Oo h4] at h1;rw [aU,<-hl];exact cO h1
  exact subscriptTail_builtinR (x:=w) pl.isList.typeIs slot_list_getitem.lookup
   (wpAny_getItem_list_neg (Q:=λr s'=>r=w/\EP X pins σ Q r s') pl.isList Oo (by rw [aU] <;> omega) Oo (by rw [hj];simpa using ew) ⟨rfl,fin⟩) hs
theorem VD:LX X (XE X.K):=by
 intro value slice pins s σ H x y v u Q I rx ry h hs;obtain ⟨p,xs,i,z,rfl,rfl,hq,he,q⟩:=h;cases rx;obtain ⟨t,rfl⟩:=ry;obtain ⟨its,r,pl,hz⟩:=I.tuple hq;obtain ⟨j,h1,h2,h3,h4,h5⟩:=xX he;obtain ⟨w,ew,rw'⟩:=r.get h2;have hl:=r.length;have hn:=tX;have fin:EP X pins σ Q w s:=⟨z,H,I,rw',q⟩;exact subscriptTail_builtinR (x:=w) pl.typeIs slot_tuple_getitem.lookup
  (getItem_tuple (j:=j) (Q:=λr s'=>r=w/\EP X pins σ Q r s') pl Oo Oo (by rw [aU,<-hl];exact h1) (by simpa using ew) ⟨rfl,fin⟩) hs
theorem VE:LX X XF:=by
 intro value slice pins s σ H x y v u Q I rx ry h hs;obtain ⟨z,i,c,rfl,rfl,hz,he,q⟩:=h;obtain ⟨t,rfl⟩:=rx;obtain ⟨t',rfl⟩:=ry;obtain ⟨j,h1,h2,h3,h4,h5⟩:=xX he;have hl:z.cps.toList.length=z.length:=by simp [Str.length]
 rw [hl] at h1 h4 h5;have hn:=tX;exact tail_any (typeIs_str s z t) slot_str_getitem.lookup (getItem_str (c:=c) (by
  have e1:decide (i < -(2^63:Int))=false:=dF Oo;have e2:decide (i ≥ 2^63)=false:=dF Oo;rw [e1,e2,Bool.or_false]) (by rw [h1];simpa using h2) ⟨.str ⟨#[c]⟩,H,I.tok _,⟨_,rfl⟩,q⟩) hs
def XH(K:PySem.W.Frag):R2:=λx y H Q=>XG K x y H Q\/XE K x y H Q\/XF x y H Q
theorem aR:LX X (XH X.K):=OU.or (VD.or VE)
theorem BX(its:List Value)(n j:Nat)(u:Value):Obj.mapSeq (·.setIfInBounds j u) { cls:=.type "list",data:=.seq its.toArray n }={ cls:=.type "list",data:=.seq (its.set j u).toArray n }:=by
 simp [Obj.mapSeq]
theorem cA.lst{pins:List (Addr × Obj)}{σ:St}{H:Hp}{s:Shared}{p:Addr}{xs:List V}(I:cA X pins σ H s)(h:H p=some (.lst xs)) :
  ∃(its:List Value) (n:Nat),dA xs its/\s.heap.get? p=some { cls:=.type "list",data:=.seq its.toArray n }/\xs.length<=sizeLine:=by
 obtain ⟨z,its,n,r,e⟩:=I.hok p _ h;exact ⟨its,n,r,e,z⟩
theorem cA.lstUpd{pins:List (Addr × Obj)}{σ:St}{H:Hp}{s:Shared}{p:Addr}{xs ys:List V}{its its':List Value}{n n':Nat}{f:Obj->Obj}(I:cA X pins σ H s)(h:H p=some (.lst xs))
  (ho:s.heap.get? p=some { cls:=.type "list",data:=.seq its.toArray n }) (hf:f { cls:=.type "list",data:=.seq its.toArray n }={ cls:=.type "list",data:=.seq its'.toArray n' }) (r:dA ys its') (hz:ys.length<=sizeLine) (t:Nat) :
  cA X pins σ (upd H p (.lst ys)) { s with heap:=s.heap.update p f,toks:=t }:=by
 have e:(s.heap.update p f).get? p=some { cls:=.type "list",data:=.seq its'.toArray n' }:=by
  rw [Heap.get?_update_self f ho (by rw [hf] <;> rfl),hf]
 refine I.write (x:=p) (e:=p) (by rw [h];trivial) (.inl rfl) (λb u hb q=>(Heap.get?_update_other _ _ (Ne.symm hb)).trans q) ⟨_,e⟩ ?_;exact ⟨hz,its',n',r,e⟩
def JS:V->V->V->Hp->(Hp->Prop)->Prop:=λo i v H Q=>∃p xs k j,o=.ref p/\i=.int k/\H p=some (.lst xs)/\vS xs.length k=some j/\Q (upd H p (.lst (xs.set j v)))
theorem gT:VY X JS:=by
 intro pins s σ H o i v ov iv u Q I ro ri rv h;obtain ⟨p,xs,k,j,rfl,rfl,hp,hj,q⟩:=h;cases ro;obtain ⟨t,rfl⟩:=ri;obtain ⟨its,n,r,ho,hz⟩:=I.lst hp;obtain ⟨h1,h2,h3,h4⟩:=EJ hj;have hl:=r.length;have hn:=tX;have I':cA X pins σ (upd H p (.lst (xs.set j v))) { s with heap:=s.heap.update p (Obj.mapSeq (·.setIfInBounds j u)) } :=
  I.lstUpd hp ho (BX its n j u) (r.set rv j) (by rw [List.length_set];exact hz) s.toks
 by_cases h0:0<=k
 ·have hk:k.toNat=j:=by
   rw [seqIndex_of h0 h4] at h1;exact cO h1
  exact PySem.W.ki_setAt ho h0 Oo (by rw [aU,<-hl];exact h4) (by rw [hk];exact ⟨_,I',q⟩)
 ·have hk:(k+(its.toArray.size:Int)).toNat=j:=by
   rw [seqIndex_neg Oo h3] at h1;rw [aU,<-hl];exact cO h1
  exact PySem.W.ki_setBack ho Oo (by rw [aU,<-hl];exact h3) Oo (by rw [hk];exact ⟨_,I',q⟩)
theorem xC(lo hi:Option Int)(n:Nat):(sliceBounds lo hi none n).1=((HT.gO n 0 lo:Nat):Int)/\(sliceBounds lo hi none n).2.1=((HT.gO n n hi:Nat):Int)/\(sliceBounds lo hi none n).2.2=1:=by
 refine ⟨?_,?_,rfl⟩
 ·cases lo with
  | none=>simp [sliceBounds,HT.gO]
  | some i =>
   simp only [sliceBounds,HT.gO,Option.getD_none,show (1:Int) > 0 by decide,if_true];by_cases h:i<0
   ·simp only [h,if_true] <;> omega
   ·simp only [h,if_false] <;> omega
 ·cases hi with
  | none=>simp [sliceBounds,HT.gO]
  | some i =>
   simp only [sliceBounds,HT.gO,Option.getD_none,show (1:Int) > 0 by decide,if_true];by_cases h:i<0
   ·simp only [h,if_true] <;> omega
   ·simp only [h,if_false] <;> omega
theorem uS(its:List Value)(lo hi:Option Int):slicePick its.toArray lo hi none=((its.drop (HT.gO its.length 0 lo)).take (HT.gO its.length its.length hi-HT.gO its.length 0 lo)).toArray:=by
 obtain ⟨h1,h2,h3⟩:=xC lo hi its.toArray.size;unfold slicePick;rw [h1,h2,h3];simp only [sliceRange_one,pick_run,aU] <;> rfl
def XD(K:PySem.W.Frag):V->Option Int->Option Int->Hp->VK->Prop:=λx lo hi H Q=>∃a xs,x=.ref a/\fE K H a xs/\∀p,H p=none->Q (.ref p) (upd H p (.lst (nU xs lo hi)))
theorem DJ:WJ X (XD X.K):=by
 intro pins s σ H x v vl vu lo hi sl Q I rx hs pl pu h;obtain ⟨a,xs,rfl,hx,q⟩:=h;cases rx;obtain ⟨its,r,ht,hz⟩:=I.list hx;have hlen:=r.length;refine ⟨"list",_,slot_list_getitem.lookup,ht.isList.typeIs,?_⟩;refine wpAny_getItem_list_slice ht.isList hs pl pu .none (by simp) ?_ (by rw [aU] <;> omega);rw [uS,<-hlen];refine ⟨.ref s.heap.objs.size,_,I.laid (t':=s.toks) (o:=.lst (nU xs lo hi)) (λb ob q=>aC _ q) (aF _) ?_,rfl,q _ (I.hok.fresh (aF _))⟩;exact ⟨aZ (sI xs lo hi) hz,_,0,(r.drop (HT.gO xs.length 0 lo)).take (HT.gO xs.length xs.length hi-HT.gO xs.length 0 lo),aS _ rfl⟩
def pV:V->Bool
 | .non=>true
 | .bl _=>true
 | .int _=>true
 | .str _=>true
 | _=>false
def RD:V->V->Bool
 | .non,.non=>true
 | .bl a,.bl b=>a == b
 | .bl a,.int b=>(if a then 1 else 0) == b
 | .int a,.bl b=>a == (if b then 1 else 0)
 | .int a,.int b=>a == b
 | .str a,.str b=>a == b
 | _,_=>false
theorem VJ{A:Around}{s:Shared}{y x:V}{u v:Value}(ry:dE y u)(rx:dE x v)(fy:pV y=true)(fx:pV x=true):SeqAt.EqAt A s u v (RD y x):=by
 cases y with
 | non =>
  cases ry;cases x with
  | non=>cases rx;exact SeqAt.EqAt.same _
  | bl b=>cases rx;exact SeqAt.EqAt.none_bool b
  | int b=>obtain ⟨t,rfl⟩:=rx;exact SeqAt.EqAt.none_int b t
  | str b=>obtain ⟨t,rfl⟩:=rx;exact SeqAt.EqAt.none_str b t
  | _=>exact absurd (show false=true from fx) bD
 | bl a =>
  cases ry;cases x with
  | non=>cases rx;exact SeqAt.EqAt.bool_none a
  | bl b=>cases rx;exact SeqAt.EqAt.bool_bool a b
  | int b=>obtain ⟨t,rfl⟩:=rx;exact SeqAt.EqAt.bool_int a b t
  | str b=>obtain ⟨t,rfl⟩:=rx;exact SeqAt.EqAt.bool_str a b t
  | _=>exact absurd (show false=true from fx) bD
 | int a =>
  obtain ⟨t',rfl⟩:=ry;cases x with
  | non=>cases rx;exact SeqAt.EqAt.int_none a t'
  | bl b=>cases rx;exact SeqAt.EqAt.int_bool a t' b
  | int b=>obtain ⟨t,rfl⟩:=rx;exact SeqAt.EqAt.int_int a t' b t
  | str b=>obtain ⟨t,rfl⟩:=rx;exact SeqAt.EqAt.int_str a t' b t
  | _=>exact absurd (show false=true from fx) bD
 | str a =>
  obtain ⟨t',rfl⟩:=ry;cases x with
  | non=>cases rx;exact SeqAt.EqAt.str_none a t'
  | bl b=>cases rx;exact SeqAt.EqAt.str_bool a t' b
  | int b=>obtain ⟨t,rfl⟩:=rx;exact SeqAt.EqAt.str_int a t' b t
  | str b=>obtain ⟨t,rfl⟩:=rx;exact SeqAt.EqAt.str_str a t' b t
  | _=>exact absurd (show false=true from fx) bD
 | _=>exact absurd (show false=true from fy) bD
def OZ(x:V)(u:Value):Bool:=match u with
 | .none=>RD .non x
 | .bool b=>RD (.bl b) x
 | .int i _=>RD (.int i) x
 | .str z _=>RD (.str z) x
 | _=>false
theorem KY{x y:V}{u:Value}(r:dE y u)(f:pV y=true):OZ x u=RD y x:=by
 cases y with
 | non=>cases r;rfl
 | bl b=>cases r;rfl
 | int i=>obtain ⟨t,rfl⟩:=r;rfl
 | str z=>obtain ⟨t,rfl⟩:=r;rfl
 | _=>exact absurd (show false=true from f) bD
theorem yA{x:V}:∀{xs:List V}{us:List Value},dA xs us->xs.all pV=true->us.any (OZ x)=xs.any λy=>RD y x
 | _,_,.nil,_=>rfl
 | y::xs,u::us,.cons r t,f=>by
  rw [List.all_cons,cN] at f;rw [List.any_cons,List.any_cons,KY r f.1,yA t f.2]
theorem tS{A:Around}{s:Shared}{x:V}{v:Value}(rx:dE x v)(fx:pV x=true):∀{xs:List V}{us:List Value},dA xs us->xs.all pV=true->∀u∈us,SeqAt.EqAt A s u v (OZ x u)
 | _,_,.nil,_=>λu hu=>by cases hu
 | y::xs,u::us,.cons r t,f=>λu' hu=>by
  rw [List.all_cons,cN] at f;rcases bE.mp hu with rfl | hu
  ·rw [KY r f.1];exact VJ r rx f.1 fx
  ·exact tS rx fx t f.2 u' hu
def ZE(x:V)(xs:List V):Bool:=xs.any λy=>RD y x
def rIn(K:PySem.W.Frag)(neg:Bool):R2:=λx y H Q=>∃p xs,y=.ref p/\(fE K H p xs\/gK K H p xs)/\pV x=true/\xs.all pV=true/\Q (.bl (if neg then !ZE x xs else ZE x xs)) H
theorem GI:oK X (compareOp .In) (rIn X.K false):=by
 intro pins s σ H x y v u Q I rx ry h;obtain ⟨p,xs,rfl,hq,fx,fs,q⟩:=h;cases ry;rcases hq with hq | hq
 ·obtain ⟨its,r,pl,hz⟩:=I.list hq;refine SeqAt.in_listAt (OZ x) pl.isList (λw hw=>tS rx fx r fs w (by simpa using hw)) ⟨.bl _,H,I,rfl,?_⟩;rw [show its.toArray.any (OZ x)=its.any (OZ x) by simp,yA r fs];exact q
 ·obtain ⟨its,r,pl,hz⟩:=I.tuple hq;refine SeqAt.in_tupleAt (OZ x) pl (λw hw=>tS rx fx r fs w (by simpa using hw)) ⟨.bl _,H,I,rfl,?_⟩;rw [show its.toArray.any (OZ x)=its.any (OZ x) by simp,yA r fs];exact q
theorem xW:gW X (.type "list") (λxs H Q=>∃p ys,xs=[.ref p]/\(fE X.K H p ys\/gK X.K H p ys)/\∀l,H l=none->Q (.ref l) (upd H l (.lst ys))):=by
 intro pins s σ H xs us Q I r h;obtain ⟨p,ys,rfl,hq,q⟩:=h;obtain ⟨u,rfl,rx⟩:=mO r;cases rx;have fin:∀(its:List Value),dA ys its->ys.length<=sizeLine->∀(h':Heap) (c':Nat),(∀b o',s.heap.get? b=some o'->h'.get? b=some o') ->
   h'.get? s.heap.objs.size=some { cls:=.type "list",dict:=none,data:=.seq its.toArray c',slots:=#[] }->EP X pins σ Q (.ref s.heap.objs.size) { s with heap:=h' }:=λits r' hz h' c' kp e =>
  ⟨.ref s.heap.objs.size,_,I.laid (t':=s.toks) kp (aF _) (show dY X.prog X.w _ h' _ (.lst ys) from ⟨hz,its,c',r',e⟩),rfl,q _ (I.hok.fresh (aF _))⟩
 rcases hq with hq | hq
 ·obtain ⟨its,r',pl,hz⟩:=I.list hq;have hlen:=r'.length;obtain ⟨o,ho,hc,n,hd⟩:=pl.isList;exact call_list_seq p (.inl rfl) ho hc hd (λh' c' kp e=>fin its r' hz h' c' kp e) (by simp only [aU] <;> omega)
 ·obtain ⟨its,r',pl,hz⟩:=I.tuple hq;have hlen:=r'.length;obtain ⟨o,ho,hc,n,hd⟩:=pl;exact call_list_seq p (.inr rfl) ho hc hd (λh' c' kp e=>fin its r' hz h' c' kp e) (by simp only [aU] <;> omega)
theorem dL:gW X (.type "tuple") (λxs H Q=>∃p ys,xs=[.ref p]/\((fE X.K H p ys/\∀l,H l=none->Q (.ref l) (upd H l (.tup ys)))\/(gK X.K H p ys/\Q (.ref p) H))):=by
 intro pins s σ H xs us Q I r h;obtain ⟨p,ys,rfl,h⟩:=h;obtain ⟨u,rfl,rx⟩:=mO r;cases rx;rcases h with ⟨hq,q⟩ | ⟨hq,q⟩
 ·obtain ⟨its,r',pl,hz⟩:=I.list hq;have hlen:=r'.length;refine call_tuple_list pl.isList (λh' kp=>?_) (by simp only [aU] <;> omega);have I1:cA X pins σ H { s with heap:=h' }:=I.kept (t':=s.toks) kp;have I2:cA X pins σ (upd H h'.objs.size (.tup ys)) { s with heap:=h'.push { cls:=.type "tuple",data:=.seq its.toArray } } :=
   I1.laid (t':=s.toks) (λb o e=>aC _ e) (aF _) (show dY X.prog X.w _ _ _ (.tup ys) from ⟨⟨hz,_,aS _ rfl,rfl⟩,its,r',IsTup.new _ _⟩)
  exact ⟨.ref h'.objs.size,_,I2,rfl,q _ (I1.hok.fresh (aF _))⟩
 ·obtain ⟨its,r',pl,hz⟩:=I.tuple hq;exact call_tuple_same pl ⟨.ref p,H,I,rfl,q⟩
def ZM(K:PySem.W.Frag)(T:String)(x:V)(H:Hp):Prop:=match x with
 | .str _=>T = "str"
 | .int _=>T = "int"
 | .ref p=>(T = "list" /\ ∃xs,fE K H p xs)\/(T = "tuple" /\ ((∃o,K.lookup p=some o/\o.cls=.type "tuple" /\ o.dict=none)\/∃xs,H p=some (.tup xs))) \/
   (T = "dict" /\ ((∃kvs,H p=some (.dK kvs))\/∃kvs,H p=some (.dT kvs)))\/(T = "set" /\ ∃S n,H p=some (.set S n))
 | _=>False
theorem RZ{pins:List (Addr × Obj)}{σ:St}{H:Hp}{s:Shared}{T:String}{x:V}{v:Value}(I:cA X pins σ H s)(r:dE x v)(ty:ZM X.K T x H) :
  s.TypeIs v T/\∀a,v=.ref a->∃ob,s.heap.get? a=some ob/\ob.dict=none:=by
 cases x with
 | str z =>
  obtain ⟨t,rfl⟩:=r;cases (show T = "str" from ty);exact ⟨typeIs_str s z t,λ_ e=>nomatch e⟩
 | int i =>
  obtain ⟨t,rfl⟩:=r;cases (show T = "int" from ty);exact ⟨typeIs_int s i t,λ_ e=>nomatch e⟩
 | ref p =>
  cases r;rcases ty with ⟨rfl,xs,hq⟩ | ⟨rfl,⟨o,hk,hc,hd⟩ | ⟨xs,hq⟩⟩ | ⟨rfl,hk⟩ | ⟨rfl,S,n,hk⟩
  ·obtain ⟨its,_,pl,_⟩:=I.list hq;refine ⟨pl.isList.typeIs,λa e=>?_⟩;cases e;obtain ⟨o,n,e,c,hd,_⟩:=pl;exact ⟨o,e,hd⟩
  ·refine ⟨⟨o,I.kIn p o hk,hc⟩,λa e=>?_⟩;cases e;exact ⟨o,I.kIn _ o hk,hd⟩
  ·obtain ⟨⟨_,on,en,dn⟩,_,_,o,e1,e2,_⟩:=(show dY X.prog X.w H s.heap p (.tup xs) from I.hok p _ hq);refine ⟨⟨o,e1,e2⟩,λa e=>?_⟩;cases e;exact ⟨on,en,dn⟩
  ·have z:∃o,s.heap.get? p=some o/\o.ExactDict:=by
    rcases hk with ⟨kvs,hk⟩ | ⟨kvs,hk⟩
    ·obtain ⟨_,_,_,_,o,_,_,e,ex,_⟩:=I.hok p _ hk;exact ⟨o,e,ex⟩
    ·obtain ⟨_,_,_,_,o,_,_,e,ex,_⟩:=I.hok p _ hk;exact ⟨o,e,ex⟩
   obtain ⟨o,e,ex⟩:=z;refine ⟨⟨o,e,ex.1⟩,λa e2=>?_⟩;cases e2;exact ⟨o,e,ex.2.1⟩
  ·obtain ⟨o,_,_,_,e,ex,_⟩:=I.hok p _ hk;refine ⟨⟨o,e,ex.1⟩,λa e2=>?_⟩;cases e2;exact ⟨o,e,ex.2.1⟩
 | _=>exact False.elim ty
def tBM(K:PySem.W.Frag)(T:String)(r:V->List V->Hp->VK->Prop)(to:TE)(t:TA):TE:=λσ H Q=>to σ H λx H1=>ZM K T x H1/\t σ H1 λxs H2=>r x xs H2 Q
variable{o e:Expr}{es:List Expr}{to:TE}{t:TA}{name:Str}{apos cpos:Pos}{T id:String}{r:V->List V->Hp->VK->Prop}
theorem XT(pa:PlainAttrs T)(slot:Slot T name id)(hty:typeOf (.builtin id)=pure (.type "method_descriptor"))(hm:YQ X id r)(ho:PE X o to)(ha:PA X (e::es) t)
  (hbase:attributeBase o name X.env (eval o X.env)=eval o X.env:=by rfl)
  (hfew:((backTo cpos (starEach (e::es) X.env)).all (λx=>!x.1)&&(backToKw cpos (keywordEach [] X.env)).all (λx=>x.1.isSome)
   && decide ((e::es).length+([]:List Keyword).length+(if ([]:List Keyword).isEmpty then 0 else 1)<30))=true:=by rfl)
  (hline:(apos.endLine == cpos.line)=true:=by rfl) (hs:starEach (e::es) X.env=(false,eval e X.env)::starEach es X.env:=by rfl) (hplain:(backTo cpos (starEach es X.env)).any (·.1)=false:=by rfl) :
  PE X (.Call (.Attribute o name apos) (e::es) [] cpos) (tBM X.K T r to t):=by
 intro pins s σ H Q I h;refine wpAny_Call_method_late hbase hfew hline rfl (thn (ho pins s σ H _ I h) λv s1 ⟨x,H1,I1,r1,ty,q1⟩=>?_);obtain ⟨h1,h2⟩:=RZ I1 r1 ty;refine ⟨T,id,pa,slot,hty,h1,h2,?_⟩;have hA:=ha cpos pins s1 σ H1 _ I1 q1;rw [hs] at hA ⊢;refine Calls.callWith_builtin (by show (false || (backTo cpos (starEach es X.env)).any (·.1))=false;rw [hplain] <;> rfl) (Calls.evalArgs_plain ?_);exact thn hA λus s2 ⟨vs,H2,I2,r2,q2⟩=>hm pins s2 σ H2 x vs v us Q I2 r1 r2 q2
/- xs.append(e),list.index on a module's tuple .. are YQ facts of 06m -/
end
def MtM(X:Cx)(id:String)(r:V->List V->Hp->VK->Prop):Prop :=
 ∀(pins:List (Addr × Obj)) (s:Shared) (σ:St) (H:Hp) (x:V) (xs:List V) (v:Value) (us:List Value) (Q:VK),cA X pins σ H s->dE x v->dA xs us->r x xs H Q ->
  wpAny (model X.prog X.w) X.A (call (.builtin id) (v::us)) (EP X pins σ Q) X.xe s
theorem dA.one:∀{x:V}{us:List Value},dA [x] us->∃u,us=[u]/\dE x u
 | _,_,.cons r .nil=>⟨_,rfl,r⟩
theorem vU(its:List Value):∀(k:Nat) (acc:List Value),
  List.foldl (λx1 x2=>x1++x2) acc.toArray (List.replicate k its.toArray)=(acc++(List.replicate k its).flatten).toArray
 | 0,acc=>by simp
 | k+1,acc=>by
  have e:acc.toArray++its.toArray=(acc++its).toArray:=by simp
  have e2:(acc++its)++(List.replicate k its).flatten=acc++(List.replicate (k+1) its).flatten:=by
   rw [List.replicate_succ,List.flatten_cons,List.append_assoc]
  rw [<-e2,<-vU its k (acc++its),<-e,List.replicate_succ,List.foldl_cons]
section
variable{X:Cx}{pins:List (Addr × Obj)}{σ:St}{H:Hp}{s:Shared}{l b:Addr}{xs ys zs:List V}
theorem cA.lset{its its':List Value}{n:Nat}{f:Array Value->Array Value}{t':Nat}(I:cA X pins σ H s)(hH:H l=some (.lst xs))
  (e:s.heap.get? l=some { cls:=.type "list",data:=.seq its.toArray n }) (hf:f its.toArray=its'.toArray) (hv:dA ys its') (hz:ys.length<=sizeLine) :
  cA X pins σ (upd H l (.lst ys)) { s with heap:=s.heap.update l (Obj.mapSeq f),toks:=t' }:=by
 have q:=PySem.IsL.update e f;rw [hf] at q;refine I.write (x:=l) (e:=l) (by rw [hH];exact trivial) (.inl rfl) (λb' u hb hu=>(Heap.get?_update_other s.heap (Obj.mapSeq f) (Ne.symm hb)).trans hu) ⟨_,q⟩ ?_;exact ⟨hz,its',_,hv,q⟩
theorem cA.lnew{its:List Value}{t':Nat}(I:cA X pins σ H s)(hv:dA ys its)(hz:ys.length<=sizeLine) :
  cA X pins σ (upd H s.heap.objs.size (.lst ys)) { s with heap:=s.heap.push { cls:=.type "list",data:=.seq its.toArray },toks:=t' } :=
 I.laid (λ_ _ q=>aC _ q) (aF _) ⟨hz,its,0,hv,aS _ rfl⟩
theorem cA.fresh(I:cA X pins σ H s):H s.heap.objs.size=none:=I.hok.fresh (aF _)
theorem cA.lstM(I:cA X pins σ H s)(hH:H l=some (.lst xs)):xs.length<=sizeLine/\∃(its:List Value) (n:Nat),dA xs its/\xs.length=its.length/\s.heap.get? l=some { cls:=.type "list",data:=.seq its.toArray n }:=by
 obtain ⟨z,its,n,r,e⟩:=I.hok l _ hH;exact ⟨z,its,n,r,r.length,e⟩
theorem KI{n:Nat}(h:n<=sizeLine):Builtin.List.listTooLong n=false:=by
 unfold Builtin.List.listTooLong;exact dF Oo
end
section
variable{X:Cx}
def DW:V->List V->Hp->VK->Prop:=λx vs H Q=>∃l xs y,x=.ref l/\vs=[y]/\H l=some (.lst xs)/\xs.length<sizeLine/\Q .non (upd H l (.lst (xs++[y])))
theorem rB:MtM X "list.append" DW:=by
 intro pins s σ H x vs v us Q I rx rv h;obtain ⟨l,xs,y,rfl,rfl,hH,hz,q⟩:=h;cases rx;obtain ⟨u,rfl,ru⟩:=rv.one;obtain ⟨z,its,n,r,hl,e⟩:=I.lstM hH;refine call_meets F.slot_list_append ⟨_,e,rfl⟩ F.entry_list_append (F.args_list_append_2 _ _) (PySem.list_append l its.toArray n u (by rw [aU];omega)) ⟨e,?_⟩;refine ⟨.non,_,I.lset (its':=its++[u]) hH e (by simp) (r.append (.cons ru .nil)) ?_,rfl,q⟩;rw [bC,List.length_singleton];omega
def DU:V->List V->Hp->VK->Prop:=λx vs H Q=>∃l b xs zs,x=.ref l/\vs=[.ref b]/\H l=some (.lst xs)/\H b=some (.lst zs)/\xs.length+zs.length<=sizeLine/\Q .non (upd H l (.lst (xs++zs)))
theorem GK:MtM X "list.extend" DU:=by
 intro pins s σ H x vs v us Q I rx rv h;obtain ⟨l,b,xs,zs,rfl,rfl,hH,hB,hz,q⟩:=h;cases rx;obtain ⟨u,rfl,ru⟩:=rv.one;cases ru;obtain ⟨z,its,n,r,hl,e⟩:=I.lstM hH;obtain ⟨z2,its2,n2,r2,hl2,e2⟩:=I.lstM hB;have hsz:its.toArray.size+its2.toArray.size<=sizeLine:=by rw [aU,aU];omega
 have hlong:¬(!its.toArray.isEmpty&&Builtin.List.listTooLong (its.toArray.size+its2.toArray.size))=true:=by
  rw [KI hsz,Bool.and_false];exact bD
 refine call_meets F.slot_list_extend ⟨_,e,rfl⟩ F.entry_list_extend (F.args_list_extend_2 _ _)
  (AutoSeq1.list_extend_list_list_0 l its.toArray n b its2.toArray n2 hlong (by rw [aU];omega) Oo) ⟨e,e2,?_⟩
 refine ⟨.non,_,I.lset (its':=its++its2) hH e (by simp) (r.append r2) ?_,rfl,q⟩;rw [bC];omega
def XJ:R2:=λx y H Q=>∃l b xs zs,x=.ref l/\y=.ref b/\H l=some (.lst xs)/\H b=some (.lst zs)/\xs.length+zs.length<=sizeLine/\∀p,H p=none->Q (.ref p) (upd H p (.lst (xs++zs)))
theorem UQ:oK X (binaryOp .Add) XJ:=by
 intro pins s σ H x y v u Q I rx ry h;obtain ⟨l,b,xs,zs,rfl,rfl,hH,hB,hz,q⟩:=h;cases rx;cases ry;obtain ⟨z,its,n,r,hl,e⟩:=I.lstM hH;obtain ⟨z2,its2,n2,r2,hl2,e2⟩:=I.lstM hB;refine PySem.P.add_list e e2 ?_ (by rw [aU,aU];omega);have ea:its.toArray++its2.toArray=(its++its2).toArray:=by simp
 rw [ea];exact ⟨.ref _,_,I.lnew (t':=s.toks) (r.append r2) (by rw [bC];omega),rfl,q _ I.fresh⟩
end
section
variable{prog:Program}{w:World}{A:Around}{E:Value->Shared->Prop}{s:Shared}
end
section
variable{X:Cx}
end
end L2
namespace Att
open PySem PySem.W PySem.Calls PyProof.Rows
theorem sK{P:Params}{h:Heap}:∀(ns:List Int) (vs:List Value),WellAll P h vs (ns.map WData.int)->IntsAre vs ns:=by
 intro ns
 induction ns with
 | nil =>
  intro vs w;rw [List.map_nil] at w;cases w;exact .nil
 | cons n ns ih =>
  intro vs w;rw [bI] at w;cases w with
  | cons a b =>
   cases a;exact .cons _ _ (ih _ b)
theorem FZ{l:OpenLaw}{n:Nat}(hn:l.most=some n){P:Params}{h:Heap}{args:List WData}{vals:List Value}
  (hpre:l.row.toRowW.claim.pre args=true) (hwl:WellAll P h vals args) :
  ∃a vs ns,vals=[Value.ref a]/\args=[WData.list (ns.map WData.int)]/\h.get? a=some { cls:=.type "list",data:=.seq vs.toArray }/\IntsAre vs ns/\ns.length<=n:=by
 have hsh:WShape.hasAll [] args [.list .int]=true:=(pre_splitW hpre).1;have hc:l.pre.holds [] { args:=args }=true:=(pre_splitW hpre).2;obtain ⟨d,r,rfl,h1,h2⟩:=hasAllW_cons hsh;obtain rfl:=hasAllW_nil h2;obtain ⟨xs,rfl,h3⟩:=hasW_list h1;obtain ⟨ns,rfl⟩:=items_int h3;have hlen:ns.length<=n:=by
  unfold OpenLaw.pre at hc;have h4:(WTm.not (.lt (.lit (.int (n:Int))) (.len (.arg 0)))).holds [] { args:=[.list (ns.map .int)] }=true:=by
   have h4:=(holds_andW hc).1;rw [hn] at h4;exact h4
  have h5:=condW_of h4 (w_not (w_lt w_lit (w_len_list (w_arg rfl))));rw [aA] at h5;refine Nat.le_of_not_lt λq=>?_;have q':(n:Int)<((ns.length:Nat):Int):=Oo
  first
   | (rw [eA q'] at h5;exact absurd h5 yd)
   | (simp at h5;omega)
 cases hwl with
 | cons w1 w2 =>
  cases w2;cases w1 with
  | list ho hall=>exact ⟨_,_,ns,rfl,rfl,ho,sK ns _ hall,hlen⟩
theorem GD(l:OpenLaw)(args:List WData):l.row.toRowW.claim.post args (.bool true) args=true :=
 postW_of (r:=l.row.toRowW) (X:=(true == true))
  (show WShape.has [] (.bool true) .bool=true by first | rfl | decide | simp [WShape.has,WShape.arms,WShape.armsAll])
  (show (WTm.eq .res (.lit (.bool true))).value [] { args:=args,res:=some (.bool true),after:=args }=some (.bool (true == true)) from w_eq_bool (w_res rfl) w_lit) rfl
theorem AU{l:OpenLaw}{n:Nat}{q:Program}{loose:List Str}{XP:(Str->Option Value)->Heap->Prop}{YP:World->Heap->Prop}{d:DefRec}
  (hn:l.most=some n) (hdf:d.params.defaults=[])
  (call:∀(w:World) (s₀ s₁:Shared) (mg mb:Str->Option Value) (fa:Addr) (o:Obj) (pm cd doc:Value) (a:Addr) (vs:List Value) (ns:List Int),
   Ground q loose [] XP w s₀ mg mb s₁.heap->YP w s₁.heap ->
   s₁.heap.get? fa=some o->o.data=.func (docDef d.name d.params d.body d.scope pm cd doc)->s₁.heap.CodeRec cd d.name->mg d.name=some (.ref fa) ->
   s₁.heap.get? a=some { cls:=.type "list",data:=.seq vs.toArray }->IntsAre vs ns->ns.length<=n->s₁.gens=#[] ->
   codeAny (model l.prog w) callerA (.call (.ref fa) ⟨[.ref a],[]⟩) (λr s'=>r=.ok (.ret (.bool true))/\OldK s₁.heap s'.heap/\s'.os=s₁.os/\AllBare s'.gens) s₁) :
  WalkO q loose XP YP l.row.toRowW d [] (λf vs=>PySem.call f vs):=by
 intro w s₀ s₁ mg mb G Y fa o pm cd doc dV kV ho hd hcd hD hmg hg args vals as hpre hlay hrd hwl hlo;obtain rfl:dV=.none:=Dflts.none hD hdf;obtain rfl:kV=.none:=Dflts.noKw hD;obtain ⟨a,vs,ns,rfl,rfl,hobj,hints,hlen⟩:=FZ hn hpre hwl;refine enter_call (codeAny_mono (call w s₀ s₁ mg mb fa o pm cd doc a vs ns G Y ho (fd_plain hd) hcd hmg hobj hints hlen hg) λr s' hq=>?_);obtain ⟨rfl,h2,h3,h4⟩:=hq;exact ⟨.inl ⟨.bool true,.bool true,[],rfl,λ_=>rfl,.bool true,GD l _,λ_=>⟨List.Pairwise.nil,λ_ hm=>(nomatch hm)⟩⟩,h2,h3,h4⟩
section
variable{prog:Program}{w:World}{A:Around}{E:Value->Shared->Prop}{s:Shared}{K:Frag}
end
end Att
namespace L2
open PySem PySem.Spec PyProof.Rows
theorem uZ:∀{vs:List Value}{ns:List Int},IntsAre vs ns->dA (ns.map V.int) vs
 | _,_,.nil=>.nil
 | _,_,.cons n t h=>.cons ⟨t,rfl⟩ (uZ h)
def QD(H:Hp):Prop:=∀b,H b=none\/∃o xs,H b=some (.frz o (.lst xs))
theorem KO{P:Program}{w:World}{K:PySem.W.Frag}{mg mb:Str->Option Value}{CX:HV}{k:Nat}{fa a:Addr}{fd:FuncData}{x:Str}{sp:Sp}{s₁:Shared}{vs:List Value}{ns:List Int}
  (KX:K.In s₁.heap) (hns:s₁.heap.Ns mainGlobals mg) (hb:s₁.heap.Ns builtinsNs mb) (hbb:∀x:Str,x ≠ "__name__" -> mb x=bootBuiltins x) (hlim:s₁.heap.NoLimit) (hg:s₁.gens=#[])
  (ha:s₁.heap.get? a=some { cls:=.type "list",data:=.seq vs.toArray }) (hi:IntsAre vs ns) (hl:ns.length<=sizeLine) (hr:jL k callerA)
  (F:∀base:Heap,K.In base->base.Ns mainGlobals mg->eJ P w K mg base CX k fa fd [x] sp) (hbind:∀(s:Shared) (u:Value),BindsTo s fd ⟨[u],[]⟩ [(x,u)])
  (hsp:∀H:Hp,QD H->fE K H a (ns.map V.int)->sp [.ref a] H (λv _=>v=.bl true) λ_ _ _=>False)
  (hCX:∀H e s',CX [] H s₁ (λ_ _ _=>False) e s'->False) :
  codeAny (model P w) callerA (.call (.ref fa) ⟨[.ref a],[]⟩) (λr s'=>r=.ok (.ret (.bool true))/\OldK s₁.heap s'.heap/\s'.os=s₁.os/\AllBare s'.gens) s₁:=by
 have rv:=uZ hi;have lenV:=hi.length;have core:∀H:Hp,QD H->fE K H a (ns.map V.int)->mK P w H s₁.heap->(∀b,H b≠none->b=a)->(H a≠none->K.lookup a=none) ->
   codeAny (model P w) callerA (.call (.ref fa) ⟨[.ref a],[]⟩) (λr s'=>r=.ok (.ret (.bool true))/\OldK s₁.heap s'.heap/\s'.os=s₁.os/\AllBare s'.gens) s₁:=by
  intro H hO hS hok hA hK;have base_of:∀{b:Addr} {o:Obj},s₁.heap.get? b=some o->H b=none->(xT s₁.heap H).get? b=some o:=λe n=>KS e n;have noA:∀{b:Addr} {o:Obj} {es:Array DictEntry} {ep:Nat},s₁.heap.get? b=some o->o.data=.dict es ep->H b=none:=λ{b o es ep} e d=>by
   cases q:H b with
   | none=>rfl
   | some u =>
    have e':b=a:=hA b (by rw [q];simp);subst e';rw [ha] at e;cases e;have d':Data.seq vs.toArray _=Data.dict es ep:=d;cases d'
  have nsK:∀{b:Addr} {m:Str->Option Value},s₁.heap.Ns b m->(xT s₁.heap H).Ns b m:=λ{b m} ⟨o,es,ep,e,d,r⟩=>⟨o,es,ep,base_of e (noA e d),d,r⟩;have hKb:K.In (xT s₁.heap H):=λb o e=>base_of (KX b o e) (by
   cases q:H b with
   | none=>rfl
   | some u =>
    have e':b=a:=hA b (by rw [q];simp);subst e';rw [hK (by rw [q];simp)] at e;cases e)
  have hM:ZK K mg (xT s₁.heap H):=⟨hKb,nsK hns,⟨mb,nsK hb,hbb⟩,let ⟨mc,h1,h2⟩:=hlim;⟨mc,nsK h1,h2⟩⟩;have e0:QF P w K mg (xT s₁.heap H) callerA [] s₁ H:=⟨rfl,hM,λb o e=>OM e,Nat.le_of_eq (GT _ _),trivial,λb hb=>absurd (show b∈([]:List Addr) from hb) (by simp),hok,.of_eq hg⟩;refine codeAny_mono ((F _ hKb (nsK hns)).run callerA [] s₁ H ⟨[.ref a],[]⟩ [.ref a] [.ref a] _ _ hr e0 (hbind s₁ (.ref a)) (.cons rfl .nil) (hsp H hO hS)) λr s' h=>?_;cases r with
  | error e=>exact (hCX H e s' h).elim
  | ok fl =>
   cases fl with
   | next=>exact False.elim h
   | brk=>exact False.elim h
   | cont=>exact False.elim h
   | ret u =>
    obtain ⟨v,H',os,bare,un,hok',r',q⟩:=h;have q':v=.bl true:=q;subst q';obtain rfl:u=Value.bool true:=r';refine ⟨rfl,OldK.of_keep λb o e=>?_,os,bare⟩;cases q:H b with
    | none=>exact un.keep b o e q (by intro z;exact absurd (show b∈([]:List Addr) from z) (by simp)) (by simp)
    | some u =>
     rcases hO b with z | ⟨ob,xs,z⟩
     ·rw [q] at z;cases z
     ·have z2:=un.frzs b ob _ z;obtain ⟨e1,_⟩:=hok b _ z;obtain ⟨e2,_⟩:=hok' b _ z2;rw [e] at e1;cases e1;exact e2
 cases hk:K.lookup a with
 | some o =>
  have e:=KX a o hk;rw [ha] at e;cases e;refine core (λ_=>none) (λ_=>.inl rfl) (.inr ⟨_,vs.toArray,_,hk,rfl,rfl,rfl,by rw [aU,lenV];exact hl,by simpa using rv⟩) (λb u z=>by have z':(none:Option HO)=some u:=z;cases z') (λb z=>absurd rfl z) λz=>absurd rfl z
 | none =>
  refine core (λb=>if b=a then some (.frz { cls:=.type "list",data:=.seq vs.toArray } (.lst (ns.map V.int))) else none) (λb=>?_) (.inl (.inr ⟨{ cls:=.type "list",data:=.seq vs.toArray },if_pos rfl⟩)) (λb u z=>?_) (λb z=>?_) λ_=>hk
  ·by_cases hb:b=a
   ·exact .inr ⟨_,_,if_pos hb⟩
   ·exact .inl (if_neg hb)
  ·by_cases hb:b=a
   ·have z':=(if_pos hb).symm.trans z;cases z';subst hb;exact ⟨ha,by rw [aA];exact hl,vs,_,rv,ha⟩
   ·have z':=(if_neg hb).symm.trans z;cases z'
  ·by_cases hb:b=a
   ·exact hb
   ·exact absurd (if_neg hb) z
theorem CZ{l:PySem.W.OpenLaw}{n k:Nat}{q:Program}{loose:List Str}{XP:(Str->Option Value)->Heap->Prop}{YP:World->Heap->Prop}{d:DefRec}{K:Params->PySem.W.Frag}{CX:World->HV}{sp:World->Sp}{x:Str}
  (hn:l.most=some n) (hn2:n<=sizeLine) (hdf:d.params.defaults=[]) (hr:jL k callerA)
  (hY:∀(w:World) (h:Heap),YP w h->(K w.params).In h)
  (F:∀(w:World) (mg:Str->Option Value) (fa:Addr) (h:Heap),(K w.params).In h->h.Ns mainGlobals mg->mg d.name=some (.ref fa) ->
   ∃fd:FuncData,(∀(s:Shared) (u:Value),BindsTo s fd ⟨[u],[]⟩ [(x,u)]) /\
    ∀base:Heap,(K w.params).In base->base.Ns mainGlobals mg->eJ l.prog w (K w.params) mg base (CX w) k fa fd [x] (sp w))
  (hsp:∀(w:World) (H:Hp) (a:Addr) (ns:List Int),ns.length<=n->QD H->fE (K w.params) H a (ns.map V.int)->sp w [.ref a] H (λv _=>v=.bl true) λ_ _ _=>False)
  (hCX:∀(w:World) (H:Hp) (s:Shared) (e:Value) (s':Shared),CX w [] H s (λ_ _ _=>False) e s'->False) :
  PySem.W.WalkO q loose XP YP l.row.toRowW d [] (λf vs=>PySem.call f vs):=by
 refine Att.AU hn hdf λw s₀ s₁ mg mb fa o pm cd doc a vs ns G Y ho hd hcd hmg hobj hints hlen hg=>?_;have KX:=hY w _ Y;obtain ⟨fd,hb,hF⟩:=F w mg fa _ KX G.T.g hmg;exact KO KX G.T.g G.T.b G.T.builtins G.T.nolimit hg hobj hints (aZ hlen hn2) hr hF hb (λH hO hS=>hsp w H a ns hlen hO hS) λH e s'=>hCX w H s₁ e s'
theorem IN{l:PySem.W.OpenLaw}{n k:Nat}{q:Program}{loose:List Str}{XP:(Str->Option Value)->Heap->Prop}{YP:World->Heap->Prop}{d:DefRec}{K:Params->PySem.W.Frag}{CX:HV}{sp:PySem.W.Frag->Sp}{x:Str}
  (hn:l.most=some n) (hn2:n<=sizeLine) (hdf:d.params.defaults=[]) (hr:jL k callerA)
  (hY:∀(w:World) (h:Heap),YP w h->(K w.params).In h)
  (F:∀(w:World) (mg:Str->Option Value) (fa:Addr) (h:Heap),(K w.params).In h->h.Ns mainGlobals mg->mg d.name=some (.ref fa) ->
   ∃fd:FuncData,(∀(s:Shared) (u:Value),BindsTo s fd ⟨[u],[]⟩ [(x,u)]) /\
    ∀base:Heap,(K w.params).In base->base.Ns mainGlobals mg->eJ l.prog w (K w.params) mg base CX k fa fd [x] (sp (K w.params)))
  (hsp:∀(K:PySem.W.Frag) (H:Hp) (a:Addr) (ns:List Int),ns.length<=n->QD H->fE K H a (ns.map V.int)->sp K [.ref a] H (λv _=>v=.bl true) λ_ _ _=>False)
  (hCX:∀(H:Hp) (s:Shared) (e:Value) (s':Shared),CX [] H s (λ_ _ _=>False) e s'->False) :
  PySem.W.WalkO q loose XP YP l.row.toRowW d [] (λf vs=>PySem.call f vs) :=
 CZ (K:=K) (CX:=λ_=>CX) (sp:=λw=>sp (K w.params)) hn hn2 hdf hr hY F (λw H a ns h1 h2 h3=>hsp (K w.params) H a ns h1 h2 h3) λ_ H s e s'=>hCX H s e s'
end L2
/- THE LAST THEOREM (shape;LID,My.* are yours):
   My.Adr: a structure of the addresses that your layer names (classes,functions);My.Txt K t: a structure (Prop) of the equations over K;
   My.txt_mk:{K} {implicit addresses ..} (e1:nsIn K mainGlobals "law" = some (some (.ref f))) (e2:K.lookup f=some ⟨oc,od,.func (fnOf "law" "law" params body scope dV kV doc pm an cdv ct),sl⟩) (e3:codeIn K cdv "law" = true) .. : ∃t,My.Txt K t
set_option maxRecDepth 100000 in
set_option maxHeartbeats 0 in
theorem PySem.Challenge.cw_LID_holds : PySem.Challenge.rw_LID.Holds := by
  w_on;o_law;k_head;(case hw=>w_witness2)
  k_fill
  refine L2.CZ (l:=PySem.Challenge.rw_LID) (n:=63) (k:=40) (x := "script") (CX:=λw=>..) (sp:=λ_=>My.sp_law) rfl yd rfl ⟨rfl,yd,yd⟩ (λw h Y=>PySem.W.kIn_of Y) ?F ?S ?C
  case F =>
    intro w mg fa h KX G hmg;have T:∃t,My.Txt (L2.KOf KX) t:=by
      dsimp only [L2.KOf]                          -- K must stand as «<heap const> w.params» for k_is
      refine' My.txt_mk ?e1 ?e2 ?e3 ..
      (case e1=>PySem.W.k_is)                    -- in the order: a name -> its address -> its object -> its parts
      (case e2=>PySem.W.k_is)
      ..
    obtain ⟨t,T⟩:=T;have e0:=hmg.symm.trans (PySem.W.mg_of KX G T.law);cases e0                                       -- fa is the law's own address;exact ⟨_,λs u=>.of_eq rfl,λbase kb nb=>My.law_fn T kb nb⟩     -- if «.of_eq rfl» comes too early: refine' ⟨_,?b,λbase kb nb=>My.law_fn T kb nb⟩;exact λs u=>.of_eq rfl
  case S=>exact λw H a ns hl hO hS=>..
  case C=>exact ..
(the tactic k_is has no namespace: write k_is) -/
namespace L2
open PySem PySem.Spec PyProof.Rows
def nN(s:Stmt):Arguments:=match s with
 | .FunctionDef _ a _ _ _ _ _ _ _ _=>a
 | _=>{ posonlyargs:=[],args:=[],vararg:=none,kwonlyargs:=[],kw_defaults:=[],kwarg:=none,defaults:=[] }
def jK(s:Stmt):List Stmt:=match s with
 | .FunctionDef _ _ b _ _ _ _ _ _ _=>b
 | _=>[]
def aT(s:Stmt):Scope:=match s with
 | .FunctionDef _ _ _ _ _ _ sc _ _ _=>sc
 | _=>{ kind:=.function,names:=[],isGenerator:=false,isCoroutine:=false }
abbrev dR:HV:=λ_ _ _ _ _ _=>False
abbrev E0:XK:=λ_ _ _=>False
theorem XU{X:Cx}:CN dR X E0:=λ_ _ _ _ _ _ _ h=>h.elim
structure jA(K:PySem.W.Frag)(x qual:Str)(st:Stmt)(f:Addr)(fd:FuncData):Prop where
 ex:∃(oc:Value) (od:Option Addr) (kV doc pm:Value) (an:Option Addr) (cdv ct:Value) (osl:Array (Option Value)),
  fd=PySem.W.fnOf x qual (nN st) (jK st) (aT st) .none kV doc pm an cdv ct/\K.lookup f=some ⟨oc,od,.func fd,osl⟩/\PySem.W.codeIn K cdv qual=true
 kp:PySem.W.keepIn K (.ref f)=true
section
variable{P:Program}{w:World}{K:PySem.W.Frag}{mg:Str->Option Value}{base:Heap}
theorem jA.ok{x qual:Str}{st:Stmt}{f:Addr}{fd:FuncData}{N ps:List Str}{k:Nat}{sp:Sp}(F:jA K x qual st f fd)(S:bW N ps (aT st))(len:∀vs H Q E,sp vs H Q E->vs.length=ps.length)
  (hbody:∀(cdv:Value) (A:Around) (outer:List Env) (s:Shared) (H:Hp) (vs:List V) (Q:VK) (E:XK),jL k (A.deeper (envOfC qual (aT st) s.heap.objs.size f cdv))->sp vs H Q E ->
   ∃t,CO (AH dR P w K mg base N qual (aT st) f cdv A outer s H E).nox (jK st) t/\t { nx:=λ_ H'=>Q .non H',rt:=Q } (start N vs) H):eJ P w K mg base dR (k+1) f fd ps sp:=by
 obtain ⟨oc,od,kV,doc,pm,an,cdv,ct,osl,rfl,lk,hcd⟩:=F.ex;refine YF lk hcd S len λA outer s H vs Q E hr hsp=>?_;obtain ⟨t,h,q⟩:=hbody cdv A outer s H vs Q E hr hsp;exact ⟨t,h.nox,q⟩
theorem jA.binds{x qual:Str}{st:Stmt}{f:Addr}{fd:FuncData}{ps:List Str}(F:jA K x qual st f fd)
  (h:∀(kV doc pm:Value) (an:Option Addr) (cdv ct:Value) (us:List Value),us.length=ps.length->bindArgs (PySem.W.fnOf x qual (nN st) (jK st) (aT st) .none kV doc pm an cdv ct) ⟨us,[]⟩=pure (ps.zip us)):wJ K fd ps []:=by
 obtain ⟨oc,od,kV,doc,pm,an,cdv,ct,osl,rfl,lk,hcd⟩:=F.ex;exact .all (h kV doc pm an cdv ct)
theorem CB{x qual:Str}{st:Stmt}{f:Addr}{oc:Value}{od an:Option Addr}{osl:Array (Option Value)}{kV doc pm cdv ct:Value}(l:K.lookup f=some ⟨oc,od,.func (PySem.W.fnOf x qual (nN st) (jK st) (aT st) .none kV doc pm an cdv ct),osl⟩)
  (c:PySem.W.codeIn K cdv qual=true) (k:PySem.W.keepIn K (.ref f)=true):jA K x qual st f (PySem.W.fnOf x qual (nN st) (jK st) (aT st) .none kV doc pm an cdv ct):=⟨⟨oc,od,kV,doc,pm,an,cdv,ct,osl,rfl,l,c⟩,k⟩
end
theorem qP{n:Nat}(h:n<=1000):n<sizeLine:=bJ h yd
section
variable{X:Cx}
theorem pv(i:Nat){x:Str}{pos:Pos}(hN:X.N[i]?=some x:=by rfl)(hv:ZH X.env.scope x:=by first | exact Or.inl rfl | exact Or.inr (Or.inl rfl) | exact Or.inr (Or.inr rfl))(hd:(x == ("__debug__" : Str))=false:=by decide)
  (hcd:(x == ("__classdict__" : Str))=false:=by decide):PE X (.Name x pos) (SC i):=UE hN hv hd hcd
end
theorem aAN{A B:Prop}(h:B):if false=true then A else B:=by
 rw [if_neg bD];exact h
theorem aAM{A B:Prop}(h:A):if true=true then A else B:=by
 rw [if_pos rfl];exact h
theorem YA{c A B:Prop}[Decidable c](h1:c->A)(h2:¬c->B):if c then A else B:=by
 by_cases h:c
 ·rw [if_pos h];exact h1 h
 ·rw [if_neg h];exact h2 h
def aQ(H H':Hp):Prop:=∀b o,H b=some o->H' b=some o
theorem aQ.refl(H:Hp):aQ H H:=λ_ _ h=>h
theorem aQ.trans{H H1 H2:Hp}(a:aQ H H1)(b:aQ H1 H2):aQ H H2:=λc o h=>b c o (a c o h)
theorem aQ.free{H H':Hp}(e:aQ H H'){l:Addr}(h:H' l=Option.none):H l=Option.none:=by
 cases q:H l with
 | none=>rfl
 | some o =>
  rw [e l o q] at h;cases h
section
variable{κ:Type}[DecidableEq κ]
def eY(kvs:List (κ × V))(k:κ):Option V:=(kvs.find? λkv=>decide (kv.1=k)).map (·.2)
def jV(kvs:List (κ × V))(k:κ)(v:V):List (κ × V) :=
 if (kvs.any λkv=>decide (kv.1=k))=true then kvs.map (λkv=>if kv.1=k then (kv.1,v) else kv) else kvs++[(k,v)]
theorem fH{p:κ × V}{r:List (κ × V)}{k:κ}(e:p.1=k):eY (p::r) k=some p.2:=by simp [eY,List.find?_cons,e]
theorem fI{p:κ × V}{r:List (κ × V)}{k:κ}(e:¬p.1=k):eY (p::r) k=eY r k:=by simp [eY,List.find?_cons,e]
theorem iT(k:κ):∀kvs:List (κ × V),(kvs.any λkv=>decide (kv.1=k))=(eY kvs k).isSome
 | []=>rfl
 | p::r=>by
  rw [List.any_cons];by_cases e:p.1=k
  ·simp only [fH e,eA e,Bool.true_or,Option.isSome_some]
  ·rw [fI e,dF e,Bool.false_or];exact iT k r
theorem yL(k j:κ)(y:V):∀kvs:List (κ × V),eY (kvs.map λkv=>if kv.1=k then (kv.1,y) else kv) j=(eY kvs j).map λx=>if j=k then y else x
 | []=>rfl
 | p::r=>by
  have ih:=yL k j y r;rw [bI];by_cases h:p.1=k
  ·rw [if_pos h];by_cases e:p.1=j
   ·rw [fH (p:=(p.1,y)) e,fH e,Option.map_some,if_pos (e.symm.trans h)]
   ·rw [fI (p:=(p.1,y)) e,fI e,ih]
  ·rw [if_neg h];by_cases e:p.1=j
   ·rw [fH (p:=p) e,fH e,Option.map_some,if_neg (λz=>h (e.trans z))]
   ·rw [fI (p:=p) e,fI e,ih]
theorem vA(k j:κ)(y:V):∀kvs:List (κ × V),eY kvs k=none->eY (kvs++[(k,y)]) j=if j=k then some y else eY kvs j
 | [],_=>by
  by_cases e:k=j
  ·rw [if_pos e.symm];exact fH (p:=(k,y)) e
  ·rw [if_neg (λz=>e z.symm)];exact fI (p:=(k,y)) e
 | p::r,hn=>by
  rw [List.cons_append];have hk:¬p.1=k:=λz=>by rw [fH z] at hn;cases hn
  rw [fI hk] at hn;have ih:=vA k j y r hn;by_cases e:p.1=j
  ·rw [fH e,fH e,if_neg (λz=>hk (e.trans z))]
  ·rw [fI e,fI e,ih]
theorem oS(kvs:List (κ × V))(k j:κ)(y:V):eY (jV kvs k y) j=if j=k then some y else eY kvs j:=by
 unfold jV;by_cases a:(kvs.any λkv=>decide (kv.1=k))=true
 ·rw [if_pos a,yL];rw [iT] at a;by_cases e:j=k
  ·obtain ⟨x,hx⟩:=Option.isSome_iff_exists.mp a;rw [if_pos e,e,hx,Option.map_some,if_pos rfl]
  ·rw [if_neg e];cases eY kvs j with
   | none=>rfl
   | some x=>rw [Option.map_some,if_neg e]
 ·rw [if_neg a];refine vA k j y kvs ?_;rw [iT] at a;cases q:eY kvs k with
  | none=>rfl
  | some x=>rw [q] at a;exact (a rfl).elim
theorem gG(kvs:List (κ × V))(k:κ)(v:V):(jV kvs k v).length<=kvs.length+1:=by
 unfold jV;split
 ·rw [aA];omega
 ·rw [bC,dG,List.length_nil];omega
theorem pF{kvs:List (κ × V)}{k:κ}(v:V)(h:eY kvs k=none):jV kvs k v=kvs++[(k,v)]:=by
 unfold jV;rw [iT,h];exact if_neg yd
theorem rT.isSome_eq{o:Option V}{u:Option Value}(r:rT o u):o.isSome=u.isSome:=by
 cases o with
 | none=>cases u with
  | none=>rfl
  | some _=>exact (show False from r).elim
 | some _=>cases u with
  | none=>exact (show False from r).elim
  | some _=>rfl
theorem rT.getD{o:Option V}{u:Option Value}{d:V}{d':Value}(r:rT o u)(rd:dE d d'):dE (o.getD d) (u.getD d'):=by
 cases o with
 | none=>cases u with
  | none=>exact rd
  | some _=>exact (show False from r).elim
 | some _=>cases u with
  | none=>exact (show False from r).elim
  | some _=>exact r
theorem KV.val{kvs:List (κ × V)}{vs:List (κ × Value)}(r:KV kvs vs)(k:κ):rT (eY kvs k) (valueAt vs k):=by
 unfold KV at r
 induction r with
 | nil=>exact True.intro
 | @cons p q ps qs h t ih =>
  obtain ⟨h1,h2⟩:=h;by_cases e:p.1=k
  ·have e':q.1=k:=h1.symm.trans e;have b:valueAt (q::qs) k=some q.2:=by simp [valueAt,List.find?_cons,e']
   rw [fH e,b];exact h2
  ·have e':¬q.1=k:=λz=>e (h1.trans z);have b:valueAt (q::qs) k=valueAt qs k:=by simp [valueAt,List.find?_cons,e']
   rw [fI e,b];exact ih
theorem KV.any{kvs:List (κ × V)}{vs:List (κ × Value)}(r:KV kvs vs)(k:κ):(kvs.any λkv=>decide (kv.1=k))=vs.any λkv=>decide (kv.1=k):=by
 unfold KV at r
 induction r with
 | nil=>rfl
 | cons h t ih=>rw [List.any_cons,List.any_cons,ih,h.1]
theorem KV.repl{kvs:List (κ × V)}{vs:List (κ × Value)}(r:KV kvs vs)(k:κ){y:V}{u:Value}(ry:dE y u) :
  KV (kvs.map λkv=>if kv.1=k then (kv.1,y) else kv) (vs.map λkv=>if kv.1=k then (kv.1,u) else kv):=by
 unfold KV at r ⊢
 induction r with
 | nil=>exact .nil
 | @cons p q ps qs h t ih =>
  rw [bI,bI];refine .cons ?_ ih;obtain ⟨h1,h2⟩:=h;by_cases e:p.1=k
  ·rw [if_pos e,if_pos (h1.symm.trans e)];exact ⟨h1,ry⟩
  ·rw [if_neg e,if_neg (λz=>e (h1.trans z))];exact ⟨h1,h2⟩
theorem KV.put{kvs:List (κ × V)}{vs:List (κ × Value)}(r:KV kvs vs)(k:κ){y:V}{u:Value}(ry:dE y u):KV (jV kvs k y) (stored vs k u):=by
 unfold jV stored;rw [r.any k];by_cases e:(vs.any λkv=>decide (kv.1=k))=true
 ·rw [if_pos e,if_pos e];exact r.repl k ry
 ·rw [if_neg e,if_neg e];exact Paired.snoc r ⟨rfl,ry⟩
theorem KV.length{kvs:List (κ × V)}{vs:List (κ × Value)}(r:KV kvs vs):kvs.length=vs.length:=Paired.length r
end
theorem zX{P:Program}{w:World}{k:eG}{u:Value}(r:dE (kV k) u):(eB P w).is k u=true:=by
 cases k with
 | inl i=>obtain ⟨t,e⟩:=(show ∃t,u=Value.int i t from r);subst e;exact zO P w i t
 | inr x=>obtain ⟨t,e⟩:=(show ∃t,u=Value.str x t from r);subst e;exact zN P w x t
theorem vT{P:Program}{w:World}:∀{ks:List eG}{us:List Value},dA (ks.map kV) us->ItemsAre (eB P w) ks us
 | [],_,r=>by rw [List.map_nil] at r;cases r;exact .nil
 | k::ks,_,r=>by
  rw [bI] at r;cases r with
  | cons h t=>exact .cons (zX h) (vT t)
abbrev KT(H:Hp):List (List eG × V)->List (List eG × Addr × Value)->Prop:=Paired λp q=>p.1=q.1/\H q.2.1=some (.tup (p.1.map kV))/\dE p.2 q.2.2
theorem KT.val{H:Hp}{kvs:List (List eG × V)}{xs:List (List eG × Addr × Value)}(r:KT H kvs xs)(k:List eG):rT (eY kvs k) ((atKey xs k).map (·.2)):=by
 induction r with
 | nil=>exact True.intro
 | @cons p q ps qs h t ih =>
  obtain ⟨h1,_,h2⟩:=h;by_cases e:p.1=k
  ·have e':q.1=k:=h1.symm.trans e;have b:atKey (q::qs) k=some q.2:=by simp [atKey,List.find?_cons,e']
   rw [fH e,b];exact h2
  ·have e':¬q.1=k:=λz=>e (h1.trans z);have b:atKey (q::qs) k=atKey qs k:=by simp [atKey,List.find?_cons,e']
   rw [fI e,b];exact ih
theorem KT.repl{H:Hp}{kvs:List (List eG × V)}{xs:List (List eG × Addr × Value)}(r:KT H kvs xs)(k:List eG){y:V}{u:Value}(ry:dE y u) :
  KT H (kvs.map λkv=>if kv.1=k then (kv.1,y) else kv) (xs.map (putAt k u)):=by
 induction r with
 | nil=>exact .nil
 | @cons p q ps qs h t ih =>
  rw [bI,bI];refine .cons ?_ ih;obtain ⟨h1,h2,h3⟩:=h;unfold putAt;by_cases e:p.1=k
  ·rw [if_pos e,if_pos (h1.symm.trans e)];exact ⟨h1,h2,ry⟩
  ·rw [if_neg e,if_neg (λz=>e (h1.trans z))];exact ⟨h1,h2,h3⟩
theorem KT.put{H:Hp}{kvs:List (List eG × V)}{xs:List (List eG × Addr × Value)}(r:KT H kvs xs)(k:List eG){b:Addr}{y:V}{u:Value}(hb:H b=some (.tup (k.map kV)))(ry:dE y u) :
  KT H (jV kvs k y) (storedH xs k b u):=by
 have e:(kvs.any λkv=>decide (kv.1=k))=(atKey xs k).isSome:=by
  rw [iT,(r.val k).isSome_eq,Option.isSome_map]
 unfold jV storedH;rw [e];by_cases q:(atKey xs k).isSome=true
 ·rw [if_pos q,if_pos q];exact r.repl k ry
 ·rw [if_neg q,if_neg q];exact Paired.snoc r ⟨rfl,hb,ry⟩
theorem KT.keeps{H H':Hp}{kvs:List (List eG × V)}{xs:List (List eG × Addr × Value)}(r:KT H kvs xs)(ht:∀b ys,H b=some (.tup ys)->H' b=some (.tup ys)):KT H' kvs xs :=
 Paired.mapP r λ_ _ z=>⟨z.1,ht _ _ z.2.1,z.2.2⟩
section
variable{P:Program}{w:World}{H:Hp}{h:Heap}{a:Addr}
theorem QT{u:HO}(ok:mK P w H h)(e:Rd H a u):dY P w H h a u:=e.ok ok
theorem vX{kvs:List (eG × V)}(ok:mK P w H h)(e:Rd H a (.dK kvs)):kvs.length<=sizeLine/\(a == sysModules)=false/\∃vs,KV kvs vs/\h.DictOf (eB P w) a vs :=
 show dY P w H h a (.dK kvs) from QT ok e
theorem YH{kvs:List (eG × V)}(ok:mK P w H h)(e:H a=some (.dK kvs)):kvs.length<=sizeLine/\(a == sysModules)=false/\∃vs,KV kvs vs/\h.DictOf (eB P w) a vs:=vX ok (.inl e)
theorem nE{ks:List eG}(ok:mK P w H h)(e:H a=some (.tup (ks.map kV))):(tupleKind (eB P w)).is h ks a:=by
 obtain ⟨_,its,r,o,h1,h2,n,h3⟩:=(show dY P w H h a (.tup (ks.map kV)) from ok a _ e);exact ⟨o,its.toArray,n,h1,h2,h3,by simpa using vT r⟩
theorem vW{kvs:List (List eG × V)}(ok:mK P w H h)(e:Rd H a (.dT kvs)):kvs.length<=sizeLine/\(a == sysModules)=false /\
  ∃xs,KT H kvs xs/\h.DictOfH (tupleKind (eB P w)) a xs:=by
 obtain ⟨z,y,xs,r,o,es,ep,h1,h2,h3,h4,h5⟩:=(show dY P w H h a (.dT kvs) from QT ok e);refine ⟨z,y,xs,r,o,es,ep,h1,h2,h3,h4,λx hx=>?_,h5⟩;have all:∀{l:List (List eG × V)} {m:List (List eG × Addr × Value)},KT H l m->∀x∈m,(tupleKind (eB P w)).is h x.1 x.2.1:=by
  intro l m q
  induction q with
  | nil=>intro x hx;exact nomatch hx
  | @cons p q ps qs hq t ih =>
   intro x hx;rcases bE.mp hx with e | hx
   ·subst e;exact nE ok (by rw [<-hq.1];exact hq.2.1)
   ·exact ih x hx
 exact all r x hx
theorem EQ{kvs:List (List eG × V)}(ok:mK P w H h)(e:H a=some (.dT kvs)):kvs.length<=sizeLine/\(a == sysModules)=false /\
  ∃xs,KT H kvs xs/\h.DictOfH (tupleKind (eB P w)) a xs:=vW ok (.inl e)
end
def mG(H:Hp)(a:Addr)(y:V)(r:Option V):Prop :=
 (∃kvs k,Rd H a (.dK kvs)/\y=kV k/\r=eY kvs k)\/∃kvs k b,Rd H a (.dT kvs)/\y=.ref b/\H b=some (.tup (k.map kV))/\r=eY kvs k
def HU(H:Hp)(a:Addr)(y v:V)(H':Hp):Prop :=
 (∃kvs k,H a=some (.dK kvs)/\y=kV k/\kvs.length<sizeLine/\H'=upd H a (.dK (jV kvs k v))) \/
 ∃kvs k b,H a=some (.dT kvs)/\y=.ref b/\H b=some (.tup (k.map kV))/\kvs.length<sizeLine/\H'=upd H a (.dT (jV kvs k v))
theorem mG.t{H:Hp}{a b:Addr}{kvs:List (List eG × V)}{k:List eG}(e:H a=some (.dT kvs))(eb:H b=some (.tup (k.map kV))):mG H a (.ref b) (eY kvs k):=.inr ⟨kvs,k,b,.inl e,rfl,eb,rfl⟩
theorem HU.t{H:Hp}{a b:Addr}{kvs:List (List eG × V)}{k:List eG}{v:V}(e:H a=some (.dT kvs))(eb:H b=some (.tup (k.map kV)))(hl:kvs.length<sizeLine) :
  HU H a (.ref b) v (upd H a (.dT (jV kvs k v))):=.inr ⟨kvs,k,b,e,rfl,eb,hl,rfl⟩
section
variable{X:Cx}{pins:List (Addr × Obj)}{σ:St}{H:Hp}{s:Shared}{a:Addr}{y v:V}{u r:Value}{o:Option V}{A:Around}{E:Value->Shared->Prop}
theorem cA.big(I:cA X pins σ H s):sysModules<s.heap.objs.size:=by
 have h:mainGlobals<s.heap.objs.size:=(I.mod.glob.keeps I.bk).lt;exact Nat.lt_trans yd h
theorem GW{Q:Value->Shared->Prop}(hu:A.units+1<cLine)(I:cA X pins σ H s)(g:mG H a y (some v))(ry:dE y u)(h:∀w' s',cA X pins σ H s'->dE v w'->Q w' s') :
  wpAny (model X.prog X.w) A (getItem (.ref a) u) Q E s:=by
 rcases g with ⟨kvs,k,e,ey,l⟩ | ⟨kvs,k,b,e,ey,eb,l⟩
 ·subst ey;obtain ⟨z,hd,vs,rel,dd⟩:=vX I.hok e;obtain ⟨w',hw,rw'⟩:=rT.some_of (v:=v) (o:=valueAt vs k) (by rw [l];exact rel.val k);exact wpAny_getItem_of (zX ry) dd.mapOf hw (h w' _ (I.tok _) rw')
 ·subst ey;cases (show u=Value.ref b from ry);obtain ⟨z,hd,xs,rel,dd⟩:=vW I.hok e;obtain ⟨w',hw,rw'⟩:=rT.some_of (v:=v) (o:=(atKey xs k).map (·.2)) (by rw [l];exact rel.val k);obtain ⟨p,hp,hp2⟩:=fN.mp hw;refine wpAny_getItem_heap (tupleKind_room_in1 hu) (nE I.hok eb) dd hp ?_;rw [hp2];exact h w' _ (I.tok _) rw'
theorem PD{Q:Value->Shared->Prop}(hu:A.units+1<cLine)(I:cA X pins σ H s)(g:mG H a y o)(ry:dE y u)(h:∀s',cA X pins σ H s'->Q (.bool (!o.isSome)) s') :
  wpAny (model X.prog X.w) A (compareOp .NotIn u (.ref a)) Q E s:=by
 rcases g with ⟨kvs,k,e,ey,l⟩ | ⟨kvs,k,b,e,ey,eb,l⟩
 ·subst ey;obtain ⟨z,hd,vs,rel,dd⟩:=vX I.hok e;refine wpAny_notIn_of (zX ry) hd dd.mapOf ?_;rw [<-(rel.val k).isSome_eq,<-l];exact h _ (I.tok _)
 ·subst ey;cases (show u=Value.ref b from ry);obtain ⟨z,hd,xs,rel,dd⟩:=vW I.hok e;refine wpAny_notIn_heap (tupleKind_room_in1 hu) (nE I.hok eb) hd dd ?_;have q:=(rel.val k).isSome_eq;rw [Option.isSome_map] at q;rw [<-q,<-l];exact h _ (I.tok _)
theorem sV{h':Heap}{t':Nat}{ob:HO}(I:cA X pins σ H s)(mu:YO (H a))(hs:Heap.SameBut a s.heap h')(he:∃q,h'.get? a=some q)(new:dY X.prog X.w (upd H a ob) h' a ob) :
  cA X pins σ (upd H a ob) { s with heap:=h',toks:=t' } :=
 I.write (x:=a) (e:=a) mu (.inl rfl) (λb q hb z=>(hs.2 b hb).trans z) he new
theorem VL{P:Program}{w:World}{H':Hp}{h':Heap}{kvs:List (eG × V)}{vs:List (eG × Value)}(z:kvs.length<=sizeLine)(hd:(a == sysModules)=false)(rel:KV kvs vs)(dd:h'.DictOf (eB P w) a vs) :
  dY P w H' h' a (.dK kvs):=⟨z,hd,vs,rel,dd⟩
theorem GV{H':Hp}{Q:Unit->Shared->Prop}(hu:A.units+1<cLine)(I:cA X pins σ H s)(g:HU H a y v H')(ry:dE y u)(rv:dE v r)(h:∀s',cA X pins σ H' s'->Q () s') :
  wpAny (model X.prog X.w) A (setItem (.ref a) u r) Q E s:=by
 rcases g with ⟨kvs,k,e,ey,l,eH⟩ | ⟨kvs,k,b,e,ey,eb,l,eH⟩
 ·subst ey eH;obtain ⟨z,hd,vs,rel,dd⟩:=YH I.hok e;have hz:vs.length<=sizeLine:=by rw [<-rel.length];exact z
  have hl:(jV kvs k v).length<=sizeLine:=by have:=gG kvs k v;omega
  refine wpAny_setItem_pairs (hsz:=hz) (zX ry) dd λh' dd' hs=>h _ ?_;have he:∃q,h'.get? a=some q:=let ⟨q,_,_,hq,_⟩:=dd';⟨q,hq⟩;exact sV I (by rw [e];exact True.intro) hs he (VL hl hd (rel.put k rv) dd')
 ·subst ey eH;cases (show u=Value.ref b from ry);obtain ⟨z,hd,xs,rel,dd⟩:=EQ I.hok e;have hz:xs.length<=sizeLine:=by rw [<-Paired.length rel];exact z
  have hl:(jV kvs k v).length<=sizeLine:=by have:=gG kvs k v;omega
  refine wpAny_setItem_heap (hsz:=hz) (tupleKind_room_in1 hu) (nE I.hok eb) dd λh' dd' hs=>h _ ?_;obtain ⟨q,es,ep,hq,h2,h3,h4,_,h5⟩:=dd';refine sV I (by rw [e];exact True.intro) hs ⟨q,hq⟩ ⟨hl,hd,_,(rel.put k eb rv).keeps λc ys ec=>?_,q,es,ep,hq,h2,h3,h4,h5⟩;rw [cS (vP ec e (λz=>nomatch z))];exact ec
end
section
variable{X:Cx}{pins:List (Addr × Obj)}{σ:St}{H:Hp}{s:Shared}{a:Addr}{kvs:List (eG × V)}{k:eG}{u:Value}{A:Around}{E:Value->Shared->Prop}
end
def WA(i:Expr):Prop:=∀ov iv,subscripted i false ov iv=operate [ov,iv] (getItem ov iv)
theorem MW{prog:Program}{w:World}{A:Around}{E:Value->Shared->Prop}{s:Shared}{env:Env}{value slice:Expr}{pos:Pos}{T id:String}{Q:Value->Shared->Prop}
  (hl:typeLookup (.type T) "__getitem__" = pure (some (.builtin id))) (hs:WA slice)
  (h:wpAny (model prog w) A (eval value env) (λo s₁=>wpAny (model prog w) A (eval slice env) (λi s₂=>s₂.TypeIs o T/\wpAny (model prog w) A (getItem o i) Q E s₂) E s₁) E s) :
  wpAny (model prog w) A (eval (.Subscript value slice pos) env) Q E s:=by
 refine Subscript_ (wpAny_mono h (λo s₁ h₁=>wpAny_mono h₁ (λi s₂ h₂=>?_) λ_ _ x=>x) λ_ _ x=>x);obtain ⟨hT,h₂⟩:=h₂;unfold subscriptTail;refine wpAny_bind ?_;rw [getitemInPython_of_ne hT.not_modules];refine wpAny_bind (wpAny_specialOf hT hl ?_);have fin:wpAny (model prog w) A (subscripted slice false o i) (λr s₃=>wpAny (model prog w) A (letTemporaryGo value o r >>= λ_=>pure r) Q E s₃) E s₂:=by
  rw [hs o i];exact wpAny_operating (wpAny_mono h₂ (λr s₃ h₃=>wpAny_bind (wpAny_letTemporaryGo (wpAny_pure h₃))) λ_ _ x=>x)
 first
  | exact wpAny_pure (wpAny_bind fin)
  | exact wpAny_bind (wpAny_pure (wpAny_bind fin))
  | exact wpAny_bind fin
theorem AF{X:Cx}{pins:List (Addr × Obj)}{σ:St}{H:Hp}{s:Shared}{a:Addr}{y:V}{o:Option V}(I:cA X pins σ H s)(g:mG H a y o):s.TypeIs (.ref a) "dict" := by
 rcases g with ⟨kvs,k,e,_,_⟩ | ⟨kvs,k,b,e,_,_,_⟩
 ·obtain ⟨_,_,vs,_,dd⟩:=vX I.hok e;exact dd.typeIs
 ·obtain ⟨_,_,xs,_,dd⟩:=vW I.hok e;exact dd.typeIs
def WW(td ty:TE):TE:=λσ H Q=>td σ H λx H1=>ty σ H1 λy H2=>∃a v,x=.ref a/\mG H2 a y (some v)/\Q v H2
def XA(td ty tv:TE):TS:=λD σ H=>tv σ H λv H1=>td σ H1 λx H2=>ty σ H2 λy H3=>∃a H4,x=.ref a/\HU H3 a y v H4/\D.nx σ H4
section
variable{X:Cx}{o i e value:Expr}{pos pos' tpos:Pos}{td ty tv:TE}
theorem OC(hu:X.A.units+1<cLine)(ho:PE X o td)(hi:PE X i ty)(hs:WA i):PE X (.Subscript o i pos) (WW td ty):=by
 intro pins s σ H Q I h;refine MW PySem.F.slot_dict_getitem.lookup hs (thn (ho pins s σ H _ I h) λu s1 ⟨x,H1,I1,rx,q1⟩=>thn (hi pins s1 σ H1 _ I1 q1) λiv s2 ⟨y,H2,I2,ry,a,v,ex,g,q2⟩=>?_);subst ex;obtain rfl:u=Value.ref a:=rx;exact ⟨AF I2 g,GW hu I2 g ry λw' s3 I3 rw'=>⟨v,H2,I3,rw',q2⟩⟩
theorem NW(hu:X.A.units+1<cLine)(ho:PE X o td)(hi:PE X i ty)(hv:PE X value tv)(hs:swapsWith value (some (.Subscript o i pos')) pos.line X.env=pure false) :
  PS X (.Assign [.Subscript o i pos'] value pos) (XA td ty tv):=by
 intro pins s σ H D I h;refine wpAny_Assign_Subscript (thn (hv pins s σ H _ I h) λr s1 ⟨v,H1,I1,rv,q1⟩=>thn (ho pins s1 σ H1 _ I1 q1) λu s2 ⟨x,H2,I2,rx,q2⟩=>thn (hi pins s2 σ H2 _ I2 q2) λiv s3 ⟨y,H3,I3,ry,a,H4,ex,g,q3⟩=>?_) hs;subst ex;obtain rfl:u=Value.ref a:=rx;exact GV hu I3 g ry rv λs4 I4=>⟨σ,H4,I4,q3⟩
end
theorem uF{P:Program}{w:World}{H:Hp}(h:Heap)(hb:sysModules<h.objs.size):dY P w H (h.push { cls:=.type "dict",data:=.dict #[] }) h.objs.size (.dT []) :=
 ⟨cM _,beq_eq_false_iff_ne.mpr (Ne.symm (dD hb)),[],.nil,_,#[],0,aS _ rfl,⟨rfl,rfl,rfl⟩,rfl,rfl,List.nodup_nil⟩
def IS:TE:=λ_ H Q=>∀p,H p=none->Q (.ref p) (upd H p (.dT []))
section
variable{X:Cx}{pos:Pos}
theorem pe_dnewT:PE X (.Dict [] [] pos) IS:=λpins s σ H Q I h =>
 wpAny_Dict_empty ⟨.ref s.heap.objs.size,_,I.laid (a:=s.heap.objs.size) (o:=.dT []) (t':=s.toks) (λ_ _ q=>aC _ q) (aF _) (uF s.heap I.big),rfl,h _ (I.hok.fresh (aF _))⟩
end
structure M2(X:Cx)(o:Expr)(m:Str)(apos:Pos)(e f:Expr)(cpos:Pos):Prop where
 base:attributeBase o m X.env (eval o X.env)=eval o X.env
 few:((backTo cpos (starEach [e,f] X.env)).all (λx=>!x.1)&&(backToKw cpos (keywordEach [] X.env)).all (λx=>x.1.isSome)
  && decide (([e,f]:List Expr).length+([]:List Keyword).length+(if ([]:List Keyword).isEmpty then 0 else 1)<30))=true
 line:(apos.endLine == cpos.line)=true
 trees:backTo cpos (starEach [e,f] X.env)=[(false,eval e X.env),(false,eval f X.env)]
def IsD(H:Hp)(a:Addr):Prop:=(∃kvs,Rd H a (.dK kvs))\/∃kvs,Rd H a (.dT kvs)
theorem KQ{X:Cx}{pins:List (Addr × Obj)}{σ:St}{H:Hp}{s:Shared}{a:Addr}(I:cA X pins σ H s)(d:IsD H a) :
  s.TypeIs (.ref a) "dict" /\ (∀b,Value.ref a=.ref b->∃ob,s.heap.get? b=some ob/\ob.dict=none)/\(a == sysModules)=false:=by
 rcases d with ⟨kvs,e⟩ | ⟨kvs,e⟩
 ·obtain ⟨_,hd,vs,_,dd⟩:=vX I.hok e;refine ⟨dd.typeIs,λb q=>?_,hd⟩;cases q;obtain ⟨ob,_,_,h1,h2,_⟩:=dd;exact ⟨ob,h1,h2.2.1⟩
 ·obtain ⟨_,hd,xs,_,dd⟩:=vW I.hok e;refine ⟨dd.typeIs,λb q=>?_,hd⟩;cases q;obtain ⟨ob,_,_,h1,h2,_⟩:=dd;exact ⟨ob,h1,h2.2.1⟩
section
variable{X:Cx}{pins:List (Addr × Obj)}{σ:St}{H:Hp}{s:Shared}{a:Addr}{y d:V}{u r:Value}{o:Option V}{A:Around}{E:Value->Shared->Prop}
theorem VM{Q:Value->Shared->Prop}(hu:A.units+1<cLine)(I:cA X pins σ H s)(g:mG H a y o)(ry:dE y u)(rd:dE d r)(h:∀w' s',cA X pins σ H s'->dE (o.getD d) w'->Q w' s') :
  wpAny (model X.prog X.w) A (call (.builtin "dict.get") [.ref a,u,r]) Q E s:=by
 rcases g with ⟨kvs,k,e,ey,l⟩ | ⟨kvs,k,b,e,ey,eb,l⟩
 ·subst ey;obtain ⟨z,hd,vs,rel,dd⟩:=vX I.hok e;refine call_meetsIn PySem.F.slot_dict_get dd.typeIs PySem.F.entry_dict_get (PySem.F.args_dict_get_3 _ _ _) (meets_dict_get_default (eB X.prog X.w) a (zX ry) hd r) ⟨_,dd.mapOf,h _ _ (I.tok _) ?_⟩;rw [l];exact (rel.val k).getD rd
 ·subst ey;cases (show u=Value.ref b from ry);obtain ⟨z,hd,xs,rel,dd⟩:=vW I.hok e;refine call_meetsIn PySem.F.slot_dict_get dd.typeIs PySem.F.entry_dict_get (PySem.F.args_dict_get_3 _ _ _) (meetsH_dict_get_default (tupleKind (eB X.prog X.w)) a b hd r) ⟨tupleKind_room_in1 hu,k,xs,nE I.hok eb,dd,h _ _ (I.tok _) ?_⟩;rw [l];exact (rel.val k).getD rd
end
def IT(td ty tx:TE):TE:=λσ H Q=>td σ H λx H1=>∃a,x=.ref a/\IsD H1 a/\ty σ H1 λy H2=>tx σ H2 λz H3=>∃o,mG H3 a y o/\Q (o.getD z) H3
section
variable{X:Cx}{o e f:Expr}{apos cpos:Pos}{td ty tx:TE}
theorem KA(hu:X.A.units+1<cLine)(ho:PE X o td)(he:PE X e ty)(hf:PE X f tx)(m:M2 X o "get" apos e f cpos):PE X (.Call (.Attribute o "get" apos) [e,f] [] cpos) (IT td ty tx):=by
 intro pins s σ H Q I h;refine wpAny_Call_method m.base m.few m.line PySem.F.plainAttrs_dict PySem.F.slot_dict_get PySem.F.type_dict_get (thn (ho pins s σ H _ I h) λu s1 ⟨x,H1,I1,rx,a,ex,d,q1⟩=>?_);subst ex;obtain rfl:u=Value.ref a:=rx;obtain ⟨t1,t2,_⟩:=KQ I1 d;refine ⟨t1,t2,?_⟩;rw [m.trees];refine Calls.callWith_builtin rfl (Calls.evalArgs_plain (Calls.spliced_cons (thn (he pins s1 σ H1 _ I1 q1) λiv s2 ⟨y,H2,I2,ry,q2⟩ =>
  Calls.spliced_cons (thn (hf pins s2 σ H2 _ I2 q2) λfv s3 ⟨z,H3,I3,rz,ov,g,q3⟩=>Calls.spliced_nil ?_))))
 exact VM hu I3 g ry rz λw' s4 I4 rw'=>⟨_,H3,I4,rw',q3⟩
end
section
variable{X:Cx}{pins:List (Addr × Obj)}{σ:St}{H:Hp}{s:Shared}{a:Addr}{kvs:List (eG × V)}{A:Around}{E:Value->Shared->Prop}
end
section
variable{X:Cx}{pins:List (Addr × Obj)}{σ:St}{H:Hp}{s:Shared}{a:Addr}{y:V}{u:Value}{A:Around}{E:Value->Shared->Prop}
end
section
variable{κ:Type}[DecidableEq κ]
theorem IO{kvs:List (κ × V)}{k:κ}(h:eY kvs k=none):¬k∈kvs.map (·.1):=by
 intro m;obtain ⟨p,hp,e⟩:=aP.mp m;have q:(kvs.any λkv=>decide (kv.1=k))=true:=List.any_eq_true.mpr ⟨p,hp,eA e⟩;rw [iT,h] at q;exact absurd q (by simp)
theorem wP{kvs:List (κ × V)}{k:κ}{v:V}(h:eY kvs k=some v):k∈kvs.map (·.1):=by
 have q:(kvs.any λkv=>decide (kv.1=k))=true:=by
  rw [iT,h]
  all_goals rfl
 obtain ⟨p,hp,e⟩:=List.any_eq_true.mp q;exact aP.mpr ⟨p,hp,of_decide_eq_true e⟩
end
abbrev bits(i:Int):Nat:=Builtin.Int.intBits i
def MB(i j:Int):Prop:=0<j/\bits j<=9000
theorem sG{j:Int}{n:Nat}(h:bits j<=n)(hn:0<n):j.natAbs.log2<n:=by
 unfold bits Builtin.Int.intBits at h;by_cases hj:(j == 0)=true
 ·have:j=0:=by simpa using hj
  subst this;exact bJ (by decide +kernel:(0:Int).natAbs.log2<=0) hn
 ·rw [if_neg hj] at h;omega
section
variable{X:Cx}
theorem gE:oK X (binaryOp .FloorDiv) (rI MB λi j=>.int (i/j)):=ZA λi j _ _ _ _ _ hc q=>by
 refine floordiv_int (by have:=hc.1;omega) ?_ (.inl (PyProof.noPylong_of_log2 (sG hc.2 yd)));rw [Int.fdiv_eq_ediv_of_nonneg i (by have:=hc.1;omega)];exact q
theorem dC:oK X (binaryOp .Mult) (rI IntMulOk λi j=>.int (i*j)):=ZA λ_ _ _ _ _ _ _ hc q=>mul_int q hc
end
mutual
def cB(H:Hp):PyData->V->Prop
 | .none,v=>v=.non
 | .bool b,v=>v=.bl b
 | .int i,v=>v=.int i
 | .str x,v=>v=.str x
 | .list ds,v=>∃a xs,v=.ref a/\H a=some (.lst xs)/\bF H ds xs
 | .tuple ds,v=>∃a xs,v=.ref a/\H a=some (.tup xs)/\bF H ds xs
 | .dict kvs,v=>kvs=[]/\∃a,v=.ref a/\H a=some (.dK [])
def bF(H:Hp):List PyData->List V->Prop
 | [],vs=>vs=[]
 | d::ds,vs=>∃x xs,vs=x::xs/\cB H d x/\bF H ds xs
end
mutual
theorem cB.same{H H':Hp}(e:aQ H H'):∀{d:PyData}{v:V},cB H d v->cB H' d v
 | .none,_,h=>h
 | .bool _,_,h=>h
 | .int _,_,h=>h
 | .str _,_,h=>h
 | .list ds,_,h=>by
  unfold cB at h ⊢;obtain ⟨a,xs,rfl,h1,h2⟩:=h;exact ⟨a,xs,rfl,e _ _ h1,bF.same e h2⟩
 | .tuple ds,_,h=>by
  unfold cB at h ⊢;obtain ⟨a,xs,rfl,h1,h2⟩:=h;exact ⟨a,xs,rfl,e _ _ h1,bF.same e h2⟩
 | .dict kvs,_,h=>by
  unfold cB at h ⊢;obtain ⟨h0,a,rfl,h1⟩:=h;exact ⟨h0,a,rfl,e _ _ h1⟩
theorem bF.same{H H':Hp}(e:aQ H H'):∀{ds:List PyData}{vs:List V},bF H ds vs->bF H' ds vs
 | [],_,h=>h
 | d::ds,_,h=>by
  unfold bF at h ⊢;obtain ⟨x,xs,rfl,h1,h2⟩:=h;exact ⟨x,xs,rfl,cB.same e h1,bF.same e h2⟩
end
theorem cB.tup{H:Hp}{a:Addr}{xs:List V}{ds:List PyData}(h:H a=some (.tup xs))(r:bF H ds xs):cB H (.tuple ds) (.ref a):=by
 unfold cB;exact ⟨a,xs,rfl,h,r⟩
theorem cB.int{H:Hp}(i:Int):cB H (.int i) (.int i):=by unfold cB;rfl
theorem cB.str{H:Hp}(i:Str):cB H (.str i) (.str i):=by unfold cB;rfl
theorem bF.nil{H:Hp}:bF H [] []:=by unfold bF;rfl
theorem bF.cons{H:Hp}{d:PyData}{ds:List PyData}{x:V}{xs:List V}(h:cB H d x)(hs:bF H ds xs):bF H (d::ds) (x::xs):=by
 unfold bF;exact ⟨x,xs,rfl,h,hs⟩
section
variable{X:Cx}{pins:List (Addr × Obj)}{σ:St}{H:Hp}{s:Shared}
mutual
theorem cB.reads(I:cA X pins σ H s):∀{d:PyData}{v:V}{u:Value},cB H d v->dE v u->∃as,Reads s.heap u d as
 | .none,_,u,h,r=>by
  cases (show _=V.non from h);cases (show u=Value.none from r);exact ⟨_,.none⟩
 | .bool b,_,u,h,r=>by
  cases (show _=V.bl b from h);cases (show u=Value.bool b from r);exact ⟨_,.bool b⟩
 | .int b,_,u,h,r=>by
  cases (show _=V.int b from h);obtain ⟨t,q⟩:=(show ∃t,u=Value.int b t from r);cases q;exact ⟨_,.int b t⟩
 | .str b,_,u,h,r=>by
  cases (show _=V.str b from h);obtain ⟨t,q⟩:=(show ∃t,u=Value.str b t from r);cases q;exact ⟨_,.str b t⟩
 | .list ds,v,u,h,r=>by
  unfold cB at h;obtain ⟨a,xs,rfl,h1,h2⟩:=h;cases (show u=Value.ref a from r);obtain ⟨_,its,n,r',e⟩:=(show dY X.prog X.w H s.heap a (.lst xs) from I.hok a _ h1);obtain ⟨as,q⟩:=bF.reads I h2 r';exact ⟨_,.list e rfl rfl (by simpa using q)⟩
 | .tuple ds,v,u,h,r=>by
  unfold cB at h;obtain ⟨a,xs,rfl,h1,h2⟩:=h;cases (show u=Value.ref a from r);obtain ⟨_,its,r',o,e,hc,n,hd⟩:=(show dY X.prog X.w H s.heap a (.tup xs) from I.hok a _ h1);obtain ⟨as,q⟩:=bF.reads I h2 r';exact ⟨_,.tuple e hc hd (by simpa using q)⟩
 | .dict kvs,v,u,h,r=>by
  unfold cB at h;obtain ⟨rfl,a,rfl,h1⟩:=h;cases (show u=Value.ref a from r);obtain ⟨_,_,vs,kv,o,es,ep,e,hx,hd,_,hes,_⟩:=(show dY X.prog X.w H s.heap a (.dK []) from I.hok a _ h1);cases kv;have he:es.toList=[]:=by
   cases q:es.toList with
   | nil=>rfl
   | cons y ys=>rw [q] at hes;cases hes
  exact ⟨_,.dict e hx.1 hd (by rw [he];exact .nil) (by rw [he];exact .nil)⟩
theorem bF.reads(I:cA X pins σ H s):∀{ds:List PyData}{vs:List V}{us:List Value},bF H ds vs->dA vs us->∃as,ReadsAll s.heap us ds as
 | [],_,us,h,r=>by
  cases (show _=[] from h);cases r;exact ⟨_,.nil⟩
 | d::ds,_,us,h,r=>by
  unfold bF at h;obtain ⟨x,xs,rfl,h1,h2⟩:=h;cases r with
  | cons r1 r2 =>
   obtain ⟨as,q1⟩:=cB.reads I h1 r1;obtain ⟨bs,q2⟩:=bF.reads I h2 r2;exact ⟨_,.cons q1 q2⟩
end
end
section
variable{X:Cx}
theorem HG(hg:X.A.guards=some [])(hu:X.A.units+64<cLine):gW X (.builtin "repr") (λxs H Q=>∃x d,xs=[x]/\cB H d x/\d.showable=true/\d.hasDict=false/\d.depth<=60/\d.shown.length<=sizeLine/\Q (.str d.shown) H):=by
 intro pins s σ H xs us Q I r h;obtain ⟨x,d,rfl,hr,hs,hnd,hdp,hz,q⟩:=h;obtain ⟨u,rfl,ru⟩:=mO r;obtain ⟨as,rd⟩:=hr.reads I ru;cases rd with
 | none=>exact PySem.P.repr_of_none ⟨.str _,H,I.tok _,⟨_,rfl⟩,q⟩
 | bool b=>exact PySem.P.repr_of_bool ⟨.str _,H,I.tok _,⟨_,rfl⟩,q⟩
 | int i t=>exact PySem.P.repr_of_int (by simpa [PyData.showable] using hs) ⟨.str _,H,I.tok _,⟨_,rfl⟩,q⟩
 | str y t=>exact PySem.P.repr_of_str ⟨.str _,H,I.tok _,⟨_,rfl⟩,q⟩ hz
 | list a1 a2 a3 a4=>exact repr_of_reads' (.list a1 a2 a3 a4) hs (PyData.noDict_hsm hnd) hg Oo (λ_ _ e=>e) (λh' u tk hk=>⟨.str _,H,I.kept hk,⟨_,rfl⟩,q⟩) hz
 | tuple a1 a2 a3 a4=>exact repr_of_reads' (.tuple a1 a2 a3 a4) hs (PyData.noDict_hsm hnd) hg Oo (λ_ _ e=>e) (λh' u tk hk=>⟨.str _,H,I.kept hk,⟨_,rfl⟩,q⟩) hz
 | dict a1 a2 a3 a4 a5=>simp [PyData.hasDict] at hnd
end
def WD:PyData->String
 | .none => "NoneType"
 | .bool _ => "bool"
 | .int _ => "int"
 | .str _ => "str"
 | .list _ => "list"
 | .tuple _ => "tuple"
 | .dict _ => "dict"
theorem cB.ty{K:PySem.W.Frag}{H:Hp}{d:PyData}{v:V}(h:cB H d v):rR K H v (.type (WD d)):=by
 cases d with
 | none=>cases (show v=V.non from h);exact .non
 | bool b=>cases (show v=V.bl b from h);exact .bl b
 | int b=>cases (show v=V.int b from h);exact .int b
 | str b=>cases (show v=V.str b from h);exact .str b
 | list ds=>unfold cB at h;obtain ⟨a,xs,rfl,h1,h2⟩:=h;exact .lst h1
 | tuple ds=>unfold cB at h;obtain ⟨a,xs,rfl,h1,h2⟩:=h;exact .tup h1
 | dict ds=>unfold cB at h;obtain ⟨_,a,rfl,h1⟩:=h;exact .dK h1
def ZC(T:String)(d:PyData):Bool:=WD d == T || (T == "int" && WD d == "bool")
theorem UY : ∀ T ∈ ["int", "bool", "tuple", "str", "list", "dict"], ∀ S ∈ ["NoneType", "bool", "int", "str", "list", "tuple", "dict"],
      PySem.W.kitOne [] (.type S) (.type T)=some (S == T || (T == "int" && S == "bool")):=Kk
theorem OS(K:PySem.W.Frag)(S T:String):PySem.W.kitOne K (.type S) (.type T)=PySem.W.kitOne [] (.type S) (.type T):=rfl
theorem XY(K:PySem.W.Frag)(d:PyData)(T:String)(hT:T = "int" \/ T = "bool" \/ T = "tuple" \/ T = "str" \/ T = "list" \/ T = "dict"):PySem.W.kitOne K (.type (WD d)) (.type T)=some (ZC T d):=by
 rw [OS];refine UY T ?_ (WD d) ?_
 ·rcases hT with rfl | rfl | rfl | rfl | rfl | rfl <;> decide
 ·cases d <;> simp [WD]
section
variable{X:Cx}
theorem AS:gW X (.builtin "isinstance") (λxs H Q=>∃x d T,xs=[x,.ty T]/\cB H d x/\(T = "int" \/ T = "bool" \/ T = "tuple" \/ T = "str" \/ T = "list" \/ T = "dict")/\Q (.bl (ZC T d)) H):=by
 intro pins s σ H xs us Q I r h;obtain ⟨x,d,T,rfl,hr,hT,q⟩:=h;obtain ⟨u,w',rfl,r1,r2⟩:=QJ r;cases (show w'=Value.type T from r2);exact GR I r1 hr.ty (XY _ d T hT) λtk=>⟨.bl _,H,I.tok _,rfl,q⟩
end
structure gB(CX:HV)(P:Program)(w:World)(K:PySem.W.Frag)(mg:Str->Option Value)(base:Heap)(k:Nat)(x:Str)(ps:List Str)(sp:Sp):Prop where
 ex:∃(f:Addr) (fd:FuncData),eJ P w K mg base CX k f fd ps sp/\mg x=some (.ref f)/\PySem.W.keepIn K (.ref f)=true/\wJ K fd ps []
section
variable{X:Cx}{k:Nat}{ps:List Str}{sp:Sp}{x:Str}{p pos:Pos}{e:Expr}{es:List Expr}{t:TA}
theorem XS(F:gB dR X.prog X.w X.K X.mg X.base k x ps sp)(hr:jL k X.A)(ha:PA X (e::es) t)(hg:Gl X x:=by rfl)
  (hdb:(x == ("__debug__" : Str))=false:=by decide) (he:starEach (e::es) X.env=(false,eval e X.env)::starEach es X.env:=by rfl) (hpl:(backTo pos (starEach es X.env)).any (·.1)=false:=by rfl) :
  PE X (.Call (.Name x p) (e::es) [] pos) (IU sp [] E0 t):=by
 obtain ⟨f,fd,h1,h2,h3,h4⟩:=F.ex;exact OF h1 hr hg h2 h3 h4 .nil XU ha hdb he hpl
end
section
variable{K:PySem.W.Frag}{H:Hp}{p:Addr}{xs:List V}{i:Int}{v:V}{Q:VK}
theorem kC(h:H p=some (.lst xs))(e:yF xs i=some v)(q:Q v H):XH K (.ref p) (.int i) H Q:=.inl ⟨p,xs,i,v,rfl,rfl,fE.of h,e,q⟩
theorem fZ(h:H p=some (.tup xs))(e:yF xs i=some v)(q:Q v H):XH K (.ref p) (.int i) H Q:=.inr (.inl ⟨p,xs,i,v,rfl,rfl,gK.of h,e,q⟩)
theorem stL{u:V}{Q:Hp->Prop}{j:Nat}(h:H p=some (.lst xs))(e:vS xs.length i=some j)(q:Q (upd H p (.lst (xs.set j u)))):JS (.ref p) (.int i) u H Q:=⟨p,xs,i,j,rfl,rfl,h,e,q⟩
end
def fV(p:Addr)(H:Hp):Hp:=λb=>if b=p then none else H b
theorem fV.at{p b:Addr}{H:Hp}(h:b≠p):fV p H b=H b:=by unfold fV;rw [if_neg h]
theorem fV.self{p:Addr}{H:Hp}:fV p H p=none:=by unfold fV;rw [if_pos rfl]
theorem fV.same{p:Addr}{H:Hp}:aQ (fV p H) H:=λb o h=>by
 unfold fV at h;by_cases e:b=p
 ·rw [if_pos e] at h;cases h
 ·rw [if_neg e] at h;exact h
theorem fV.ne{p b:Addr}{H:Hp}{o:HO}(h:fV p H b=some o):b≠p:=λe=>by
 subst e;rw [fV.self] at h;cases h
theorem fV.of{p b:Addr}{H:Hp}{o:HO}(n:b≠p)(h:H b=some o):fV p H b=some o:=by rw [fV.at n];exact h
theorem fV.upd_self{p:Addr}{H:Hp}{o:HO}:fV p (upd H p o)=fV p H:=by
 funext b
 by_cases e:b=p
 ·subst e;rw [fV.self,fV.self]
 ·rw [fV.at e,fV.at e,L2.cS e]
abbrev aN(p:Addr)(H H':Hp):Prop:=aQ (fV p H) (fV p H')
theorem aQ.but{p:Addr}{H H':Hp}(h:aQ H H'):aN p H H':=λb o e=>by
 have n:=fV.ne e;exact fV.of n (h _ _ (fV.same _ _ e))
theorem aQ.upd{H:Hp}{q:Addr}{o:HO}(h:H q=none):aQ H (upd H q o):=λb u e=>by
 rw [L2.cS (cL e h)];exact e
theorem aN.self{p:Addr}{H:Hp}{o:HO}:aN p H (upd H p o):=by unfold aN;rw [fV.upd_self];exact aQ.refl _
theorem aN.free{p q:Addr}{H H':Hp}(e:aN p H H')(hp:∃o,H' p=some o)(h:H' q=none):H q=none:=by
 cases k:H q with
 | none=>rfl
 | some o =>
  by_cases n:q=p
  ·subst n;obtain ⟨o',h'⟩:=hp;rw [h'] at h;cases h
  ·have:=fV.same _ _ (e q o (fV.of n k));rw [this] at h;cases h
section
variable{K:PySem.W.Frag}{H:Hp}{p:Addr}{xs:List V}{i:Int}{v:V}{Q:VK}
theorem JA{u:V}{Q:Hp->Prop}{j:Nat}(h:H p=some (.lst xs))(e:vS xs.length i=some j)(k:∀H',H' p=some (.lst (xs.set j u))->aN p H H'->Q H'):JS (.ref p) (.int i) u H Q :=
 stL h e (k _ bK aN.self)
theorem alT{Q:V->Hp->Prop}(hz:xs.length<=sizeLine)(k:∀q H',H q=none->H' q=some (.tup xs)->aQ H H'->Q (.ref q) H'):xs.length<=sizeLine/\∀p,H p=none->Q (.ref p) (upd H p (.tup xs)) :=
 ⟨hz,λq hq=>k q _ hq bK (aQ.upd hq)⟩
theorem alL{Q:V->Hp->Prop}(hz:xs.length<=sizeLine)(k:∀q H',H q=none->H' q=some (.lst xs)->aQ H H'->Q (.ref q) H'):xs.length<=sizeLine/\∀p,H p=none->Q (.ref p) (upd H p (.lst xs)) :=
 ⟨hz,λq hq=>k q _ hq bK (aQ.upd hq)⟩
theorem aN.at{p b:Addr}{H H':Hp}{o:HO}(s:aN p H H')(n:b≠p)(h:H b=some o):H' b=some o:=fV.same _ _ (s _ _ (fV.of n h))
end
theorem pD{n:Nat}(h:n<=64):n<=sizeLine:=aZ h yd
theorem tZ{c A B:Prop}[Decidable c](h1:c->A)(h2:¬c->B):if decide c=true then A else B :=
 YA (λh=>h1 (of_decide_eq_true h)) (λh=>h2 (λk=>h (eA k)))
theorem QZ{c A B:Prop}[Decidable c](h1:¬c->A)(h2:c->B):if (!decide c)=true then A else B :=
 YA (λh=>h1 (λk=>by rw [eA k] at h;exact absurd h yd)) (λh=>h2 (Decidable.of_not_not λk=>h (by rw [dF k];rfl)))
def sA(c:TT):TT:=λσ H Q=>∃Q':Bool->Hp->Prop,c σ H Q'/\∀b H1,Q' b H1->Q b H1
theorem PT.mono{X:Cx}{e:Expr}{c:TT}(h:PT X e c):PT X e (sA c):=λpins s σ H Q I ⟨Q',h1,h2⟩ =>
 thn (h pins s σ H Q' I h1) λb s' ⟨H',I',q⟩=>⟨H',I',h2 _ _ q⟩
theorem GC{X:Cx}{pos:Pos}{c:Expr}{body:List Stmt}{tc:TT}{tb:TS}(hp:PassesOwn (model X.prog X.w) X.A X.env X.xe)(hc:PT X c tc)(hb:CO X body tb):PS X (.While c body [] pos) (wT (sA tc) tb) :=
 JV hp hc.mono hb
@[irreducible] def BS(K:PySem.W.Frag):List V->Hp->VK->Prop:=λxs H Q=>∃x n,xs=[x]/\YR K x H n/\Q (.int n) H
@[irreducible] def NQ:List V->Hp->VK->Prop:=λxs H Q=>∃i,xs=[.int i]/\Q (.int (i.natAbs:Int)) H
@[irreducible] def NK:List V->Hp->VK->Prop:=λxs H Q=>∃x d T,xs=[x,.ty T]/\cB H d x/\(T = "int" \/ T = "bool" \/ T = "tuple" \/ T = "str" \/ T = "list" \/ T = "dict")/\Q (.bl (ZC T d)) H
@[irreducible] def vK:List V->Hp->VK->Prop:=λxs H Q=>∃x d,xs=[x]/\cB H d x/\d.showable=true/\d.hasDict=false/\d.depth<=60/\d.shown.length<=sizeLine/\Q (.str d.shown) H
section
variable{X:Cx}{K:PySem.W.Frag}{H:Hp}{p:Addr}{xs:List V}{Q:VK}
theorem gI:gW X (.builtin "len") (BS X.K):=by unfold BS;exact LL
theorem CG:gW X (.builtin "abs") NQ:=by
 unfold NQ;exact λpins s σ H xs us Q I r ⟨i,e,q⟩=>LM pins s σ H xs us Q I r ⟨i,e,by
 have:(if i<0 then -i else i)=(i.natAbs:Int):=by split <;> omega
 rw [this];exact q⟩
theorem LH:gW X (.builtin "isinstance") NK:=by unfold NK;exact AS
theorem nR(hg:X.A.guards=some [])(hu:X.A.units+64<cLine):gW X (.builtin "repr") vK:=by unfold vK;exact HG hg hu
theorem TK(h:H p=some (.lst xs))(q:Q (.int xs.length) H):BS K [V.ref p] H Q:=by unfold BS;exact ⟨_,_,rfl,.inl ⟨xs,fE.of h,rfl⟩,q⟩
theorem MD(h:H p=some (.tup xs))(q:Q (.int xs.length) H):BS K [V.ref p] H Q:=by unfold BS;exact ⟨_,_,rfl,.inr ⟨xs,gK.of h,rfl⟩,q⟩
theorem ZY{i:Int}(q:Q (.int (i.natAbs:Int)) H):NQ [V.int i] H Q:=by unfold NQ;exact ⟨i,rfl,q⟩
theorem rrI{x:V}{d:PyData}(r:cB H d x)(h1:d.showable=true)(h2:d.hasDict=false)(h3:d.depth<=60)(h4:d.shown.length<=sizeLine)(q:Q (.str d.shown) H):vK [x] H Q:=by unfold vK;exact ⟨x,d,rfl,r,h1,h2,h3,h4,q⟩
theorem riI{x:V}{d:PyData}{T:String}(r:cB H d x)(q:Q (.bl (ZC T d)) H)(hT:(T = "int" \/ T = "bool" \/ T = "tuple" \/ T = "str" \/ T = "list" \/ T = "dict"):=by decide):NK [x,.ty T] H Q:=by unfold NK;exact ⟨x,d,T,rfl,r,hT,q⟩
end
theorem sO{c:TT}{tb:TS}{D:rX}{σ:St}{H:Hp}(W:Nat->St->Hp->Prop)(R:St->Hp->Prop)(m:Nat)(h0:W m σ H)
  (hs:∀m σ H,W m σ H->c σ H λb H1=>if b=true then tb { D with nx:=λσ' H'=>∃m',m' < m/\W m' σ' H',ct:=λσ' H'=>∃m',m' < m/\W m' σ' H',bk:=D.nx } σ H1 else R σ H1)
  (hd:∀σ H,R σ H->D.nx σ H):wT (sA c) tb D σ H :=
 ⟨W,⟨m,h0⟩,λm σ H hw=>⟨_,hs m σ H hw,λb H1 q=>by
  by_cases hb:b=true
  ·rw [if_pos hb] at q ⊢;exact ⟨_,λ_ _ h=>h,q⟩
  ·rw [if_neg hb] at q ⊢;exact hd _ _ q⟩⟩
def WX(t:TS):TS:=λD σ H=>∃R:St->Hp->Prop,(∀σ' H',R σ' H'->D.nx σ' H')/\t { D with nx:=R } σ H
theorem TY{X:Cx}{st:Stmt}{t:TS}(h:PS X st t):PS X st (WX t):=λpins s σ H D I ⟨R,hR,q⟩ =>
 thn (h pins s σ H _ I q) λf s' z=>by
  cases f with
  | next=>obtain ⟨σ',H',I',r⟩:=z;exact ⟨σ',H',I',hR _ _ r⟩
  | brk=>exact z
  | cont=>exact z
  | ret u=>exact z
section
variable{es:List Expr}{env:Env}
theorem gD{a b c d}:starEach (.BinOp a b c d::es) env=(false,eval (.BinOp a b c d) env)::starEach es env:=by rw [starEach] <;> (intros;contradiction)
theorem fA{a b c}:starEach (.UnaryOp a b c::es) env=(false,eval (.UnaryOp a b c) env)::starEach es env:=by rw [starEach] <;> (intros;contradiction)
theorem eL{a b c d}:starEach (.ListComp a b c d::es) env=(false,eval (.ListComp a b c d) env)::starEach es env:=by rw [starEach] <;> (intros;contradiction)
theorem fB{a b c d}:starEach (.Compare a b c d::es) env=(false,eval (.Compare a b c d) env)::starEach es env:=by rw [starEach] <;> (intros;contradiction)
theorem gZ{a b c d}:starEach (.Call a b c d::es) env=(false,eval (.Call a b c d) env)::starEach es env:=by rw [starEach] <;> (intros;contradiction)
theorem eM{a b c}:starEach (.Constant a b c::es) env=(false,eval (.Constant a b c) env)::starEach es env:=by rw [starEach] <;> (intros;contradiction)
theorem dN{a b c}:starEach (.Subscript a b c::es) env=(false,eval (.Subscript a b c) env)::starEach es env:=by rw [starEach] <;> (intros;contradiction)
theorem gY{a b}:starEach (.Name a b::es) env=(false,eval (.Name a b) env)::starEach es env:=by rw [starEach] <;> (intros;contradiction)
theorem iI{a b}:starEach (.List a b::es) env=(false,eval (.List a b) env)::starEach es env:=by rw [starEach] <;> (intros;contradiction)
theorem gC{a b c}:starEach (.Tuple a b c::es) env=(false,eval (.Tuple a b c) env)::starEach es env:=by rw [starEach] <;> (intros;contradiction)
end
section
variable{X:Cx}{k:Nat}{ps:List Str}{sp:Sp}{x:Str}{p pos:Pos}{e:Expr}{es:List Expr}{te:TE}{t:TA}{id T:String}{r:List V->Hp->VK->Prop}
theorem xZ{env:Env}:(backTo pos (starEach [] env)).any (·.1)=false:=rfl
theorem sY{env:Env}(hs:starEach (e::es) env=(false,eval e env)::starEach es env)(h:(backTo pos (starEach es env)).any (·.1)=false):(backTo pos (starEach (e::es) env)).any (·.1)=false:=by
 rw [hs];show (false || (backTo pos (starEach es env)).any (·.1))=false;rw [h];rfl
end
structure gA(X:Cx)(e:Expr)(t:TE):Prop where p:PE X e t
structure HY(X:Cx)(e:Expr)(t:TT):Prop where p:PT X e t
structure VX(X:Cx)(e:Expr)(t:TT):Prop where p:PW X e t
structure HR(X:Cx)(es:List Expr)(t:TA):Prop where p:PA X es t
structure FD(X:Cx)(st:Stmt)(t:TS):Prop where p:PS X st t
structure uX(X:Cx)(st:List Stmt)(t:TS):Prop where p:CO X st t
structure QB(X:Cx)(e:Expr)(t:TG):Prop where p:PG X e t
structure QC(X:Cx)(es:List Expr)(t:LV):Prop where p:YN X es t
structure CP(X:Cx)(tg iter:Expr)(t:TI):Prop where p:PI X tg iter t
structure ZJ(X:Cx)(e:Option Expr)(t:TO):Prop where p:PO X e t
@[irreducible] def DR(xs:List V)(H:Hp)(Q:VK):Prop:=xs.length<=sizeLine/\∀p,H p=none->Q (.ref p) (upd H p (.tup xs))
@[irreducible] def DS(xs:List V)(H:Hp)(Q:VK):Prop:=xs.length<=sizeLine/\∀p,H p=none->Q (.ref p) (upd H p (.lst xs))
theorem qH{xs:List V}{H:Hp}{Q:VK}(hz:xs.length<=64)(k:∀q H',H q=none->H' q=some (.tup xs)->aQ H H'->Q (.ref q) H'):DR xs H Q:=by unfold DR;exact alT (pD hz) k
theorem sT{xs:List V}{H:Hp}{Q:VK}(hz:xs.length<=64)(k:∀q H',H q=none->H' q=some (.lst xs)->aQ H H'->Q (.ref q) H'):DS xs H Q:=by unfold DS;exact alL (pD hz) k
def tTu(t:TA):TE:=λσ H Q=>t σ H λxs H1=>DR xs H1 Q
def tLs(t:TA):TE:=λσ H Q=>t σ H λxs H1=>DS xs H1 Q
section
variable{X:Cx}{a b c e o tg:Expr}{es rest:List Expr}{ta tb tc te to:TE}{tA tB':TT}{t:TA}{pos p p2:Pos}{st:Stmt}{sts body orelse:List Stmt}{ts us:TS}{x:Str}{r r':R2}{id T:String}{rl:List V->Hp->VK->Prop}{k i j:Nat}{ps:List Str}{sp:Sp}{n:Nat}
theorem aG(i:Nat){x:Str}{pos:Pos}(hN:X.N[i]?=some x:=by rfl)(hv:ZH X.env.scope x:=by first | exact Or.inl rfl | exact Or.inr (Or.inl rfl) | exact Or.inr (Or.inr rfl))(hd:(x == ("__debug__" : Str))=false:=by decide)
  (hcd:(x == ("__classdict__" : Str))=false:=by decide):gA X (.Name x pos) (SC i):=⟨pv i hN hv hd hcd⟩
theorem aD{i j pos}:gA X (.Constant (.int i) j pos) (tC (.int i)):=⟨pe_int⟩
theorem rY{b j pos}:gA X (.Constant (.bool b) j pos) (tC (.bl b)):=⟨pe_bl⟩
theorem jD{x j pos}:gA X (.Constant (.str x) j pos) (tC (.str x)):=⟨pe_str⟩
theorem jG{v:V}{u:Value}(hg:Gl X x)(hm:X.mg x=some u)(r:dE v u)(hd:(x == ("__debug__" : Str))=false:=by decide):gA X (.Name x pos) (tC v):=⟨OB hg hm r hd⟩
theorem CY{v:V}{u:Value}(hg:Gl X x)(hm:X.mg x=none)(hv:bootBuiltins x=some u)(r:dE v u)(hn:x ≠ "__name__" := by decide)(hd:(x == ("__debug__" : Str))=false:=by decide):gA X (.Name x pos) (tC v):=⟨OG hg hm hv r hn hd⟩
theorem bT{op:Operator}(ho:oK X (binaryOp op) r)(ha:gA X a ta)(hb:gA X b tb):gA X (.BinOp a op b pos) (MS r ta tb):=⟨XQ ho ha.p hb.p⟩
theorem IK{op:UnaryOp}{r:V->Hp->VK->Prop}(ho:ZI X (unaryOp op) r)(ha:gA X a ta):gA X (.UnaryOp op a pos) (tUn r ta):=⟨XN ho ha.p⟩
theorem lP{op:CmpOp}(ho:oK X (compareOp op) r)(ha:gA X a ta)(hb:gA X b tb)(hm:behindInMarks op b=false):gA X (.Compare a [op] [b] pos) (MS r ta tb):=⟨OE ho ha.p hb.p hm⟩
theorem fW{op:CmpOp}(ho:oK X (compareOp op) r)(ha:gA X a ta)(hb:gA X b tb)(hm:behindInMarks op b=false):HY X (.Compare a [op] [b] pos) (QK (MS r ta tb)):=⟨NT ho ha.p hb.p hm⟩
theorem wK(h:gA X e te)(he:∀whole,isTrue e X.env whole=(do let v <-whole;standAt e.pos;holding [v] (truthy v)):=by intro _;rfl):HY X e (tB te):=⟨TN h.p he⟩
theorem CS(ha:HY X a tA):VX X (.BoolOp .And [a] pos) tA:=⟨NR ha.p⟩
theorem IC(ha:HY X a tA):VX X (.BoolOp .Or [a] pos) tA:=⟨TL ha.p⟩
theorem IE(ha:HY X a tA)(hb:VX X (.BoolOp .And (b::rest) pos) tB'):VX X (.BoolOp .And (a::b::rest) pos) (WY tA tB'):=⟨TM ha.p hb.p⟩
theorem ID(ha:HY X a tA)(hb:VX X (.BoolOp .Or (b::rest) pos) tB'):VX X (.BoolOp .Or (a::b::rest) pos) (tOr tA tB'):=⟨XL ha.p hb.p⟩
theorem MK(h:VX X e tA):HY X e tA:=⟨h.p.pt⟩
theorem IF(ha:HY X a tA):HY X (.UnaryOp .Not a pos) (WS tA):=⟨TR ha.p⟩
theorem IL{op}(h:gA X a ta):gA X (.BoolOp op [a] pos) ta:=⟨UG h.p⟩
theorem RX(ha:gA X a ta)(hb:gA X (.BoolOp .And (b::rest) pos) tb):gA X (.BoolOp .And (a::b::rest) pos) (QS ta tb):=⟨UJ ha.p hb.p⟩
theorem WN(ha:gA X a ta)(hb:gA X (.BoolOp .Or (b::rest) pos) tb):gA X (.BoolOp .Or (a::b::rest) pos) (WR ta tb):=⟨XO ha.p hb.p⟩
theorem IM(ha:gA X a ta):gA X (.UnaryOp .Not a pos) (QM ta):=⟨UH ha.p⟩
theorem aE:HR X [] WT:=⟨pa_nil⟩
theorem aJ(ha:gA X e te)(hr:HR X es t)(hs:starEach (e::es) X.env=(false,eval e X.env)::starEach es X.env:=by first | exact gY | exact eM | exact se_BoolOp | exact gD | exact fA | exact se_IfExp | exact se_Dict | exact eL | exact fB | exact gZ | exact se_Attribute | exact dN | exact iI | exact gC | exact se_JoinedStr | exact se_GeneratorExp):HR X (e::es) (QQ te t):=⟨OH ha.p hr.p hs⟩
theorem dZ{x1}(h:HR X es t):gA X (.Tuple es x1 pos) (tTu t):=⟨by unfold tTu DR;exact UF h.p⟩
theorem eR(h:HR X es t):gA X (.List es pos) (tLs t):=⟨by unfold tLs DS;exact UI h.p⟩
theorem oR:gA X (.Dict [] [] pos) IS:=⟨pe_dnewT⟩
theorem aW(hr:LX X r)(ha:gA X a ta)(hb:gA X b tb)(hs:FC b):gA X (.Subscript a b pos) (MS r ta tb):=⟨XR hr ha.p hb.p hs⟩
theorem iS:ZJ X none DG:=⟨po_none⟩
theorem iR(h:gA X e te):ZJ X (some e) (QL te):=⟨NX h.p⟩
theorem gP{lo hi:Option Expr}{tl th:TO}{r:V->Option Int->Option Int->Hp->VK->Prop}(hr:WJ X r)(he:gA X e te)(hl:ZJ X lo tl)(hu:ZJ X hi th):gA X (.Subscript e (.Slice lo hi none p2) pos) (tSl r te tl th):=⟨JZ hr he.p hl.p hu.p⟩
theorem bQ(F:gB dR X.prog X.w X.K X.mg X.base k x ps sp)(hr:jL k X.A)(ha:HR X (e::es) t)(hg:Gl X x:=by rfl)
  (hdb:(x == ("__debug__" : Str))=false:=by decide) (he:starEach (e::es) X.env=(false,eval e X.env)::starEach es X.env:=by first | exact gY | exact eM | exact se_BoolOp | exact gD | exact fA | exact se_IfExp | exact se_Dict | exact eL | exact fB | exact gZ | exact se_Attribute | exact dN | exact iI | exact gC | exact se_JoinedStr | exact se_GeneratorExp)
  (hpl:(backTo pos (starEach es X.env)).any (·.1)=false:=by repeat (first | exact xZ | refine sY (by first | exact gY | exact eM | exact se_BoolOp | exact gD | exact fA | exact se_IfExp | exact se_Dict | exact eL | exact fB | exact gZ | exact se_Attribute | exact dN | exact iI | exact gC | exact se_JoinedStr | exact se_GeneratorExp) ?_)) :
  gA X (.Call (.Name x p) (e::es) [] pos) (IU sp [] E0 t):=⟨XS F hr ha.p hg hdb he hpl⟩
theorem eU(hc:gW X (.builtin id) rl)(hg:Gl X x)(hm:X.mg x=none)(hv:bootBuiltins x=some (.builtin id))(ha:HR X (e::es) t)(hn:x ≠ "__name__" := by decide)(hdb:(x == ("__debug__" : Str))=false:=by decide)
  (he:starEach (e::es) X.env=(false,eval e X.env)::starEach es X.env:=by first | exact gY | exact eM | exact se_BoolOp | exact gD | exact fA | exact se_IfExp | exact se_Dict | exact eL | exact fB | exact gZ | exact se_Attribute | exact dN | exact iI | exact gC | exact se_JoinedStr | exact se_GeneratorExp) (hpl:(backTo pos (starEach es X.env)).any (·.1)=false:=by repeat (first | exact xZ | refine sY (by first | exact gY | exact eM | exact se_BoolOp | exact gD | exact fA | exact se_IfExp | exact se_Dict | exact eL | exact fB | exact gZ | exact se_Attribute | exact dN | exact iI | exact gC | exact se_JoinedStr | exact se_GeneratorExp) ?_)):gA X (.Call (.Name x p) (e::es) [] pos) (YU rl t) :=
 ⟨KB hc hg hm hv ha.p hn hdb he hpl⟩
theorem jF(hc:gW X (.type T) rl)(hg:Gl X x)(hm:X.mg x=none)(hv:bootBuiltins x=some (.type T))(ha:HR X (e::es) t)(hn:x ≠ "__name__" := by decide)(hdb:(x == ("__debug__" : Str))=false:=by decide)
  (he:starEach (e::es) X.env=(false,eval e X.env)::starEach es X.env:=by first | exact gY | exact eM | exact se_BoolOp | exact gD | exact fA | exact se_IfExp | exact se_Dict | exact eL | exact fB | exact gZ | exact se_Attribute | exact dN | exact iI | exact gC | exact se_JoinedStr | exact se_GeneratorExp) (hpl:(backTo pos (starEach es X.env)).any (·.1)=false:=by repeat (first | exact xZ | refine sY (by first | exact gY | exact eM | exact se_BoolOp | exact gD | exact fA | exact se_IfExp | exact se_Dict | exact eL | exact fB | exact gZ | exact se_Attribute | exact dN | exact iI | exact gC | exact se_JoinedStr | exact se_GeneratorExp) ?_)):gA X (.Call (.Name x p) (e::es) [] pos) (YU rl t) :=
 ⟨GG hc hg hm hv ha.p hn hdb he hpl⟩
theorem tE{name:Str}{apos cpos:Pos}{r:V->List V->Hp->VK->Prop}(pa:PlainAttrs T)(slot:Slot T name id)(hty:typeOf (.builtin id)=pure (.type "method_descriptor"))(hm:YQ X id r)(ho:gA X o to)(ha:HR X (e::es) t)
  (hbase:attributeBase o name X.env (eval o X.env)=eval o X.env:=by rfl)
  (hfew:((backTo cpos (starEach (e::es) X.env)).all (λx=>!x.1)&&(backToKw cpos (keywordEach [] X.env)).all (λx=>x.1.isSome)
   && decide ((e::es).length+([]:List Keyword).length+(if ([]:List Keyword).isEmpty then 0 else 1)<30))=true:=by rfl)
  (hline:(apos.endLine == cpos.line)=true:=by rfl) (hs:starEach (e::es) X.env=(false,eval e X.env)::starEach es X.env:=by first | exact gY | exact eM | exact se_BoolOp | exact gD | exact fA | exact se_IfExp | exact se_Dict | exact eL | exact fB | exact gZ | exact se_Attribute | exact dN | exact iI | exact gC | exact se_JoinedStr | exact se_GeneratorExp) (hplain:(backTo cpos (starEach es X.env)).any (·.1)=false:=by repeat (first | exact xZ | refine sY (by first | exact gY | exact eM | exact se_BoolOp | exact gD | exact fA | exact se_IfExp | exact se_Dict | exact eL | exact fB | exact gZ | exact se_Attribute | exact dN | exact iI | exact gC | exact se_JoinedStr | exact se_GeneratorExp) ?_)) :
  gA X (.Call (.Attribute o name apos) (e::es) [] cpos) (tBM X.K T r to t):=⟨XT pa slot hty hm ho.p ha.p hbase hfew hline hs hplain⟩
theorem gX:uX X [] QN:=⟨pss_nil⟩
theorem aL(h1:FD X st ts)(h2:uX X sts us):uX X (st::sts) (WO ts us):=⟨JU h1.p h2.p⟩
theorem bA(h1:FD X st ts):uX X [st] ts:=⟨NU h1.p⟩
theorem lL(he:gA X e te)(hs:swapsWith e none pos.line X.env=pure false:=by rfl):FD X (.Expr e pos) (QO te):=⟨NV he.p hs⟩
theorem cH(he:gA X e te):FD X (.Return (some e) pos) (WP te):=⟨TV he.p⟩
theorem mI{c:Expr}{a b:List Stmt}(hc:HY X c tA)(ha:uX X a ts)(hb:uX X b us):FD X (.If c a b pos) (WU tA ts us):=⟨XM hc.p ha.p hb.p⟩
theorem wL(h:FD X st ts):FD X st (WX ts):=⟨TY h.p⟩
theorem cW{i:Nat}{x:Str}(hN:X.N.Nodup)(hi:X.N[i]?=some x)(hx:WK X.env.scope x)(hf:X.fn x=true\/X.env.scope.names.lookup x=some .local:=by first | exact .inl rfl | exact .inr rfl | assumption):QB X (.Name x pos) (pR i):=⟨OA hN hi hx hf⟩
theorem lN:QC X [] VH:=⟨pgs_nil⟩
theorem eW{t:TG}{u:LV}(h1:QB X e t)(h2:QC X es u)
  (hs:(assignEach (e::es) X.env).map (·.2)=assign e X.env::(assignEach es X.env).map (·.2):=by rfl):QC X (e::es) (KU t u):=⟨JY h1.p h2.p hs⟩
theorem oB{k:Nat}{t:LV}{n:Nat}(hc:X.calm=true)(h:QC X es t)
  (hn:(assignEach es X.env).length=n:=by rfl) (hst:(assignEach es X.env).findIdx? (·.1)=none:=by rfl):QB X (.Tuple es k pos) (VG X.K n t):=⟨UC hc h.p hn hst⟩
theorem kI{i:Expr}{ti:TE}{t:QA}(ho:gA X o to)(hi:gA X i ti)(hs:VY X t)
  (ha:∀v,assign (.Subscript o i pos) X.env v=(do
   let ov <-holding [v] (eval o X.env)
   let iv <-holding [v,ov] (eval i X.env)
   standAt pos
   holding [v,ov,iv] (setItem ov iv v)
   release [v,ov,iv] []):=by intro _;rfl):QB X (.Subscript o i pos) (YE to ti t):=⟨UD ho.p hi.p hs ha⟩
theorem kH{g:TG}(he:gA X e te)(hg:QB X tg g)(hs:swapsWithSole [tg] e pos.line X.env=pure false:=by rfl)(hw:swappedStores [tg] e X.env=pure none:=by rfl)(h1:(assignEach [tg] X.env).map (·.2)=[assign tg X.env]:=by rfl):FD X (.Assign [tg] e pos) (FQ te g):=⟨TZ he.p hg.p hs hw h1⟩
theorem bL{i:Nat}{pos':Pos}(hN:X.N.Nodup)(hi:X.N[i]?=some x)(hx:WK X.env.scope x)(he:gA X e te)(hs:swapsWith e (some (.Name x pos')) pos.line X.env=pure false:=by rfl)(hf:X.fn x=true\/X.env.scope.names.lookup x=some .local:=by first | exact .inl rfl | exact .inr rfl | assumption) :
  FD X (.Assign [.Name x pos'] e pos) (FQ te (pR i)):=⟨TU hN hi hx he.p hs hf⟩
theorem IG{i j:Nat}{x y:Str}{ta:TA}{px py pt:Pos}{kt k2 pt2}(hc:X.calm=true)(hN:X.N.Nodup)(hi:X.N[i]?=some x)(hj:X.N[j]?=some y)(hij:i≠j)
  (hx:X.env.scope.names.lookup x=some .local) (hy:X.env.scope.names.lookup y=some .local) (ha:HR X [a,b] ta)
  (hw:swappedStores [.Tuple [.Name x px,.Name y py] kt pt] (.Tuple [a,b] k2 pt2) X.env=pure (some [x,y]))
  (hs:swapsWithSole [.Tuple [.Name x px,.Name y py] kt pt] (.Tuple [a,b] k2 pt2) pos.line X.env=pure false:=by rfl) :
  FD X (.Assign [.Tuple [.Name x px,.Name y py] kt pt] (.Tuple [a,b] k2 pt2) pos) (WQ i j ta):=⟨TW hc hN hi hj hij hx hy ha.p hw hs⟩
theorem oN{c:Expr}{tc:TT}{tb:TS}(hp:PassesOwn (model X.prog X.w) X.A X.env X.xe)(hc:HY X c tc)(hb:uX X body tb):FD X (.While c body [] pos) (wT (sA tc) tb):=⟨GC hp hc.p hb.p⟩
theorem fF{l:Expr}{tl:TE}(hl:gA X l tl):CP X tg l (RC X.K tl):=⟨NZ hl.p⟩
theorem lM{l:Expr}{tl:TE}(hl:gA X l tl):CP X tg l (YC X.K tl):=⟨UB hl.p⟩
theorem dX{a:Expr}{ta:TA}{p pos:Pos}(hg:Gl X "range")(hm:X.mg "range" = none)(ha:HR X [a] ta)(hs:starEach [a] X.env=[(false,eval a X.env)]:=by first | exact gY | exact eM | exact se_BoolOp | exact gD | exact fA | exact se_IfExp | exact se_Dict | exact eL | exact fB | exact gZ | exact se_Attribute | exact dN | exact iI | exact gC | exact se_JoinedStr | exact se_GeneratorExp):CP X tg (.Call (.Name "range" p) [a] [] pos) (RB ta):=⟨GF hg hm ha.p hs⟩
theorem FI{a b:Expr}{ta:TA}{p pos:Pos}(hg:Gl X "range")(hm:X.mg "range" = none)(ha:HR X [a,b] ta)(hs:starEach [a,b] X.env=[(false,eval a X.env),(false,eval b X.env)]:=by rfl)(hs2:starEach [b] X.env=[(false,eval b X.env)]:=by first | exact gY | exact eM | exact se_BoolOp | exact gD | exact fA | exact se_IfExp | exact se_Dict | exact eL | exact fB | exact gZ | exact se_Attribute | exact dN | exact iI | exact gC | exact se_JoinedStr | exact se_GeneratorExp) :
  CP X tg (.Call (.Name "range" p) [a,b] [] pos) (RA ta):=⟨GE hg hm ha.p hs hs2⟩
theorem eP{iter:Expr}{wi:TI}{g:TG}{tb:TS}{pos:Pos}(hp:PassesOwn (model X.prog X.w) X.A X.env X.xe)(hc:X.calm=true)(hi:CP X tg iter wi)(hg:QB X tg g)(hb:uX X body tb)
  (hs:∀x,foldedSetIterable iter X.env x=pure x:=by intro _;rfl):FD X (.For tg iter body [] pos) (WV wi g tb):=⟨TX hp hc hi.p hg.p hb.p hs⟩
end
theorem jA.okw{P:Program}{w:World}{K:PySem.W.Frag}{mg:Str->Option Value}{base:Heap}{x qual:Str}{st:Stmt}{f:Addr}{fd:FuncData}{N ps:List Str}{k:Nat}{sp:Sp}(F:jA K x qual st f fd)(S:bW N ps (aT st))(len:∀vs H Q E,sp vs H Q E->vs.length=ps.length)
  (hbody:∀(cdv:Value) (A:Around) (outer:List Env) (s:Shared) (H:Hp) (vs:List V) (Q:VK) (E:XK),jL k (A.deeper (envOfC qual (aT st) s.heap.objs.size f cdv))->sp vs H Q E ->
   ∃t,uX (AH dR P w K mg base N qual (aT st) f cdv A outer s H E).nox (jK st) t/\t { nx:=λ_ H'=>Q .non H',rt:=Q } (start N vs) H):eJ P w K mg base dR (k+1) f fd ps sp :=
 F.ok S len λcdv A outer s H vs Q E hr h=>by
  obtain ⟨t,h1,h2⟩:=hbody cdv A outer s H vs Q E hr h;exact ⟨t,h1.p,h2⟩
theorem jA.oky{P:Program}{w:World}{K:PySem.W.Frag}{mg:Str->Option Value}{base:Heap}{x qual:Str}{st:Stmt}{f:Addr}{fd:FuncData}{N ps:List Str}{k:Nat}{sp:Sp}(F:jA K x qual st f fd)(S:bW N ps (aT st))
  (h:∀(vs:List V) (H:Hp) (Q:VK) (E:XK),sp vs H Q E->vs.length=ps.length/\∀(cdv:Value) (A:Around) (outer:List Env) (s:Shared),jL k (A.deeper (envOfC qual (aT st) s.heap.objs.size f cdv)) ->
   ∃t,uX (AH dR P w K mg base N qual (aT st) f cdv A outer s H E).nox (jK st) t/\t { nx:=λ_ H'=>Q .non H',rt:=Q } (start N vs) H):eJ P w K mg base dR (k+1) f fd ps sp :=
 F.okw S (λvs H Q E q=>(h vs H Q E q).1) λcdv A outer s H vs Q E hr q=>(h vs H Q E q).2 cdv A outer s hr
theorem AA(a b:Int):Int.gcd b (a % b)=Int.gcd a b:=by
 have h:=Int.gcd_add_mul_right_right b (a % b) (a/b);rw [show a % b+a/b*b=a from by have:=Int.emod_add_mul_ediv a b;rw [Int.mul_comm];exact this] at h;rw [<-h,Int.gcd_comm]
theorem EM{a:Int}(h:0<a):(Int.gcd a 0:Int)=a:=by rw [Int.gcd_zero_right];omega
section
variable{H:Hp}{x:V}{d:PyData}{Q:VK}
end
theorem bF.len{H:Hp}:∀{ds:List PyData}{vs:List V},bF H ds vs->vs.length=ds.length
 | [],_,h=>by cases (show _=[] from h);rfl
 | d::ds,_,h=>by
  unfold bF at h;obtain ⟨x,xs,rfl,_,h2⟩:=h;simp [bF.len h2]
section
variable{p:Addr}{σ:St}{t:TE}{ta:TA}{d:PyData}{ds:List PyData}
end
theorem sX{α:Type}{xs:List α}{x:Int}(h0:0<=x)(h1:x<xs.length):∃v,yF xs x=some v/\v∈xs/\xs[x.toNat]?=some v:=by
 have h:x.toNat<xs.length:=Oo;have e:=aB h;have:=cK e;rw [Int.toNat_of_nonneg h0] at this;exact ⟨_,this,List.getElem_mem h,e⟩
theorem bF.append{H:Hp}{es:List PyData}{ws:List V}(h':bF H es ws):∀{ds:List PyData}{vs:List V},bF H ds vs->bF H (ds++es) (vs++ws)
 | [],_,h=>by cases (show _=[] from h);exact h'
 | d::ds,_,h=>by
  unfold bF at h;obtain ⟨x,xs,rfl,h1,h2⟩:=h;exact bF.cons h1 (bF.append h' h2)
end L2
namespace L2
end L2
namespace L2
open PySem PySem.Spec PyProof.Rows
theorem aQ.thru{l:Addr}{H0 H1 H2:Hp}(hl:H0 l=none)(s:aQ H0 H1)(b:aN l H1 H2):aQ H0 H2:=λc o e=>by
 have n:c≠l:=cL e hl;exact b.at n (s _ _ e)
theorem aAR{H:Hp}{l b:Addr}{xs zs:List V}{Q:VK}(h1:H l=some (.lst xs))(h2:H b=some (.lst zs))(hz:xs.length+zs.length<=1000)(k:∀q H',H q=none->H' q=some (.lst (xs++zs))->aQ H H'->Q (.ref q) H'):XJ (.ref l) (.ref b) H Q :=
 ⟨l,b,xs,zs,rfl,rfl,h1,h2,Nat.le_of_lt (qP hz),λq hq=>k q _ hq bK (aQ.upd hq)⟩
@[irreducible] def NP:V->List V->Hp->VK->Prop:=DW
theorem rE{X:Cx}:YQ X "list.append" NP:=by unfold NP;exact rB
theorem HM{H:Hp}{l:Addr}{xs:List V}{y:V}{Q:VK}(h:H l=some (.lst xs))(hz:xs.length<=1000)(k:∀H',H' l=some (.lst (xs++[y]))->aN l H H'->Q .non H'):NP (.ref l) [y] H Q:=by
 unfold NP;exact ⟨l,xs,y,rfl,rfl,h,qP hz,k _ bK aN.self⟩
theorem SA{K:PySem.W.Frag}{H:Hp}{l:Addr}{xs:List V}(h:H l=some (.lst xs)):ZM K "list" (.ref l) H:=.inl ⟨rfl,xs,fE.of h⟩
def lI(env:Env):List (Str × NameKind)->List (Str × Addr)->List (Str × Addr)
 | [],cs=>cs
 | (n,k)::r,cs=>if k == .free then lI env r ((n,(env.cells.lookup n).getD 0)::cs) else lI env r cs
theorem EW(env:Env):∀(l:List (Str × NameKind)) (cs:List (Str × Addr)),(∀y∈l,y.2=.free->∃c,env.cells.lookup y.1=some c) ->
  (forIn l cs λ(x:Str × NameKind) r=>if x.2 == .free then (do let c <-cellOf env x.1;pure (ForInStep.yield ((x.1,c)::r)):Sem _) else pure (ForInStep.yield r))=pure (lI env l cs)
 | [],cs,_=>rfl
 | (n,k)::r,cs,h=>by
  rw [List.forIn_cons];have ih:=λcs=>EW env r cs λy hy=>h y (aK _ hy);by_cases hk:(k == NameKind.free)=true
  ·obtain ⟨c,hc⟩:=h (n,k) aO (by simpa using hk);dsimp only at hc;simp only [hk,if_true,lI,hc,Option.getD_some,cellOf,pure_bind];exact ih _
  ·simp only [hk,lI,pure_bind];exact ih _
theorem kM{env:Env}{scope:Scope}(h:∀y∈scope.names,y.2=.free->∃c,env.cells.lookup y.1=some c):closureFor scope env=pure (lI env scope.names []):=by
 have e:=EW env scope.names [] h;unfold closureFor;simp only [bind_pure];exact e
theorem rM{env:Env}:∀(l:List (Str × NameKind)) (cs:List (Str × Addr)),(∀y∈l,y.2=.free->∃c,env.cells.lookup y.1=some c)->∀p∈lI env l cs,p∈cs\/env.cells.lookup p.1=some p.2
 | [],cs,_,p,hp=>.inl hp
 | (n,k)::r,cs,h,p,hp=>by
  have h':∀y∈r,y.2=.free->∃c,env.cells.lookup y.1=some c:=λy hy=>h y (aK _ hy);unfold lI at hp;by_cases hk:(k == NameKind.free)=true
  ·rw [if_pos hk] at hp;obtain ⟨c,hc⟩:=h (n,k) aO (by simpa using hk);rcases rM r _ h' p hp with hm | hm
   ·rcases bE.mp hm with rfl | hm
    ·exact .inr (by dsimp only at hc ⊢;rw [hc];rfl)
    ·exact .inl hm
   ·exact .inr hm
  ·rw [if_neg hk] at hp;exact rM r cs h' p hp
theorem rO{env:Env}:∀(l:List (Str × NameKind)) (cs:List (Str × Addr)),∀p∈cs,p∈lI env l cs
 | [],_,_,hp=>hp
 | (n,k)::r,cs,p,hp=>by
  unfold lI;by_cases hk:(k == NameKind.free)=true
  ·rw [if_pos hk];exact rO r _ p (aK _ hp)
  ·rw [if_neg hk];exact rO r _ p hp
theorem rN{env:Env}:∀(l:List (Str × NameKind)) (cs:List (Str × Addr)) (y:Str),(y,NameKind.free)∈l->∃a,(y,a)∈lI env l cs
 | (n,k)::r,cs,y,hy=>by
  unfold lI;rcases bE.mp hy with e | hm
  ·cases e;rw [if_pos (by rfl)];exact ⟨_,rO r _ _ aO⟩
  ·by_cases hk:(k == NameKind.free)=true
   ·rw [if_pos hk];exact rN r _ y hm
   ·rw [if_neg hk];exact rN r _ y hm
theorem mB{α β:Type}[BEq α][LawfulBEq α]{x:α}{c:β}:∀{l:List (α × β)},l.lookup x=some c->(x,c)∈l
 | [],h=>by cases h
 | (a,b)::r,h=>by
  rw [List.lookup_cons] at h;by_cases e:(x == a)=true
  ·rw [e] at h;have:x=a:=by simpa using e
   subst this;cases h;exact aO
  ·have e':(x == a)=false:=by simpa using e
   rw [e'] at h;exact aK _ (mB h)
theorem lZ{α β:Type}[BEq α][LawfulBEq α]{x:α}{c:β}:∀{l:List (α × β)},(x,c)∈l->∃c',l.lookup x=some c'
 | (a,b)::r,h=>by
  rw [List.lookup_cons];by_cases e:(x == a)=true
  ·rw [e];exact ⟨_,rfl⟩
  ·have e':(x == a)=false:=by simpa using e
   rw [e'];rcases bE.mp h with q | q
   ·cases q;simp at e
   ·exact lZ q
def CH(X:Cx)(scope:Scope):List (Str × Addr):=lI X.env scope.names []
theorem gJ{X:Cx}{scope:Scope}(h:∀y∈scope.names,y.2=.free->∃c,X.env.cells.lookup y.1=some c){x:Str}{c:Addr}(e:(CH X scope).lookup x=some c):X.env.cells.lookup x=some c:=by
 rcases rM scope.names [] h _ (mB e) with hm | hm
 ·cases hm
 ·exact hm
theorem lJ{X:Cx}{scope:Scope}(h:∀y∈scope.names,y.2=.free->∃c,X.env.cells.lookup y.1=some c){x:Str}(hx:(x,NameKind.free)∈scope.names){c:Addr}(e:X.env.cells.lookup x=some c):(CH X scope).lookup x=some c:=by
 obtain ⟨a,ha⟩:=rN (env:=X.env) scope.names [] x hx;obtain ⟨c',hc'⟩:=lZ ha;have:=gJ h hc';rw [e] at this;cases this;exact hc'
def kD(X:Cx)(scope:Scope)(C:Addr)(fp:List Addr)(s₀:Shared)(H₀:Hp)(N':List Str):Cx where
 prog:=X.prog
 w:=X.w
 K:=X.K
 mg:=X.mg
 base:=X.base
 A:=X.A
 N:=N'
 s₀:=s₀
 H₀:=H₀
 env:=compEnvC scope (CH X scope) C X.env
 outer:=X.stack
 stack:=X.stack
 ex:=fp
 fn:=λ_=>false
 calm:=true
 pn:=[]
 xe:=λ_ _=>False
def slots(σ:St)(js:List Nat):St:=js.map λj=>(σ[j]?).getD none
def LW(X:Cx)(ifs:List Expr)(t:TT):Prop :=
 ∀(pins:List (Addr × Obj)) (s:Shared) (σ:St) (H:Hp) (Q:Bool->Hp->Prop),cA X pins σ H s->t σ H Q ->
  wpAny (model X.prog X.w) X.A (forIn ifs true λc r=>if r=true then do let ok <-isTrue c X.env (eval c X.env);pure (ForInStep.yield ok) else pure (ForInStep.yield r)) (TP X pins σ Q) X.xe s
def oT:TT:=λ_ H Q=>Q true H
theorem pts_nil{X:Cx}:LW X [] oT:=λpins s σ H Q I h=>wpAny_tests_nil ⟨H,I,h⟩
theorem NS{X:Cx}{c:Expr}{t:TT}(h:PT X c t):LW X [c] t:=λpins s σ H Q I q=>wpAny_tests_one (h pins s σ H Q I q)
def QR(wi:TI)(js:List Nat)(tc:TT)(te:TE):TE:=λσ H Q=>wi σ H λJ H1=>∀D,H1 D=none->∃W:Nat->Nat->List V->Hp->Prop,(∃m,W 0 m [] (upd H1 D (.lst []))) /\
 ∀i m ys H2,W i m ys H2->H2 D=some (.lst ys)/\((J.stop i H2/\Q (.ref D) H2)\/(J.go i H2/\ys.length<sizeLine/\∀x H3,J.yld i H2 x H3 ->
  tc (some x::slots σ js) H3 λb H4=>if b=true then te (some x::slots σ js) H4 λy H5=>H5 D=some (.lst ys)/\∃m',m' < m/\W (i+1) m' (ys++[y]) (upd H5 D (.lst (ys++[y])))
   else H4 D=some (.lst ys)/\∃m',m' < m/\W (i+1) m' ys H4))
structure dM(X:Cx)(scope:Scope)(x:Str)(N':List Str)(js:List Nat):Prop where
 calm:X.calm=true
 free:∀y∈scope.names,y.2=.free->X.env.kindOf y.1=some .cell
 cell:∀y∈scope.names,y.2 ≠ .cell
 kind:scope.kind=.function
 names:∀y∈scope.names,y.2=.local->scope.names.lookup y.1=some .local
 own:scope.names.lookup x=some .local
 nofl:∀y,(y,NameKind.free)∈scope.names->scope.names.lookup y=some .local->False
 len:N'.length=js.length+1
 zero:N'[0]?=some x
 nd:N'.Nodup
 slot:∀(i:Nat) (j:Nat),js[i]?=some j->∃y,N'[i+1]?=some y/\X.N[j]?=some y/\(y,NameKind.free)∈scope.names
section
variable{X:Cx}{pins:List (Addr × Obj)}{σ:St}{H:Hp}{s:Shared}{scope:Scope}{x:Str}{N':List Str}{js:List Nat}{fp:List Addr}
theorem dM.cells(S:dM X scope x N' js)(ok:X.Ok):∀y∈scope.names,y.2=.free->∃c,X.env.cells.lookup y.1=some c:=λy hy hf=>ok.has _ (.inl (S.free y hy hf))
theorem gU{env:Env}:∀{names:List (Str × NameKind)}{y:Str}{k:NameKind},(names.map λ(n,k)=>if (k == NameKind.free&&env.scope.kind == .function&&env.kindOf n == some .cell) then (n,NameKind.cell) else (n,k)).lookup y=some k ->
  (k=.cell\/k=.free)->(∀z∈names,z.2 ≠ .cell)->(y,NameKind.free)∈names
 | [],_,_,h,_,_=>by cases h
 | (n,q)::r,y,k,h,hk,hc=>by
  rw [bI,List.lookup_cons] at h;have ih:=λh=>@gU env r y k h hk λz hz=>hc z (aK _ hz);by_cases hq:(q == NameKind.free&&env.scope.kind == .function&&env.kindOf n == some .cell)=true
  ·dsimp only at h;rw [if_pos hq] at h;have qf:q=.free:=by
    rw [cN,cN] at hq;simpa using hq.1.1
   subst qf;by_cases e:(y == n)=true
   ·have:y=n:=by simpa using e
    subst this;exact aO
   ·have e':(y == n)=false:=by simpa using e
    dsimp only at h;rw [e'] at h;exact aK _ (ih h)
  ·dsimp only at h;rw [if_neg hq] at h;by_cases e:(y == n)=true
   ·have:y=n:=by simpa using e
    subst this;dsimp only at h;rw [e] at h;have hkq:k=q:=by injection h with h;exact h.symm
    subst hkq;rcases hk with rfl | rfl
    ·exact absurd rfl (hc _ aO)
    ·exact aO
   ·have e':(y == n)=false:=by simpa using e
    dsimp only at h;rw [e'] at h;exact aK _ (ih h)
theorem VN(S:dM X scope x N' js)(I:cA X pins σ H s)(hf:∀b∈fp,jB X pins H b)(hb:∀b∈fp,b<s.heap.objs.size):(kD X scope s.heap.objs.size fp s H N').Ok where
 mod:=I.ok.mod
 kind:=S.kind
 glob:=I.ok.glob
 blt:=I.ok.blt
 above:=aF _
 inj:=λy z c h1 h2=>I.ok.inj y z c (gJ (S.cells I.ok) h1) (gJ (S.cells I.ok) h2)
 has:=λy hy=>by
  have hm:(y,NameKind.free)∈scope.names:=by
   rcases hy with hy | hy
   ·exact gU (env:=X.env) hy (.inl rfl) S.cell
   ·exact gU (env:=X.env) hy (.inr rfl) S.cell
  obtain ⟨c,hc⟩:=S.cells I.ok _ hm rfl;exact ⟨c,lJ (S.cells I.ok) hm hc⟩
 cab:=λ_ _ h=>by cases h
 hd:=λ_=>I.ok.hd S.calm
 frames:=I.ok.frames
 stk:=.inl rfl
 exf:=λb hb'=>⟨λe=>by have:=hb b hb';rw [e] at this;exact cE _ this,λy c h=>(hf b hb').2.2.2.2.1 y c (gJ (S.cells I.ok) h)⟩
 bs:=I.bs
 bsz:=aZ I.ok.bsz I.sz
 noex:=λb o e hb'=>by
  rcases (hf b hb').2.2.2.1 with h | h
  ·exact I.ok.noex b o e h
  ·exact absurd (aX (aV e) (aZ I.ok.bsz h)) (cE _)
 exfs:=λb hb' hs=>by
  have h2:=I.stkSub b hs;rcases bE.mp h2 with h2 | h2
  ·exact (hf b hb').2.1 h2
  ·exact (hf b hb').2.2.1 h2
 funs:=I.stack
 frf:=I.stkFree
theorem vI{i j:Nat}(h:js[i]?=some j):(slots σ js)[i]?=some ((σ[j]?).getD none):=by
 unfold slots;rw [aI,h];rfl
theorem PH{h':Heap}{tk:Nat}(S:dM X scope x N' js)(I:cA X pins σ H s)(hf:∀b∈fp,jB X pins H b)(hb:∀b∈fp,b<s.heap.objs.size)
  (hn:h'.Ns s.heap.objs.size (λ_=>none)) (hk:∀b o,s.heap.get? b=some o->h'.get? b=some o):cA (kD X scope s.heap.objs.size fp s H N') [] (none::slots σ js) H { s with heap:=h',toks:=tk } where
 ok:=VN S I hf hb
 os:=rfl
 bare:=I.bare
 base:=Un.kept hk
 loc:=by
  refine ⟨_,hn,λi y v hi hv hvis=>?_⟩;cases i with
  | zero=>cases hv
  | succ i =>
   have hv':(slots σ js)[i]?=some (some v):=hv;have hlt:i<js.length:=by
    have:=(aH.mp hv').1;unfold slots at this
    rwa [aA] at this
   have hj:js[i]?=some js[i]:=aB hlt;obtain ⟨z,h1,h2,h3⟩:=S.slot i _ hj;have hzy:z=y:=by
    have:N'[i+1]?=some y:=hi;rw [h1] at this;cases this;rfl
   subst hzy;rw [vI hj] at hv';have hσ:σ[js[i]]?=some (some v):=by
    cases q:σ[js[i]]? with
    | none=>rw [q] at hv';cases hv'
    | some o=>rw [q] at hv';cases hv';rfl
   have hkc:X.env.kindOf z=some .cell:=S.free _ h3 rfl;obtain ⟨m,hm,hl⟩:=I.loc;obtain ⟨u,ru,lk⟩:=hl _ z v h2 hσ (.inr (.inl hkc));rcases lk with ⟨hk1,_⟩ | ⟨_,c,hc,hcell⟩
   ·rw [hkc] at hk1;cases hk1
   ·refine ⟨u,ru,.inr ⟨?_,c,lJ (S.cells I.ok) h3 hc,?_⟩⟩
    ·rcases hvis with hvis | hvis | hvis
     ·exfalso;have hcl:=lJ (S.cells I.ok) h3 hc;have hm2:=mB (l:=(relabel scope X.env).names) hvis;unfold relabel at hm2;obtain ⟨⟨n,k⟩,hmem,he⟩:=aP.mp hm2;dsimp only at he;by_cases hq:(k == NameKind.free&&X.env.scope.kind == .function&&X.env.kindOf n == some .cell)=true
      ·rw [if_pos hq] at he;cases he
      ·rw [if_neg hq] at he;cases he;have:=S.names _ hmem rfl;have l2:=lZ h3;obtain ⟨c',l2⟩:=l2;dsimp only at this;rw [this] at l2;have key:(relabel scope X.env).names.lookup z=some .local:=lookup_relabel_local this;have hck:scope.names.lookup z=some .local:=this;exact S.nofl z h3 hck
     ·exact .inl hvis
     ·exact .inr hvis
    ·obtain ⟨o,e,r⟩:=hcell;exact ⟨o,hk _ _ e,r⟩
 cell:=λy c h=>by
  obtain ⟨v,o,e,r⟩:=I.cell y c (gJ (S.cells I.ok) h);exact ⟨v,o,hk _ _ e,r⟩
 free:=I.hok.fresh (aF _)
 freeC:=λy c h=>I.freeC y c (gJ (S.cells I.ok) h)
 pin:=λp hp=>by cases hp
 hok:=I.hok.kept hk
 len:=by
  show (slots σ js).length+1=N'.length;unfold slots;rw [aA,S.len]
theorem mK.but{P:Program}{w:World}{H:Hp}{h h':Heap}{C:Addr}(x:mK P w H h)(hC:H C=none)(k:∀b u,b≠C->h.get? b=some u->h'.get? b=some u):mK P w H h':=λa o e =>
 (x a o e).stay (λb u hb q=>k b u (by
  rcases hb with rfl | hb
  ·exact cL e hC
  ·exact cL hb hC) q) (λ_ q=>q) λ_ _ q=>q
theorem AI{H2:Hp}{σ':St}{s2:Shared}{h'':Heap}(S:dM X scope x N' js)(I:cA X pins σ H s)(hf:∀b∈fp,jB X pins H b)
  (J:cA (kD X scope s.heap.objs.size fp s H N') [] σ' H2 s2) (hs:Heap.SameBut s.heap.objs.size s2.heap h''):cA X pins σ H2 { s2 with heap:=h'' }:=by
 have hC:H2 s.heap.objs.size=none:=J.free;have ne:∀{b:Addr} {o:Obj},s.heap.get? b=some o->b≠s.heap.objs.size:=λe q=>by
  have:=aV e;rw [q] at this;exact cE _ this
 refine I.call' (s':={ s2 with heap:=h'' }) (ch:=fp) (by rw [show ({ s2 with heap:=h'' }:Shared).os=s2.os from rfl];exact J.os) ?_ (J.hok.but hC λb u hb q=>hs.extBut b u hb q) J.bare λb hb=>⟨(hf b hb).2.2.2.1,(hf b hb).2.1,(hf b hb).2.2.2.2.1,(hf b hb).2.2.2.2.2⟩;have U:=J.base;exact {
  keep:=λb o e n h1 h2=>hs.extBut b o (ne e) (U.keep b o e n h1 h2)
  slot:=λb o e n h1 h2=>by
   obtain ⟨sl,q⟩:=U.slot b o e n h1 h2;exact ⟨sl,hs.extBut b _ (ne e) q⟩
  free:=U.free
  there:=λb o e h2=>by
   obtain ⟨o',q⟩:=U.there b o e h2;exact ⟨o',hs.extBut b _ (ne e) q⟩
  tups:=U.tups
  frzs:=U.frzs
  tbls:=U.tbls }
end
abbrev ME:Value->Shared->Prop:=λ_ _=>False
theorem pX{prog:Program}{w:World}{A:Around}{R:Result->Shared->Prop}{s:Shared}{elt target iter:Expr}{ifs:List Expr}{scope:Scope}{pos:Pos}{it acc:Value}{env:Env}(I:Nat->Shared->Prop)
  (turn:∀n s,I n s->wpAny (model prog w) A (pyNext it) (λr s₁=>match r with
   | none=>R (.ok .next) s₁
   | some v=>wpAny (model prog w) A (letOwnedTupleGo target it v) (λ_ s₁'=>wpAny (model prog w) A (assign target env v) (λ_ s₂ =>
     wpAny (model prog w) A (forIn ifs true λc r=>if r=true then do let ok <-isTrue c env (eval c env);pure (ForInStep.yield ok) else pure (ForInStep.yield r)) (λok s₃ =>
      if ok=true then wpAny (model prog w) A (eval elt env) (λx s₄=>wpAny (model prog w) A (call (.builtin "list.append") [acc,x]) (λ_ s₅=>∃m,m<n/\I m s₅) ME s₄) ME s₃
      else ∃m,m<n/\I m s₃) ME s₂) ME s₁') ME s₁) ME s)
  (n:Nat) (h:I n s):codeAny (model prog w) A (.compLoop (.ListComp elt [⟨target,iter,ifs,0⟩] scope pos) 0 it acc env) R s:=by
 refine codeAny_loop rfl I (λn s hI=>?_) n h;show wpAny _ A ((compTurn (.ListComp elt [⟨target,iter,ifs,0⟩] scope pos) 0 it acc env).onRaise (λx=>do noteFrame x env;theTreesLotGoes x)) _ _ s;refine wpAny_noted ?_;rw [compTurn_list];refine wpAny_bind (wpAny_standAt (wpAny_bind (wpAny_mono (turn n s hI) (λr s₁ h₁=>?_) λ_ _ h'=>h'.elim)));cases r with
 | none=>exact wpAny_pure h₁
 | some v =>
  refine wpAny_bind (wpAny_mono h₁ (λ_ s₁' h₁'=>?_) λ_ _ h'=>h'.elim);refine wpAny_bind (wpAny_mono h₁' (λ_ s₂ h₂=>wpAny_bind (wpAny_mono h₂ (λok s₃ h₃=>?_) λ_ _ h'=>h'.elim)) λ_ _ h'=>h'.elim);cases ok with
  | false=>exact wpAny_pure ⟨rfl,h₃⟩
  | true =>
   exact wpAny_bind (wpAny_bind (wpAny_mono h₃ (λx s₄ h₄=>wpAny_bind (wpAny_mono h₄ (λ_ s₅ h₅=>wpAny_pure (wpAny_pure ⟨rfl,h₅⟩)) λ_ _ h'=>h'.elim)) λ_ _ h'=>h'.elim))
section
variable{X:Cx}{pins:List (Addr × Obj)}{σ:St}{H:Hp}{s:Shared}{scope:Scope}{x:Str}{N':List Str}{js:List Nat}{fp:List Addr}{elt iter:Expr}{px pos:Pos}{ifs:List Expr}{tc:TT}{te:TE}
theorem uG{J:It}{it:Addr}{tn:Nat->Heap->Prop}{RR:Value->Addr->Result->Shared->Prop}{E:Value->Shared->Prop}{Q:VK}
  (S:dM X scope x N' js) (I:cA X pins σ H s) (T:yC X.prog X.w X.K (.Name x px) J fp it tn) (h0:tn 0 s.heap) (hf:∀b∈fp,jB X pins H b)
  (ht:∀C fp s₀ H₀,LW (kD X scope C fp s₀ H₀ N') ifs tc) (he:∀C fp s₀ H₀,PE (kD X scope C fp s₀ H₀ N') elt te)
  (R:∀D,H D=none->∃W:Nat->Nat->List V->Hp->Prop,(∃m,W 0 m [] (upd H D (.lst []))) /\
   ∀i m ys H2,W i m ys H2->H2 D=some (.lst ys)/\((J.stop i H2/\Q (.ref D) H2)\/(J.go i H2/\ys.length<sizeLine/\∀x H3,J.yld i H2 x H3 ->
    tc (some x::slots σ js) H3 λb H4=>if b=true then te (some x::slots σ js) H4 λy H5=>H5 D=some (.lst ys)/\∃m',m' < m/\W (i+1) m' (ys++[y]) (upd H5 D (.lst (ys++[y])))
     else H4 D=some (.lst ys)/\∃m',m' < m/\W (i+1) m' ys H4)))
  (hRR:∀(D:Addr) (H3:Hp) (s3:Shared) (σ':St) (H':Hp) (s':Shared),cA X pins σ H3 s3->(∀b∈fp,jB X pins H3 b)->cA (kD X scope s3.heap.objs.size fp s3 H3 N') [] σ' H' s'->Q (.ref D) H'->RR (.ref D) s3.heap.objs.size (.ok .next) s') :
  wpAny (model X.prog X.w) X.A (newList []) (λacc s₃=>wpAny (model X.prog X.w) X.A (newFunctionEnv scope X.env.globals (CH X scope) [] X.env.qual none .none (some X.env)) (λcenv s₄ =>
   codeAny (model X.prog X.w) X.A (.compStart (.ListComp elt [⟨.Name x px,iter,ifs,0⟩] scope pos) 0 (.ref it) acc { cenv with scope:=relabel scope X.env }) (RR acc cenv.locals) s₄) E s₃) E s:=by
 have hb:∀b∈fp,b<s.heap.objs.size:=λb hb=>by
  obtain ⟨o,e,_⟩:=T.obj 0 _ h0 b hb;exact aV e
 refine wpAny_newObj_type (wpAny_newFunctionEnv S.cell (by intro y hy;simp at hy) (λh₁ hns₁ hsb₁=>?_) S.kind);have hDn:H s.heap.objs.size=none:=I.hok.fresh (aF _);obtain ⟨W,⟨m0,hw0⟩,hW⟩:=R _ hDn;have I3:cA X pins σ (upd H s.heap.objs.size (.lst [])) { s with heap:=s.heap.push { cls:=.type "list",dict:=none,data:=.seq ([]:List Value).toArray } }:=I.lnew (its:=[]) (ys:=[]) (t':=s.toks) .nil (cM _);have hf3:∀b∈fp,jB X pins (upd H s.heap.objs.size (.lst [])) b:=λb hb' =>
  ⟨by rw [cS (λe=>by have:=hb b hb';rw [e] at this;exact cE _ this)];exact (hf b hb').1,(hf b hb').2⟩
 have hb3:∀b∈fp,b<(s.heap.push { cls:=.type "list",dict:=none,data:=.seq ([]:List Value).toArray }).objs.size:=λb hb'=>by
  rw [kQ];exact Nat.lt_succ_of_lt (hb b hb')
 have hkeep:∀b o,(s.heap.push { cls:=.type "list",dict:=none,data:=.seq ([]:List Value).toArray }).get? b=some o->h₁.get? b=some o:=λb o e =>
  hsb₁.extBut b o (λq=>by have:=aV e;rw [q] at this;exact cE _ this) (aC _ e)
 have J4:=PH (h':=h₁) (tk:=s.toks+([]:List (Str × Value)).length) S I3 hf3 hb3 hns₁ hkeep;have t4:tn 0 h₁:=T.keep 0 _ _ h0 λb hb' o e=>hkeep b o (aC _ e);have loop:codeAny (model X.prog X.w) X.A (.compLoop (.ListComp elt [⟨.Name x px,iter,ifs,0⟩] scope pos) 0 (.ref it) (.ref s.heap.objs.size) (compEnvC scope (CH X scope) (s.heap.push { cls:=.type "list",dict:=none,data:=.seq ([]:List Value).toArray }).objs.size X.env))
   (RR (.ref s.heap.objs.size) (s.heap.push { cls:=.type "list",dict:=none,data:=.seq ([]:List Value).toArray }).objs.size) { s with heap:=h₁,toks:=s.toks+([]:List (Str × Value)).length }:=by
  refine pX (λn s'=>∃(i:Nat) (ys:List V) (H2:Hp) (o:Option V),cA (kD X scope _ fp _ _ N') [] (o::slots σ js) H2 s'/\tn i s'.heap/\(∀b∈fp,H2 b=none)/\W i n ys H2) ?_ m0 ⟨0,[],_,none,J4,t4,λb hb'=>(hf3 b hb').1,hw0⟩;rintro n s' ⟨i,ys,H2,o,J2,t2,f2,w2⟩;obtain ⟨hD,hcase⟩:=hW i n ys H2 w2;have Fp:∀b∈fp,jB (kD X scope (s.heap.push { cls:=.type "list",dict:=none,data:=.seq ([]:List Value).toArray }).objs.size fp { s with heap:=s.heap.push { cls:=.type "list",dict:=none,data:=.seq ([]:List Value).toArray } } (upd H s.heap.objs.size (.lst [])) N') [] H2 b:=λb hb' =>
   ⟨f2 b hb',(J2.ok.exf b hb').1,J2.ok.exfs b hb',.inl hb',(J2.ok.exf b hb').2,λp hp=>by cases hp⟩
  rcases hcase with ⟨hstop,hq⟩ | ⟨hgo,hz,hturn⟩
  ·refine wpAny_mono (T.done (kD X scope _ fp _ _ N') rfl rfl rfl rfl i [] s' _ H2 ME J2 Fp t2 hstop) (λr s1 ⟨hr,J5⟩=>?_) λ_ _ f=>f;subst hr;exact hRR _ _ _ _ _ _ I3 hf3 J5 hq
  ·refine wpAny_mono (T.item (kD X scope _ fp _ _ N') rfl rfl rfl rfl i [] s' _ H2 ME J2 Fp t2 hgo) (λr s1 ⟨u,hr,hx⟩=>?_) λ_ _ f=>f;subst hr;refine wpAny_mono hx (λ_ s2 ⟨v,H3,J3,rv,hy,t3,f3⟩=>?_) λ_ _ f=>f;have Fp3:∀b∈fp,jB (kD X scope (s.heap.push { cls:=.type "list",dict:=none,data:=.seq ([]:List Value).toArray }).objs.size fp { s with heap:=s.heap.push { cls:=.type "list",dict:=none,data:=.seq ([]:List Value).toArray } } (upd H s.heap.objs.size (.lst [])) N') [] H3 b:=λb hb' =>
    ⟨f3 b hb',(J3.ok.exf b hb').1,J3.ok.exfs b hb',.inl hb',(J3.ok.exf b hb').2,λp hp=>by cases hp⟩
   have P3:=J3.pinned Fp3 (T.obj (i+1) _ t3);have keepT:∀{σ':St} {Hx:Hp} {sx:Shared},cA (kD X scope (s.heap.push { cls:=.type "list",dict:=none,data:=.seq ([]:List Value).toArray }).objs.size fp { s with heap:=s.heap.push { cls:=.type "list",dict:=none,data:=.seq ([]:List Value).toArray } } (upd H s.heap.objs.size (.lst [])) N') ([]++qW fp s2.heap) σ' Hx sx->tn (i+1) sx.heap/\∀b∈fp,Hx b=none:=λJx =>
    ⟨T.keep (i+1) _ _ t3 λb hb' ob e=>(Jx.pin (b,ob) (bH _ (bH _ (iP hb' e)))).1,λb hb'=>by
     obtain ⟨ob,e,_⟩:=T.obj (i+1) _ t3 b hb';exact (Jx.pin (b,ob) (bH _ (bH _ (iP hb' e)))).2.1⟩
   refine wpAny_assign_Name (mS P3 (i:=0) (x:=x) (v:=v) ?nd ?hi ?hx rv (λs5 J5=>?_) ?hfn)
   case nd=>exact S.nd
   case hi=>exact S.zero
   case hx=>exact .inl (lookup_relabel_local S.own)
   case hfn=>exact .inr (lookup_relabel_local S.own)
   have J5':cA _ _ (some v::slots σ js) H3 s5:=J5;refine wpAny_mono (ht _ _ _ _ _ _ _ _ _ J5' (hturn v H3 hy)) (λok s6 ⟨H6,J6,q6⟩=>?_) λ_ _ f=>f;dsimp only at q6;by_cases hok:ok=true
   ·rw [if_pos hok] at q6 ⊢;refine wpAny_mono (he _ _ _ _ _ _ _ _ _ J6 q6) (λy s7 ⟨w',H7,J7,r7,hD7,m',hm',w7⟩=>?_) λ_ _ f=>f;refine wpAny_mono (rB (X:=kD X scope _ fp _ _ N') _ _ _ _ (.ref s.heap.objs.size) [w'] (.ref s.heap.objs.size) [y] (λ_ H8=>H8=upd H7 s.heap.objs.size (.lst (ys++[w']))) J7 rfl (.cons r7 .nil) ⟨_,_,_,rfl,rfl,hD7,hz,rfl⟩) (λ_ s8 ⟨_,H8,J8,_,e8⟩=>?_) λ_ _ f=>f;subst e8;obtain ⟨k1,k2⟩:=keepT J8;exact ⟨m',hm',i+1,ys++[w'],_,some v,J8.unpinned,k1,k2,w7⟩
   ·rw [if_neg hok] at q6 ⊢;obtain ⟨_,m',hm',w7⟩:=q6;obtain ⟨k1,k2⟩:=keepT J6;exact ⟨m',hm',i+1,ys,_,some v,J6.unpinned,k1,k2,w7⟩
 refine codeAny_compStart_list loop (T.self X.A 0 _ _ _ t4 loop)
theorem OD{wi:TI}(S:dM X scope x N' js)(hi:PI X (.Name x px) iter wi)(ht:∀C fp s₀ H₀,LW (kD X scope C fp s₀ H₀ N') ifs tc)(he:∀C fp s₀ H₀,PE (kD X scope C fp s₀ H₀ N') elt te)
  (hs:∀x,foldedSetIterable iter X.env x=pure x:=by intro _;rfl):PE X (.ListComp elt [⟨.Name x px,iter,ifs,0⟩] scope pos) (QR wi js tc te):=by
 intro pins s σ H Q I h;rw [eval_ListComp];refine wpAny_comprehension_free (use:=none) rfl hs (kM (S.cells I.ok)) S.kind S.names (wpAny_mono (hi pins s σ H _ I h) (λv s1 h1=>?_) λ_ _ e=>e);refine wpAny_mono h1 (λitv s2 ⟨it,fp,tn,J,H2,e,I2,T,t0,hf,R⟩=>?_) λ_ _ e=>e;subst e;refine uG S I2 T t0 hf ht he R ?_;intro D H3 s3 σ' H' s' I3 hf3 J3 q;obtain ⟨m,hm,_⟩:=J3.loc;exact ⟨m,hm,λh' hs'=>⟨.ref D,H',AI S I3 hf3 J3 hs',rfl,q⟩⟩
theorem BU{wi:TI}{y:Str}{py spos:Pos}{i:Nat}(S:dM X scope x N' js)(hN:X.N.Nodup)(hiN:X.N[i]?=some y)(hy:X.env.kindOf y=some .local)(hi:PI X (.Name x px) iter wi)(ht:∀C fp s₀ H₀,LW (kD X scope C fp s₀ H₀ N') ifs tc)(he:∀C fp s₀ H₀,PE (kD X scope C fp s₀ H₀ N') elt te)
  (hsw:swapsWith (.ListComp elt [⟨.Name x px,iter,ifs,0⟩] scope pos) (some (.Name y py)) spos.line X.env=pure true) (hs:∀x,foldedSetIterable iter X.env x=pure x:=by intro _;rfl) :
  PS X (.Assign [.Name y py] (.ListComp elt [⟨.Name x px,iter,ifs,0⟩] scope pos) spos) (FQ (QR wi js tc te) (pR i)):=by
 intro pins s σ H D0 I h;rw [exec_Assign_Name_used _ _ _ _ hsw];refine wpAny_bind (wpAny_standAt (wpAny_bind ?_));show wpAny _ X.A (do let _ <-comprehension (.ListComp elt [⟨.Name x px,iter,ifs,0⟩] scope pos) scope X.env _ (newList []) false (eval iter X.env) (some (assign (.Name y py) X.env))) _ _ s;refine wpAny_bind (wpAny_mono (wpAny_comprehension_free (use:=some (assign (.Name y py) X.env)) (Q:=λ_ s'=>SP X pins D0 .next s') rfl hs (kM (S.cells I.ok)) S.kind S.names (wpAny_mono (hi pins s σ H _ I h) (λv s1 h1=>?_) λ_ _ e=>e)) (λ_ s' hq=>wpAny_pure (wpAny_pure hq)) λ_ _ e=>e);refine wpAny_mono h1 (λitv s2 ⟨it,fp,tn,J,H2,e,I2,T,t0,hf,R⟩=>?_) λ_ _ e=>e;subst e;refine uG (Q:=λv H'=>pR i v σ H' D0.nx) S I2 T t0 hf ht he R ?_;intro D H3 s3 σ' H' s' I3 hf3 J3 q;obtain ⟨m,hm,_⟩:=J3.loc;have IX:cA X pins σ H' s':=AI S I3 hf3 J3 (Heap.SameBut.refl ..);have hCL:s3.heap.objs.size≠X.env.locals:=λe=>by have:=I3.lt;rw [e] at this;exact cE _ this
 show wpAny _ X.A (assign (.Name y py) X.env (.ref D)) _ _ _;refine wpAny_assign_Name (vF IX hN hiN (.inl hy) (v:=.ref D) rfl (λs5 I5 hsb=>?_) (.inr hy));obtain ⟨a,hsb,ha⟩:=hsb;have hCa:s3.heap.objs.size≠a:=by
  rcases ha with rfl | ha
  ·exact hCL
  ·intro e;obtain ⟨v,o,eo,_⟩:=I3.cell y a ha;have:=aV eo;rw [<-e] at this;exact cE _ this
 refine ⟨m,hm.sameBut hsb hCa,λh' hs'=>⟨_,H',?_,q⟩⟩;exact I5.turned (it:=s3.heap.objs.size) (t':=s5.toks) (λb o n e=>hs'.extBut b o n e) J3.free hCL (.inr I3.sz)
  (λz c hz e=>by
   obtain ⟨v,o,eo,_⟩:=I3.cell z c hz;have:=aV eo;rw [e] at this;exact cE _ this)
  (λp hp e=>by
   have:=aV (I3.pin p hp).1;rw [e] at this;exact cE _ this)
end
structure HQ(X:Cx)(ifs:List Expr)(t:TT):Prop where p:LW X ifs t
def wU(t:TE):TE:=λσ H Q=>∃Q':VK,t σ H Q'/\∀v H1,Q' v H1->Q v H1
theorem PE.mono{X:Cx}{e:Expr}{t:TE}(h:PE X e t):PE X e (wU t):=λpins s σ H Q I ⟨Q',h1,h2⟩ =>
 thn (h pins s σ H Q' I h1) λb s' ⟨v,H',I',r,q⟩=>⟨v,H',I',r,h2 _ _ q⟩
theorem LW.mono{X:Cx}{es:List Expr}{t:TT}(h:LW X es t):LW X es (sA t):=λpins s σ H Q I ⟨Q',h1,h2⟩ =>
 thn (h pins s σ H Q' I h1) λb s' ⟨H',I',q⟩=>⟨H',I',h2 _ _ q⟩
@[irreducible] def jC(J:It)(σ:St)(js:List Nat)(tc:TT)(te:TE)(H1:Hp)(Q:VK):Prop:=∀D,H1 D=none->∃W:Nat->Nat->List V->Hp->Prop,(∃m,W 0 m [] (upd H1 D (.lst []))) /\
 ∀i m ys H2,W i m ys H2->H2 D=some (.lst ys)/\((J.stop i H2/\Q (.ref D) H2)\/(J.go i H2/\ys.length<sizeLine/\∀x H3,J.yld i H2 x H3 ->
  sA tc (some x::slots σ js) H3 λb H4=>if b=true then wU te (some x::slots σ js) H4 λy H5=>H5 D=some (.lst ys)/\∃m',m' < m/\W (i+1) m' (ys++[y]) (upd H5 D (.lst (ys++[y])))
   else H4 D=some (.lst ys)/\∃m',m' < m/\W (i+1) m' ys H4))
def wV(wi:TI)(js:List Nat)(tc:TT)(te:TE):TE:=λσ H Q=>wi σ H λJ H1=>jC J σ js tc te H1 Q
section
variable{X:Cx}{scope:Scope}{x y:Str}{N':List Str}{js:List Nat}{elt iter c:Expr}{px py pos spos:Pos}{ifs:List Expr}{tc:TT}{te:TE}{wi:TI}{i:Nat}
theorem eI:HQ X [] oT:=⟨pts_nil⟩
theorem MJ{t:TT}(h:HY X c t):HQ X [c] t:=⟨NS h.p⟩
theorem fG(S:dM X scope x N' js)(hi:CP X (.Name x px) iter wi)(ht:∀C fp s₀ H₀,HQ (kD X scope C fp s₀ H₀ N') ifs tc)(he:∀C fp s₀ H₀,gA (kD X scope C fp s₀ H₀ N') elt te)
  (hs:∀x,foldedSetIterable iter X.env x=pure x:=by intro _;rfl):gA X (.ListComp elt [⟨.Name x px,iter,ifs,0⟩] scope pos) (wV wi js tc te) :=
 ⟨by unfold wV jC;exact OD S hi.p (λC fp s₀ H₀=>(ht C fp s₀ H₀).p.mono) (λC fp s₀ H₀=>(he C fp s₀ H₀).p.mono) hs⟩
theorem oA(S:dM X scope x N' js)(hN:X.N.Nodup)(hiN:X.N[i]?=some y)(hy:X.env.kindOf y=some .local)(hi:CP X (.Name x px) iter wi)(ht:∀C fp s₀ H₀,HQ (kD X scope C fp s₀ H₀ N') ifs tc)(he:∀C fp s₀ H₀,gA (kD X scope C fp s₀ H₀ N') elt te)
  (hsw:swapsWith (.ListComp elt [⟨.Name x px,iter,ifs,0⟩] scope pos) (some (.Name y py)) spos.line X.env=pure true:=by rfl) (hs:∀x,foldedSetIterable iter X.env x=pure x:=by intro _;rfl) :
  FD X (.Assign [.Name y py] (.ListComp elt [⟨.Name x px,iter,ifs,0⟩] scope pos) spos) (FQ (wV wi js tc te) (pR i)) :=
 ⟨by unfold wV jC;exact BU S hN hiN hy hi.p (λC fp s₀ H₀=>(ht C fp s₀ H₀).p.mono) (λC fp s₀ H₀=>(he C fp s₀ H₀).p.mono) hsw hs⟩
end
def RF(psc scope:Scope)(N:List Str)(x:Str)(N':List Str)(js:List Nat):Bool :=
 (scope.names.all λy=>!(y.2 == .free) || psc.names.lookup y.1 == some .cell)&&(scope.names.all λy=>!(y.2 == .cell))&&scope.kind == .function &&
 (scope.names.all λy=>!(y.2 == .local) || scope.names.lookup y.1 == some .local)&&scope.names.lookup x == some .local &&
 (scope.names.all λy=>!(y.2 == .free) || !(scope.names.lookup y.1 == some .local))&&N'.length == js.length+1&&N'[0]? == some x&&decide N'.Nodup &&
 ((List.range js.length).all λi=>match js[i]?,N'[i+1]? with
  | some j,some y=>N[j]? == some y&&scope.names.contains (y,NameKind.free)
  | _,_=>false)
theorem dM.of{X:Cx}{psc scope:Scope}{N:List Str}{x:Str}{N':List Str}{js:List Nat}(h:RF psc scope N x N' js=true)(hX:X.env.scope=psc)(hN:X.N=N)(hc:X.calm=true):dM X scope x N' js:=by
 unfold RF at h;simp only [cN] at h;obtain ⟨⟨⟨⟨⟨⟨⟨⟨⟨h1,h2⟩,h3⟩,h4⟩,h5⟩,h6⟩,h7⟩,h8⟩,h9⟩,h10⟩:=h;rw [List.all_eq_true] at h1 h2 h4 h6 h10;refine ⟨hc,λy hy e=>?_,λy hy e=>?_,by simpa using h3,λy hy e=>?_,by simpa using h5,λy hy e=>?_,by simpa using h7,by simpa using h8,of_decide_eq_true h9,λi j hj=>?_⟩
 ·have:=h1 y hy;rw [e] at this;show X.env.scope.names.lookup y.1=_;rw [hX];simpa using this
 ·have:=h2 y hy;rw [e] at this;simp at this
 ·have:=h4 y hy;rw [e] at this;simpa using this
 ·have:=h6 _ hy;rw [e] at this;simp at this
 ·have hi:i<js.length:=(aH.mp hj).1;have:=h10 i (cU.mpr hi);rw [hj] at this;cases q:N'[i+1]? with
  | none=>rw [q] at this;simp at this
  | some y =>
   rw [q] at this;simp only [cN] at this;exact ⟨y,rfl,by rw [hN];simpa using this.1,List.contains_iff_mem.mp this.2⟩
section
variable{js:List Nat}{te:TE}{tc:TT}{σ:St}{H:Hp}{Q:VK}
theorem uH{J:It}{n:Nat}(src:Nat->V->Prop)(hz:n<=100000)(Pv:Addr->Nat->List V->Hp->Prop)
  (h0:∀D H1,H D=none->H1 D=some (.lst [])->aQ H H1->Pv D 0 [] H1)
  (hg:∀D i ys H',i<n->H' D=some (.lst ys)->Pv D i ys H'->J.go i H'/\∀x H3,J.yld i H' x H3->H3=H'/\src i x)
  (hst:∀D ys H',H' D=some (.lst ys)->Pv D n ys H'->J.stop n H')
  (hs:∀D i x ys H',src i x->i<n->ys.length=i->H' D=some (.lst ys)->Pv D i ys H'->te (some x::slots σ js) H' λy H5=>H5 D=some (.lst ys)/\∀H6,H6 D=some (.lst (ys++[y]))->aN D H5 H6->Pv D (i+1) (ys++[y]) H6)
  (hd:∀D ys H',ys.length=n->H D=none->H' D=some (.lst ys)->Pv D n ys H'->Q (.ref D) H') :
  jC J σ js oT te H Q:=by
 unfold jC;intro D hD;refine ⟨λi m ys H'=>m=n-i/\i<=n/\ys.length=i/\H' D=some (.lst ys)/\Pv D i ys H',⟨n,by simp,cM _,rfl,bK,h0 D _ hD bK (aQ.upd hD)⟩,?_⟩;rintro i m ys H2 ⟨rfl,hi,hy,hD2,p⟩;refine ⟨hD2,?_⟩;by_cases hlt:i<n
 ·obtain ⟨g1,g2⟩:=hg D i ys H2 hlt hD2 p;refine .inr ⟨g1,bJ (m:=100000) Oo yd,λx H3 hy3=>?_⟩;obtain ⟨rfl,hx⟩:=g2 x H3 hy3;refine ⟨λb H4=>b=true/\H4=H3,⟨rfl,rfl⟩,?_⟩;rintro b H4 ⟨rfl,rfl⟩;rw [if_pos rfl];refine ⟨_,hs D i x ys H4 hx hlt hy hD2 p,?_⟩;rintro v H5 ⟨hD5,k⟩;exact ⟨hD5,n-(i+1),Oo,rfl,hlt,by rw [bC,hy];rfl,bK,k _ bK aN.self⟩
 ·have e:i=n:=Oo;subst e;exact .inl ⟨hst D ys H2 hD2 p,hd D ys H2 hy hD hD2 p⟩
end
@[irreducible] def JR(K:PySem.W.Frag):List V->Hp->VK->Prop:=λxs H Q=>∃(p:Addr) (ns:List Int),xs=[.ref p]/\fE K H p (ns.map V.int)/\Q (.int ns.sum) H
@[irreducible] def NN(b:Bool):R2:=λx y H Q=>∃d d',cB H d x/\cB H d' y/\SeqAt.shaped d=true/\SeqAt.shaped d'=true/\Q (.bl (b == PyData.eqv d d')) H
section
variable{X:Cx}
theorem LG(hc:X.calm=true):gW X (.builtin "sum") (JR X.K):=by
 unfold JR;intro pins s σ H xs us Q I r h;obtain ⟨p,ns,rfl,hq,q⟩:=h;obtain ⟨u,rfl,rx⟩:=mO r;cases rx;obtain ⟨its,r',pl,hz⟩:=I.list hq;have hi:=BZ r';obtain ⟨xs',e⟩:=hi.allInts.items;rw [e] at pl;refine sum_intListG (I.ok.hd hc) pl.isList λh' tk t' hk=>⟨.int ns.sum,H,I.kept hk,⟨t',?_⟩,q⟩;rw [preSum_eq,List.take_of_length_le (by simp)];rw [<-hi.numsOf];have e2:its=(intItems xs').toList:=by rw [<-e]
 rw [e2,nums_intItems]
theorem ZW{K:PySem.W.Frag}{H:Hp}{p:Addr}{ns:List Int}{Q:VK}(h:fE K H p (ns.map V.int))(q:Q (.int ns.sum) H):JR K [.ref p] H Q:=by unfold JR;exact ⟨p,ns,rfl,h,q⟩
theorem KG(hu:X.A.units+64<cLine):oK X (compareOp .NotEq) (NN false):=by
 unfold NN;intro pins s σ H x y v u Q I rx ry h;obtain ⟨d,d',h1,h2,s1,s2,q⟩:=h;obtain ⟨as,ra⟩:=h1.reads I rx;obtain ⟨bs,rb⟩:=h2.reads I ry;exact SeqAt.compareNe_shaped ra rb s1 s2 hu ⟨.bl _,H,I,by show _=_;simp,q⟩
theorem reD{b:Bool}{x y:V}{d d':PyData}{H:Hp}{Q:VK}(h1:cB H d x)(h2:cB H d' y)(s1:SeqAt.shaped d=true)(s2:SeqAt.shaped d'=true)(q:Q (.bl (b == PyData.eqv d d')) H):NN b x y H Q:=by
 unfold NN;exact ⟨d,d',h1,h2,s1,s2,q⟩
end
mutual
def eN:PyData->Bool
 | .list _=>false
 | .dict _=>false
 | .tuple ds=>dO ds
 | _=>true
def dO:List PyData->Bool
 | []=>true
 | d::ds=>eN d&&dO ds
end
def cQ(H H':Hp):Prop:=∀b xs,H b=some (.tup xs)->H' b=some (.tup xs)
theorem cQ.trans{H H1 H2:Hp}(a:cQ H H1)(b:cQ H1 H2):cQ H H2:=λc o h=>b c o (a c o h)
theorem aQ.t{H H':Hp}(s:aQ H H'):cQ H H':=λb xs h=>s _ _ h
theorem aN.t{H H':Hp}{p:Addr}(s:aN p H H'){xs:List V}(hp:H p=some (.lst xs)):cQ H H':=λb ys h=>s.at (vP h hp (by intro z;cases z)) h
mutual
theorem cB.flat{H H':Hp}(s:cQ H H'):∀{d:PyData}{v:V},eN d=true->cB H d v->cB H' d v
 | .none,_,_,h=>h
 | .bool _,_,_,h=>h
 | .int _,_,_,h=>h
 | .str _,_,_,h=>h
 | .list _,_,f,_=>by simp [eN] at f
 | .dict _,_,f,_=>by simp [eN] at f
 | .tuple ds,_,f,h=>by
  unfold cB at h ⊢;obtain ⟨a,ys,rfl,h1,h2⟩:=h;exact ⟨a,ys,rfl,s _ _ h1,bF.flat s (by simpa [eN] using f) h2⟩
theorem bF.flat{H H':Hp}(s:cQ H H'):∀{ds:List PyData}{vs:List V},dO ds=true->bF H ds vs->bF H' ds vs
 | [],_,_,h=>h
 | d::ds,_,f,h=>by
  unfold bF at h ⊢;obtain ⟨x,ys,rfl,h1,h2⟩:=h;simp only [dO,cN] at f;exact ⟨x,ys,rfl,cB.flat s f.1 h1,bF.flat s f.2 h2⟩
end
theorem bF.get{H:Hp}:∀{ds:List PyData}{vs:List V}{i:Nat}{v:V},bF H ds vs->vs[i]?=some v->∃d,ds[i]?=some d/\cB H d v
 | [],_,i,v,h,e=>by cases (show _=[] from h);simp at e
 | d::ds,_,i,v,h,e=>by
  unfold bF at h;obtain ⟨x,ys,rfl,h1,h2⟩:=h;cases i with
  | zero=>simp at e;subst e;exact ⟨d,rfl,h1⟩
  | succ i =>
   rw [List.getElem?_cons_succ] at e ⊢;exact bF.get h2 e
theorem bF.get'{H:Hp}:∀{ds:List PyData}{vs:List V}{i:Nat}{d:PyData},bF H ds vs->ds[i]?=some d->∃v,vs[i]?=some v/\cB H d v
 | [],_,i,d,h,e=>by simp at e
 | d' :: ds,_,i,d,h,e=>by
  unfold bF at h;obtain ⟨x,ys,rfl,h1,h2⟩:=h;cases i with
  | zero=>simp at e;subst e;exact ⟨x,rfl,h1⟩
  | succ i =>
   rw [List.getElem?_cons_succ] at e ⊢;exact bF.get' h2 e
theorem bF.snoc{H:Hp}{ds:List PyData}{vs:List V}{d:PyData}{v:V}(h:bF H ds vs)(r:cB H d v):bF H (ds++[d]) (vs++[v]):=bF.append (bF.cons r bF.nil) h
theorem uK{i:Int}{n:Nat}(h:i.natAbs<2^n):bits i<=n:=PySem.intBits_le_iff.mpr h
theorem lH{i j:Int}{n m:Nat}(h1:i.natAbs<2^n)(h2:j.natAbs<2^m)(hn:n<=1048576:=by decide)(hm:m<=1048576:=by decide):IntMulOk i j:=by
 refine IntMulOk.of_bits ?_ ?_
 ·exact aZ (uK h1) hn
 ·exact aZ (uK h2) hm
mutual
def MC:PyData->Nat
 | .none=>4
 | .bool _=>5
 | .int _=>1921
 | .str x=>(reprText x).length
 | .list xs=>xD xs+4
 | .tuple xs=>xD xs+4
 | .dict _=>0
def xD:List PyData->Nat
 | []=>0
 | x::xs=>MC x+2+xD xs
end
theorem rZ:∀(ts:List Str) (k:Nat) (acc:Str),(textFrom k acc ts).length<=acc.length+piled ts
 | [],k,acc=>by show acc.length<=_;omega
 | t::r,k,acc=>by
  have h:=rZ r (k+1) (acc++(if k > 0 then ", " else "" : String)++t);have e:(acc++(if k > 0 then ", " else "" : String)++t).length=acc.length+(if k > 0 then 2 else 0)+t.length:=by
   rw [strLen_append,strLen_append];split <;> rfl
  rw [e] at h;rw [piled_cons];show (textFrom (k+1) _ r).length<=_;refine aZ h ?_;split <;> omega
theorem wS(ts:List Str):(tupleText ts).length<=piled ts+4:=by
 unfold tupleText;rw [strLen_append,strLen_append];have e1:(("(" : Str)).length=1:=rfl;have e2:((if ts.length == 1 then ",)" else ")" : String):Str).length<=2:=by split <;> decide
 rw [e1];by_cases h:ts=[]
 ·subst h;have:(Str.join ", " []).length=0:=rfl;omega
 ·have:=join_length_add ts h;omega
theorem zS(ts:List Str):(listText ts).length<=piled ts+4:=by
 unfold listText;rw [strLen_append];have:=rZ ts 0 "[";have e1:(("[" : String):Str).length=1:=rfl;have e2:(("]" : String):Str).length=1:=rfl;rw [e1] at this;rw [e2];omega
mutual
theorem yY:∀d:PyData,d.showable=true->d.hasDict=false->d.shown.length<=MC d
 | .none,_,_=>by simp only [PyData.shown,MC];decide
 | .bool b,_,_=>by cases b <;> (simp only [PyData.shown,MC];decide)
 | .int i,h,_=>by
  simp only [PyData.shown,MC];exact int_text_len_1921 (by simpa [PyData.showable] using h)
 | .str x,_,_=>by simp only [PyData.shown,MC];exact aF _
 | .list xs,h,h2=>by
  simp only [PyData.shown,MC];have:=nC xs (by simpa [PyData.showable] using h) (by simpa [PyData.hasDict] using h2);have:=zS (PyData.shownAll xs);omega
 | .tuple xs,h,h2=>by
  simp only [PyData.shown,MC];have:=nC xs (by simpa [PyData.showable] using h) (by simpa [PyData.hasDict] using h2);have:=wS (PyData.shownAll xs);omega
 | .dict _,_,h=>by simp [PyData.hasDict] at h
theorem nC:∀ds:List PyData,PyData.showableAll ds=true->PyData.hasDictAll ds=false->piled (PyData.shownAll ds)<=xD ds
 | [],_,_=>by simp only [PyData.shownAll,xD];exact aF _
 | d::ds,h,h2=>by
  simp only [PyData.showableAll,cN] at h;simp only [PyData.hasDictAll,Bool.or_eq_false_iff] at h2;have:=yY d h.1 h2.1;have:=nC ds h.2 h2.2;simp only [PyData.shownAll,xD,piled_cons];omega
end
theorem MX{i:Int}{n:Nat}(h:i.natAbs<2^n)(hn:n<=1920:=by decide):PyData.showable (.int i)=true:=by
 simp only [PyData.showable];refine eA (sG (aZ (uK h) hn) yd)
section
variable{X:Cx}(K:PySem.W.Frag)
theorem eE(h:X.K=K:=by rfl):LX X (XH K):=by subst h;exact aR
theorem PM(h:X.K=K:=by rfl):gW X (.builtin "len") (BS K):=by subst h;exact gI
theorem EY(hc:X.calm=true)(h:X.K=K:=by rfl):gW X (.builtin "sum") (JR K):=by subst h;exact LG hc
theorem UP(h:X.K=K:=by rfl):oK X (compareOp .In) (rIn K false):=by subst h;exact GI
end
end L2
namespace L2
open PySem
def uW(b:Bool)(h:Heap)(i l:Addr)(k:Nat):Prop:=∃o,h.get? i=some o/\o.cls=.type (bif b then "tuple_iterator" else "list_iterator")/\o.data=.fields #[.ref l,.int k 0]
def kP(b:Bool)(h:Heap)(l:Addr)(xs:Array Value):Prop:=∃o,h.get? l=some o/\o.cls=.type (bif b then "tuple" else "list")/\∃n,o.data=.seq xs n
theorem uW.at{b:Bool}{h h':Heap}{i l:Addr}{k:Nat}(x:uW b h i l k)(f:∀o,h.get? i=some o->h'.get? i=some o):uW b h' i l k:=let ⟨o,ho,r⟩:=x;⟨o,f o ho,r⟩
theorem kP.at{b:Bool}{h h':Heap}{l:Addr}{xs:Array Value}(x:kP b h l xs)(f:∀o,h.get? l=some o->h'.get? l=some o):kP b h' l xs:=let ⟨o,ho,r⟩:=x;⟨o,f o ho,r⟩
section
variable{prog:Program}{w:World}{A:Around}{E:Value->Shared->Prop}{s:Shared}
theorem xL{b:Bool}{it l:Addr}{i:Nat}{items:Array Value}{x:Value}{Q:Value->Shared->Prop}(hit:uW b s.heap it l i)(hl:kP b s.heap l items)(hx:items[i]?=some x)
  (hQ:∀h',uW b h' it l (i+1)->Heap.SameBut it s.heap h'->Q x { s with heap:=h' }):wpAny (model prog w) A (Builtin.SmallTypes.nextOf (.ref it)) Q E s:=by
 cases b with
 | false=>exact wpAny_nextOf_list_item hit hl hx hQ
 | true =>
  have ty:s.heap.IsTupleIter it l i:=hit;obtain ⟨o,ho,hc,hd⟩:=id ty;obtain ⟨ol,hol,_,nl,hdl⟩:=hl;unfold Builtin.SmallTypes.nextOf;refine wpAny_bind (wpAny_callSpecial?_slot (name:=Str.ofString "__next__") ty.typeIs F.slot_tuple_iterator_next (wpAny_call_entry F.slot_tuple_iterator_next ty.typeIs F.entry_tuple_iterator_next ?_ (F.args_tuple_iterator_next_1 _)));show wpAny _ _ (field (.ref it) 0 >>= _) _ _ s;refine wpAny_bind (wpAny_field ho hd (x:=.ref l) rfl ?_);show wpAny _ _ (if (Value.ref l == Value.none)=true then _ else _) _ _ s;rw [if_neg (show ¬((Value.ref l == Value.none)=true) from bD)];show wpAny _ _ (field (.ref it) 1 >>= _) _ _ s;refine wpAny_bind (wpAny_field ho hd (x:=.int i 0) rfl ?_);show wpAny _ _ (seqItems? (.ref l) >>= _) _ _ s;refine wpAny_bind (wpAny_seqItems hol hdl ?_);simp only [Int.toNat_natCast,hx];refine wpAny_bind (wpAny_setField ho hd (by simp) (wpAny_pure ⟨x,rfl,wpAny_pure (hQ _ ?_ (Heap.SameBut.update ..))⟩));refine ⟨_,Heap.get?_update_self _ ho (Obj.isFreed_of_fields (Obj.data_mapFields hd _)),(Obj.cls_mapFields ..).trans hc,?_⟩;rw [Obj.data_mapFields hd];simp [rawInt]
theorem KH{b:Bool}{it l:Addr}{i:Nat}{items:Array Value}{Q:Value->Shared->Prop}(hh:A.handled=none)(hit:uW b s.heap it l i)(hl:kP b s.heap l items)(hx:items[i]?=none)
  (hE:∀h' e,Heap.ExtBut it s.heap h'->(∃o,h'.get? e=some o/\o.cls=.type "StopIteration")->E (.ref e) { s with heap:=h' }):wpAny (model prog w) A (Builtin.SmallTypes.nextOf (.ref it)) Q E s:=by
 cases b with
 | false=>exact wpAny_nextOf_list_end hh hit hl hx hE
 | true =>
  have ty:s.heap.IsTupleIter it l i:=hit;obtain ⟨o,ho,hc,hd⟩:=id ty;obtain ⟨ol,hol,_,nl,hdl⟩:=hl;unfold Builtin.SmallTypes.nextOf;refine wpAny_bind (wpAny_callSpecial?_slot (name:=Str.ofString "__next__") ty.typeIs F.slot_tuple_iterator_next (wpAny_call_entry F.slot_tuple_iterator_next ty.typeIs F.entry_tuple_iterator_next ?_ (F.args_tuple_iterator_next_1 _)));show wpAny _ _ (field (.ref it) 0 >>= _) _ _ s;refine wpAny_bind (wpAny_field ho hd (x:=.ref l) rfl ?_);show wpAny _ _ (if (Value.ref l == Value.none)=true then _ else _) _ _ s;rw [if_neg (show ¬((Value.ref l == Value.none)=true) from bD)];show wpAny _ _ (field (.ref it) 1 >>= _) _ _ s;refine wpAny_bind (wpAny_field ho hd (x:=.int i 0) rfl ?_);show wpAny _ _ (seqItems? (.ref l) >>= _) _ _ s;refine wpAny_bind (wpAny_seqItems hol hdl ?_);simp only [Int.toNat_natCast,hx];refine wpAny_bind (wpAny_rule (wpAny_bind (wpAny_setField ho hd (by simp) ?_)));show wpAny _ _ (newExc (.type "StopIteration") [] >>= _) _ _ _;refine wpAny_bind ?_;simp only [newExc,newTuple];refine wpAny_bind (wpAny_newObj_type ?_ (by size_fits));refine wpAny_bind (m:=firstArgMember _ _) (wpAny_of_eq (a:=Value.none) (by first | rfl | (simp only [firstArgMember];rfl)) ?_);refine wpAny_newObj_type ?_ (by size_fits);simp only [raiseNew];refine wpAny_bind (wpAny_handled ?_)
  first | rw [show A.in1.handled=none from hh] | rw [hh]
  refine wpAny_bind (wpAny_pure (wpAny_throw ?_));exact hE _ _ (((Heap.SameBut.update ..).extBut.push _).push _) ⟨_,aS _ rfl,rfl⟩
structure RI(b1 b2:Bool)(z TI TO i1 i2 l1 l2:Addr)(f:Value)(k:Nat)(h:Heap):Prop where
 z:IsZip h z TI TO f
 ti:IsPair h TI (.ref i1) (.ref i2)
 to:∃a b,IsPair h TO a b
 i1:uW b1 h i1 l1 k
 i2:uW b2 h i2 l2 k
theorem FH{b1 b2:Bool}{z TI TO i1 i2 l1 l2:Addr}{k:Nat}{xs ys:Array Value}{x y:Value}{Q:Value->Shared->Prop}(D:ZipApart z TI TO i1 i2 l1 l2)(Z:RI b1 b2 z TI TO i1 i2 l1 l2 .none k s.heap)
  (hl1:kP b1 s.heap l1 xs) (hl2:kP b2 s.heap l2 ys) (hx:xs[k]?=some x) (hy:ys[k]?=some y)
  (hQ:∀h',RI b1 b2 z TI TO i1 i2 l1 l2 (rawInt s.heap.objs.size) (k+1) h'->IsPair h' s.heap.objs.size x y->(∀c o,c≠z->c≠TO->c≠i1->c≠i2->s.heap.get? c=some o->h'.get? c=some o)->Q (.ref s.heap.objs.size) { s with heap:=h' }) :
  wpAny (model prog w) A (Builtin.«zip.__next__» ⟨[.ref z],[]⟩) (λfin s'=>∃v,fin=.done (.ret v)/\Q v s') E s:=by
 obtain ⟨hz,hTI,⟨a,b,hTO⟩,h1,h2⟩:=Z;show wpAny _ _ (field (.ref z) 2 >>= _) _ _ _;refine wpAny_bind (wpAny_field hz rfl (x:=.bool false) rfl ?_);show wpAny _ _ (field (.ref z) 3 >>= _) _ _ _;refine wpAny_bind (wpAny_field hz rfl (x:=.ref TI) rfl ?_);refine wpAny_bind (wpAny_seqItems hTI rfl ?_);show wpAny _ _ (Builtin.SmallTypes.ownedTupleIsFree (.ref z) >>= _) _ _ _;refine wpAny_bind ?_;unfold Builtin.SmallTypes.ownedTupleIsFree;refine wpAny_bind (wpAny_field hz rfl (x:=.none) rfl (wpAny_pure ?_));simp only [if_true];refine wpAny_bind (wpAny_rule ?_);refine wpAny_bind (wpAny_field hz rfl (x:=.ref TO) rfl ?_);refine wpAny_bind (wpAny_setField_rec hz (by simp) λh₁ hz₁ hs₁=>?_);have g₁:=hs₁.extBut;replace hz₁:IsZip h₁ z TI TO .ellipsis:=hz₁;refine wpAny_bind ?_;simp only [List.zipIdx_cons,List.zipIdx_nil,List.forIn_cons,List.forIn_nil];refine wpAny_bind (wpAny_bind (wpAny_onRaise ?_));show wpAny _ _ (Builtin.SmallTypes.nextOf (.ref i1) >>= _) _ _ _;refine wpAny_bind (xL (h1.at λo e=>g₁ _ o D.i1z e) (hl1.at λo e=>g₁ _ o D.l1z e) hx λh₂ h1₂ hs₂=>wpAny_pure ?_);have g₂:=hs₂.extBut;have hTO₂:IsPair h₂ TO a b:=g₂ _ _ D.TOi1 (g₁ _ _ D.TOz hTO);refine wpAny_bind (wpAny_seqItems hTO₂ rfl ?_);refine wpAny_bind (wpAny_updateSeq_pair hTO₂ λh₃ hTO₃ hs₃=>?_);have g₃:=hs₃.extBut;replace hTO₃:IsPair h₃ TO x b:=hTO₃;refine wpAny_bind (wpAny_letGo (wpAny_pure ?_));refine wpAny_bind (wpAny_bind (wpAny_onRaise ?_));show wpAny _ _ (Builtin.SmallTypes.nextOf (.ref i2) >>= _) _ _ _
 refine wpAny_bind (xL (h2.at λo e=>g₃ _ o D.TOi2.symm (g₂ _ o D.i12.symm (g₁ _ o D.i2z e))) (hl2.at λo e=>g₃ _ o D.l2TO (g₂ _ o D.l2i1 (g₁ _ o D.l2z e))) hy λh₄ h2₄ hs₄=>wpAny_pure ?_);have g₄:=hs₄.extBut;have hTO₄:IsPair h₄ TO x b:=g₄ _ _ D.TOi2 hTO₃;refine wpAny_bind (wpAny_seqItems hTO₄ rfl ?_);refine wpAny_bind (wpAny_updateSeq_pair hTO₄ λh₅ hTO₅ hs₅=>?_);have g₅:=hs₅.extBut;replace hTO₅:IsPair h₅ TO x y:=hTO₅;refine wpAny_bind (wpAny_letGo (wpAny_pure (wpAny_pure ?_)));refine wpAny_bind (wpAny_seqItems hTO₅ rfl ?_);refine wpAny_bind (wpAny_newTuple ?_);have hsz:h₅.objs.size=s.heap.objs.size:=by rw [hs₅.1,hs₄.1,hs₃.1,hs₂.1,hs₁.1]
 have hz₅:IsZip h₅ z TI TO .ellipsis:=g₅ _ _ D.TOz.symm (g₄ _ _ D.i2z.symm (g₃ _ _ D.TOz.symm (g₂ _ _ D.i1z.symm hz₁)));have hk₅:∀c o,c≠z->c≠TO->c≠i1->c≠i2->s.heap.get? c=some o->h₅.get? c=some o:=λc o c1 c2 c3 c4 e=>g₅ _ _ c2 (g₄ _ _ c4 (g₃ _ _ c2 (g₂ _ _ c3 (g₁ _ _ c1 e))));have h1₅:uW b1 h₅ i1 l1 (k+1):=h1₂.at λo e=>g₅ _ o D.TOi1.symm (g₄ _ o D.i12 (g₃ _ o D.TOi1.symm e));have h2₅:uW b2 h₅ i2 l2 (k+1):=h2₄.at λo e=>g₅ _ o D.TOi2.symm e;have hzlt:=aV hz₅;show wpAny _ _ (Builtin.SmallTypes.ownedTupleHandOut (.ref z) (.ref h₅.objs.size) >>= _) _ _ _;refine wpAny_bind ?_;unfold Builtin.SmallTypes.ownedTupleHandOut;have hz₆:IsZip (h₅.push { cls:=.type "tuple",data:=.seq #[x,y] }) z TI TO .ellipsis:=aC _ hz₅;refine wpAny_bind (wpAny_setField_rec hz₆ (by simp) λh₇ hz₇ hs₇=>?_);replace hz₇:IsZip h₇ z TI TO (rawInt h₅.objs.size):=hz₇;refine wpAny_setField_rec hz₇ (by simp) λh₈ hz₈ hs₈=>?_;replace hz₈:IsZip h₈ z TI TO (rawInt h₅.objs.size):=hz₈;have up:∀c o,c≠z->h₅.get? c=some o->h₈.get? c=some o:=λc o c1 e=>hs₈.extBut _ _ c1 (hs₇.extBut _ _ c1 (aC _ e));have hT₈:IsPair h₈ h₅.objs.size x y:=hs₈.extBut _ _ (Nat.ne_of_gt hzlt) (hs₇.extBut _ _ (Nat.ne_of_gt hzlt) (aS _ rfl));rw [hsz] at hz₈ hT₈;refine wpAny_pure ⟨_,rfl,?_⟩;show Q (.ref h₅.objs.size) _;rw [hsz]
 exact hQ h₈ ⟨hz₈,up _ _ D.TIz (hk₅ _ _ D.TIz D.TITO D.TIi1 D.TIi2 hTI),⟨_,_,up _ _ D.TOz hTO₅⟩,h1₅.at λo e=>up _ o D.i1z e,h2₅.at λo e=>up _ o D.i2z e⟩ hT₈ λc o c1 c2 c3 c4 e=>up c o c1 (hk₅ c o c1 c2 c3 c4 e)
theorem IA{b1 b2:Bool}{z TI TO i1 i2 l1 l2:Addr}{k:Nat}{xs ys:Array Value}{Q:Fin->Shared->Prop}(hh:A.handled=none)(D:ZipApart z TI TO i1 i2 l1 l2)(Z:RI b1 b2 z TI TO i1 i2 l1 l2 .none k s.heap)
  (hl1:kP b1 s.heap l1 xs) (hl2:kP b2 s.heap l2 ys) (hend:xs[k]?=none\/ys[k]?=none)
  (hE:∀h' e,(∀c o,c≠z->c≠TO->c≠i1->c≠i2->s.heap.get? c=some o->h'.get? c=some o)->(∃o,h'.get? e=some o/\o.cls=.type "StopIteration")->E (.ref e) { s with heap:=h' }) :
  wpAny (model prog w) A (Builtin.«zip.__next__» ⟨[.ref z],[]⟩) Q E s:=by
 obtain ⟨hz,hTI,⟨a,b,hTO⟩,h1,h2⟩:=Z;show wpAny _ _ (field (.ref z) 2 >>= _) _ _ _;refine wpAny_bind (wpAny_field hz rfl (x:=.bool false) rfl ?_);show wpAny _ _ (field (.ref z) 3 >>= _) _ _ _;refine wpAny_bind (wpAny_field hz rfl (x:=.ref TI) rfl ?_);refine wpAny_bind (wpAny_seqItems hTI rfl ?_);show wpAny _ _ (Builtin.SmallTypes.ownedTupleIsFree (.ref z) >>= _) _ _ _;refine wpAny_bind ?_;unfold Builtin.SmallTypes.ownedTupleIsFree;refine wpAny_bind (wpAny_field hz rfl (x:=.none) rfl (wpAny_pure ?_));simp only [if_true];refine wpAny_bind (wpAny_rule ?_);refine wpAny_bind (wpAny_field hz rfl (x:=.ref TO) rfl ?_);refine wpAny_bind (wpAny_setField_rec hz (by simp) λh₁ hz₁ hs₁=>?_);have g₁:=hs₁.extBut;replace hz₁:IsZip h₁ z TI TO .ellipsis:=hz₁;refine wpAny_bind ?_;simp only [List.zipIdx_cons,List.zipIdx_nil,List.forIn_cons,List.forIn_nil];refine wpAny_bind (wpAny_bind (wpAny_onRaise ?_));show wpAny _ _ (Builtin.SmallTypes.nextOf (.ref i1) >>= _) _ _ _;cases hx:xs[k]? with
 | none =>
  refine wpAny_bind (KH hh (h1.at λo e=>g₁ _ o D.i1z e) (hl1.at λo e=>g₁ _ o D.l1z e) hx λh₂ e hs₂ he=>?_);obtain ⟨oe,hoe,hce⟩:=he;have hz₂:IsZip h₂ z TI TO .ellipsis:=hs₂ _ _ D.i1z.symm hz₁;have hez:e≠z:=λx=>by subst x;rw [hz₂] at hoe;cases hoe;simp at hce
  exact wpAny_setField_rec hz₂ (by simp) λh₃ _ hs₃=>hE h₃ e (λc o c1 _ c3 _ x=>hs₃.extBut _ _ c1 (hs₂ _ _ c3 (g₁ _ _ c1 x))) ⟨oe,hs₃.extBut _ _ hez hoe,hce⟩
 | some x =>
  have hy:ys[k]?=none:=by
   rcases hend with h | h
   ·rw [hx] at h;cases h
   ·exact h
  refine wpAny_bind (xL (h1.at λo e=>g₁ _ o D.i1z e) (hl1.at λo e=>g₁ _ o D.l1z e) hx λh₂ h1₂ hs₂=>wpAny_pure ?_);have g₂:=hs₂.extBut;have hTO₂:IsPair h₂ TO a b:=g₂ _ _ D.TOi1 (g₁ _ _ D.TOz hTO);refine wpAny_bind (wpAny_seqItems hTO₂ rfl ?_);refine wpAny_bind (wpAny_updateSeq_pair hTO₂ λh₃ hTO₃ hs₃=>?_);have g₃:=hs₃.extBut;refine wpAny_bind (wpAny_letGo (wpAny_pure ?_));refine wpAny_bind (wpAny_bind (wpAny_onRaise ?_));show wpAny _ _ (Builtin.SmallTypes.nextOf (.ref i2) >>= _) _ _ _;refine wpAny_bind (KH hh (h2.at λo e=>g₃ _ o D.TOi2.symm (g₂ _ o D.i12.symm (g₁ _ o D.i2z e))) (hl2.at λo e=>g₃ _ o D.l2TO (g₂ _ o D.l2i1 (g₁ _ o D.l2z e))) hy λh₄ e hs₄ he=>?_);obtain ⟨oe,hoe,hce⟩:=he;have hz₄:IsZip h₄ z TI TO .ellipsis:=hs₄ _ _ D.i2z.symm (g₃ _ _ D.TOz.symm (g₂ _ _ D.i1z.symm hz₁));have hez:e≠z:=λx=>by subst x;rw [hz₄] at hoe;cases hoe;simp at hce
  exact wpAny_setField_rec hz₄ (by simp) λh₅ _ hs₅=>hE h₅ e (λc o c1 c2 c3 c4 x=>hs₅.extBut _ _ c1 (hs₄ _ _ c4 (g₃ _ _ c2 (g₂ _ _ c3 (g₁ _ _ c1 x))))) ⟨oe,hs₅.extBut _ _ hez hoe,hce⟩
theorem FG{b1 b2:Bool}{z TI TO i1 i2 l1 l2:Addr}{k:Nat}{xs ys:Array Value}{x y:Value}{Q:Option Value->Shared->Prop}(D:ZipApart z TI TO i1 i2 l1 l2)(Z:RI b1 b2 z TI TO i1 i2 l1 l2 .none k s.heap)
  (hl1:kP b1 s.heap l1 xs) (hl2:kP b2 s.heap l2 ys) (hx:xs[k]?=some x) (hy:ys[k]?=some y)
  (hQ:∀h',RI b1 b2 z TI TO i1 i2 l1 l2 (rawInt s.heap.objs.size) (k+1) h'->IsPair h' s.heap.objs.size x y->(∀c o,c≠z->c≠TO->c≠i1->c≠i2->s.heap.get? c=some o->h'.get? c=some o)->Q (some (.ref s.heap.objs.size)) { s with heap:=h' }) :
  wpAny (model prog w) A (pyNext (.ref z)) Q E s:=by
 have hT:s.TypeIs (.ref z) "zip" := ⟨_,Z.z,rfl⟩;unfold pyNext;refine wpAny_bind (wpAny_attempt (wpAny_callSpecial?_slot (name:=Str.ofString "__next__") hT F.slot_zip_next (wpAny_call_entry F.slot_zip_next hT F.entry_zip_next ?_ (F.args_zip_next_1 _))));exact FH D Z hl1 hl2 hx hy λh' a1 a2 a3=>wpAny_pure (hQ h' a1 a2 a3)
theorem FF{b1 b2:Bool}{z TI TO i1 i2 l1 l2:Addr}{k:Nat}{xs ys:Array Value}{Q:Option Value->Shared->Prop}(hh:A.handled=none)(D:ZipApart z TI TO i1 i2 l1 l2)(Z:RI b1 b2 z TI TO i1 i2 l1 l2 .none k s.heap)
  (hl1:kP b1 s.heap l1 xs) (hl2:kP b2 s.heap l2 ys) (hend:xs[k]?=none\/ys[k]?=none)
  (hQ:∀h',(∀c o,c≠z->c≠TO->c≠i1->c≠i2->s.heap.get? c=some o->h'.get? c=some o)->Q none { s with heap:=h' }):wpAny (model prog w) A (pyNext (.ref z)) Q E s:=by
 have hT:s.TypeIs (.ref z) "zip" := ⟨_,Z.z,rfl⟩;unfold pyNext;refine wpAny_bind (wpAny_attempt (wpAny_callSpecial?_slot (name:=Str.ofString "__next__") hT F.slot_zip_next (wpAny_call_entry F.slot_zip_next hT F.entry_zip_next ?_ (F.args_zip_next_1 _))));refine IA hh D Z hl1 hl2 hend λh' e hk he=>?_;obtain ⟨o,ho,hc⟩:=he;refine wpAny_bind (wpAny_isInstance (T := "StopIteration") (b:=true) ⟨o,ho,hc⟩ isSubtype_stop ?_);exact wpAny_pure (hQ _ hk)
abbrev ZB(b:Bool)(l:Addr):Obj:={ cls:=.type (bif b then "tuple_iterator" else "list_iterator"),data:=.fields #[.ref l,.int 0 0] }
theorem QY{b:Bool}{l:Addr}{xs:Array Value}{Q:Value->Shared->Prop}(h:kP b s.heap l xs)(q:Q (.ref s.heap.objs.size) { s with heap:=s.heap.push (ZB b l) }):wpAny (model prog w) A (pyIter (.ref l)) Q E s:=by
 cases b with
 | false=>exact wpAny_pyIter_list h q
 | true=>exact wpAny_pyIter_tuple h q
end
end L2
namespace L2
open PySem PySem.Spec PyProof.Rows
section
variable{X:Cx}{pins:List (Addr × Obj)}{σ:St}{H:Hp}{s:Shared}{h':Heap}
theorem cA.turnedL{t':Nat}{fp:List Addr}(I:cA X pins σ H s)(k:∀b o,b ∉ fp->s.heap.get? b=some o->h'.get? b=some o)(hf:∀b∈fp,jB X pins H b):cA X pins σ H { s with heap:=h',toks:=t' }:=by
 have nit:∀b u,H b=some u->b ∉ fp:=λb u e z=>by rw [(hf b z).1] at e;cases e
 refine I.step (g':=s.gens) (d':=s.drawn) (ch:=fp) (λb hb=>?_) (λb o _ _ hc e _=>k b o hc e) (λb o _ _ hc e _=>⟨o.slots,k b o hc e⟩) (λ_ _ _ _ n=>n)
  (λb o hc e=>⟨o,k b o hc e⟩) (λ_ _ e=>e) (λ_ _ _ e=>e) (λb ps e=>⟨#[],by rw [e];simp⟩) (λm hm=>?_) (λb u e=>?_) I.bare
 ·obtain ⟨f0,f1,f2,f3,f4,f5⟩:=hf b hb;exact ⟨f3,f1,f4,f5⟩
 ·obtain ⟨o,es,ep,ho,r⟩:=hm;exact ⟨o,es,ep,k _ o (λz=>(hf _ z).2.1 rfl) ho,r⟩
 ·refine (I.hok b u e).stay (λc v hc q=>k c v ?_ q) (λ_ q=>q) λ_ _ q=>q;rcases hc with z | z
  ·rw [z];exact nit b u e
  ·exact nit c _ z
theorem Un.putE{fs ex:List Addr}{H H1:Hp}{h h1:Heap}{a:Addr}{u:HO}(x:Un fs ex H H1 h h1)(ha:h.get? a=none)(hn:H1 a=none):Un fs ex H (upd H1 a u) h h1 where
 keep:=x.keep
 slot:=x.slot
 free:=λb ob e n m=>by rw [cS (λz=>by subst z;rw [ha] at e;cases e)];exact x.free b ob e n m
 there:=x.there
 tups:=λb xs e=>by rw [cS (cL (x.tups b xs e) hn)];exact x.tups b xs e
 frzs:=λb ob xs e=>by rw [cS (cL (x.frzs b ob xs e) hn)];exact x.frzs b ob xs e
 tbls:=λb ps e=>by
  obtain ⟨m,q⟩:=x.tbls b ps e;exact ⟨m,by rw [cS (cL q hn)];exact q⟩
theorem mK.putE{P:Program}{w:World}{h:Heap}{a:Addr}{u:HO}(x:mK P w H h)(hn:H a=none)(new:dY P w (upd H a u) h a u):mK P w (upd H a u) h:=λb v e=>by
 by_cases hb:b=a
 ·subst hb;rw [bK] at e;cases e;exact new
 ·rw [cS hb] at e;exact (x b v e).stay (λc q _ r=>r) (λc q=>by rw [cS (cL q hn)];exact q) λc xs q=>by rw [cS (cL q hn)];exact q
theorem cA.put{a:Addr}{o:HO}(I:cA X pins σ H s)(f:jB X pins H a)(hs:X.s₀.heap.get? a=none)(new:dY X.prog X.w (upd H a o) s.heap a o):cA X pins σ (upd H a o) s :=
 ⟨I.ok,I.os,I.bare,I.base.putE hs f.1,I.loc,I.cell,by rw [cS (Ne.symm f.2.1)];exact I.free,λx c e=>by rw [cS (f.2.2.2.2.1 x c e)];exact I.freeC x c e,λp hp=>by
  obtain ⟨q1,q2,q3⟩:=I.pin p hp;exact ⟨q1,by rw [cS (f.2.2.2.2.2 p hp)];exact q2,q3⟩,mK.putE I.hok f.1 new,I.len⟩
def yE(b:Bool)(xs:List V):HO:=bif b then .tup xs else .lst xs
theorem yE.inj{b:Bool}{xs ys:List V}(h:some (yE b xs)=some (yE b ys)):xs=ys:=by
 cases b <;> (injection h with h;injection h)
theorem cA.sq{b:Bool}{a:Addr}{xs:List V}(I:cA X pins σ H s)(h:H a=some (yE b xs)):∃its:List Value,dA xs its/\kP b s.heap a its.toArray:=by
 cases b with
 | false=>obtain ⟨its,r,p,_⟩:=I.list (fE.of h);exact ⟨its,r,p.isList⟩
 | true=>obtain ⟨its,r,p,_⟩:=I.tuple (gK.of h);exact ⟨its,r,p⟩
end
def WL(b1 b2:Bool)(l1 l2:Addr):It :=
  ⟨λi H=>∃xs ys x y,H l1=some (yE b1 xs)/\H l2=some (yE b2 ys)/\xs[i]?=some x/\ys[i]?=some y,
   λi H v H'=>∃q x y,v=.ref q/\H q=none/\H'=upd H q (.tup [x,y])/\∀xs ys,H l1=some (yE b1 xs)->H l2=some (yE b2 ys)->xs[i]?=some x/\ys[i]?=some y,
   λi H=>∃xs ys,H l1=some (yE b1 xs)/\H l2=some (yE b2 ys)/\(xs.length<=i\/ys.length<=i)⟩
structure ZD(z TI TO i1 i2:Addr):Prop where
 TIz:TI≠z
 TOz:TO≠z
 i1z:i1≠z
 i2z:i2≠z
 TITO:TI≠TO
 TIi1:TI≠i1
 TIi2:TI≠i2
 TOi1:TO≠i1
 TOi2:TO≠i2
 i12:i1≠i2
theorem ZD.seq(n:Nat):ZD (n+4) (n+2) (n+3) n (n+1) where
 TIz:=λh=>absurd (show (n+2:Nat)=n+4 from h) Oo
 TOz:=λh=>absurd (show (n+3:Nat)=n+4 from h) Oo
 i1z:=λh=>absurd (show (n:Nat)=n+4 from h) Oo
 i2z:=λh=>absurd (show (n+1:Nat)=n+4 from h) Oo
 TITO:=λh=>absurd (show (n+2:Nat)=n+3 from h) Oo
 TIi1:=λh=>absurd (show (n+2:Nat)=n from h) Oo
 TIi2:=λh=>absurd (show (n+2:Nat)=n+1 from h) Oo
 TOi1:=λh=>absurd (show (n+3:Nat)=n from h) Oo
 TOi2:=λh=>absurd (show (n+3:Nat)=n+1 from h) Oo
 i12:=λh=>absurd (show (n:Nat)=n+1 from h) Oo
theorem ZD.all{z TI TO i1 i2 l1 l2:Addr}(d:ZD z TI TO i1 i2){H:Hp}{o1 o2:HO}(e1:H l1=some o1)(e2:H l2=some o2)(h:∀b∈[z,TI,TO,i1,i2],H b=none):ZipApart z TI TO i1 i2 l1 l2 :=
 ⟨d.TIz,d.TOz,d.i1z,d.i2z,d.TITO,d.TIi1,d.TIi2,d.TOi1,d.TOi2,d.i12,cL e1 (h _ (by simp)),cL e1 (h _ (by simp)),cL e1 (h _ (by simp)),cL e1 (h _ (by simp)),cL e2 (h _ (by simp)),cL e2 (h _ (by simp)),cL e2 (h _ (by simp)),cL e2 (h _ (by simp))⟩
theorem IQ{P:Program}{w:World}{K:PySem.W.Frag}{elts:List Expr}{x1}{tp:Pos}{b1 b2:Bool}{z TI TO i1 i2 l1 l2:Addr}(d:ZD z TI TO i1 i2):yC P w K (.Tuple elts x1 tp) (WL b1 b2 l1 l2) [z,TI,TO,i1,i2] z (λi h=>RI b1 b2 z TI TO i1 i2 l1 l2 .none i h) where
 mem:=by simp
 obj:=λi h st b hb=>by
  obtain ⟨a,b',ht⟩:=st.to;obtain ⟨o1,e1,_,d1⟩:=st.i1;obtain ⟨o2,e2,_,d2⟩:=st.i2;simp only [bE,List.not_mem_nil,or_false] at hb;rcases hb with rfl | rfl | rfl | rfl | rfl
  ·exact ⟨_,st.z,λv q=>by cases q⟩
  ·exact ⟨_,st.ti,λv q=>by cases q⟩
  ·exact ⟨_,ht,λv q=>by cases q⟩
  ·exact ⟨_,e1,λv q=>by rw [d1] at q;cases q⟩
  ·exact ⟨_,e2,λv q=>by rw [d2] at q;cases q⟩
 keep:=λi h h' st k=>by
  obtain ⟨a,b,ht⟩:=st.to;exact ⟨k _ (by simp) _ st.z,k _ (by simp) _ st.ti,⟨a,b,k _ (by simp) _ ht⟩,st.i1.at λo e=>k _ (by simp) o e,st.i2.at λo e=>k _ (by simp) o e⟩
 item:=by
  intro X hP hw hK hc i pins s σ H E I hf st hg;subst hP hw hK;obtain ⟨xs,ys,x,y,e1,e2,hx,hy⟩:=hg;obtain ⟨u1,r1,p1⟩:=I.sq e1;obtain ⟨u2,r2,p2⟩:=I.sq e2;obtain ⟨ux,hux,rx⟩:=r1.get hx;obtain ⟨uy,huy,ry⟩:=r2.get hy;have D:=d.all e1 e2 λb hb=>(hf b hb).1;refine FG D st p1 p2 (x:=ux) (y:=uy) (by simpa using hux) (by simpa using huy) λh' Z' hp hk=>?_;refine ⟨_,rfl,wpAny_letOwnedTupleGo_zip Z'.z λh2 hz2 hs2=>?_⟩;have kk:∀b o,b ∉ [z,TI,TO,i1,i2]->s.heap.get? b=some o->h2.get? b=some o:=λb o hb e=>by
   simp only [bE,List.not_mem_nil,or_false,not_or] at hb;exact hs2.extBut b o hb.1 (hk b o hb.1 hb.2.2.1 hb.2.2.2.1 hb.2.2.2.2 e)
  have I1:cA X pins σ H { s with heap:=h2 }:=I.turnedL (t':=s.toks) kk hf;have fq:jB X pins H s.heap.objs.size:=I.fpOk (aF _) (I.hok.fresh (aF _));have e0:X.s₀.heap.get? s.heap.objs.size=none:=by
   cases q:X.s₀.heap.get? s.heap.objs.size with
   | none=>rfl
   | some o=>exact absurd (aX (aV q) I.sz) (cE _)
  have nz:s.heap.objs.size≠z:=λq=>absurd (aV st.z) (by rw [<-q];exact cE _);obtain ⟨a,b,ht⟩:=Z'.to;refine ⟨.ref s.heap.objs.size,upd H s.heap.objs.size (.tup [x,y]),I1.put fq e0 ⟨⟨pD (by show 2<=64;decide),_,hs2.extBut _ _ nz hp,rfl⟩,[ux,uy],.cons rx (.cons ry .nil),⟨_,hs2.extBut _ _ nz hp,rfl,_,rfl⟩⟩,rfl,⟨_,x,y,rfl,fq.1,rfl,λxs' ys' q1 q2=>?_⟩,
   ⟨hz2,hs2.extBut _ _ d.TIz Z'.ti,⟨a,b,hs2.extBut _ _ d.TOz ht⟩,Z'.i1.at λo e=>hs2.extBut _ o d.i1z e,Z'.i2.at λo e=>hs2.extBut _ o d.i2z e⟩,λb hb=>?_⟩
  ·rw [e1] at q1;rw [e2] at q2;rw [<-yE.inj q1,<-yE.inj q2];exact ⟨hx,hy⟩
  ·have nb:b≠s.heap.objs.size:=λq=>by
    obtain ⟨a',b',ht'⟩:=st.to;obtain ⟨o1,e1',_⟩:=st.i1;obtain ⟨o2,e2',_⟩:=st.i2;have lt:∀{c o},s.heap.get? c=some o->c≠s.heap.objs.size:=λe=>dD (aV e);simp only [bE,List.not_mem_nil,or_false] at hb;rcases hb with rfl | rfl | rfl | rfl | rfl
    ·exact lt st.z q
    ·exact lt st.ti q
    ·exact lt ht' q
    ·exact lt e1' q
    ·exact lt e2' q
   rw [cS nb];exact (hf b hb).1
 done:=by
  intro X hP hw hK hc i pins s σ H E I hf st hg;subst hP hw hK;obtain ⟨xs,ys,e1,e2,hl⟩:=hg;obtain ⟨u1,r1,p1⟩:=I.sq e1;obtain ⟨u2,r2,p2⟩:=I.sq e2;have D:=d.all e1 e2 λb hb=>(hf b hb).1;have l1:=r1.length;have l2:=r2.length;have hend:u1.toArray[i]?=none\/u2.toArray[i]?=none:=by
   rcases hl with h | h
   ·left;simp;omega
   ·right;simp;omega
  refine FF (I.ok.hd hc) D st p1 p2 hend λh' hk=>⟨rfl,I.turnedL (t':=s.toks) (λb o hb e=>?_) hf⟩;simp only [bE,List.not_mem_nil,or_false,not_or] at hb;exact hk b o hb.1 hb.2.2.1 hb.2.2.2.1 hb.2.2.2.2 e
 self:=λ_ _ _ _ _ st h=>wpAny_pyIter_zip st.z h
abbrev zA(b:Bool)(h:Heap)(l:Addr):Heap:=h.push (ZB b l)
abbrev zB(b1 b2:Bool)(h:Heap)(l1 l2:Addr):Heap:=(zA b1 h l1).push (ZB b2 l2)
abbrev zC(b1 b2:Bool)(h:Heap)(l1 l2:Addr):Heap:=(zB b1 b2 h l1 l2).push { cls:=.type "tuple",data:=.seq #[.ref h.objs.size,.ref (zA b1 h l1).objs.size] }
abbrev zE(b1 b2:Bool)(h:Heap)(l1 l2:Addr):Heap:=(zC b1 b2 h l1 l2).push { cls:=.type "tuple",data:=.seq #[.none,.none] }
abbrev zF(b1 b2:Bool)(h:Heap)(l1 l2:Addr):Heap:=(zE b1 b2 h l1 l2).push { cls:=.type "zip",data:=.fields #[.none,.bool false,.bool false,.ref (zB b1 b2 h l1 l2).objs.size,.ref (zC b1 b2 h l1 l2).objs.size] }
theorem UT(b1 b2:Bool)(l1 l2:Addr)(xs ys:Array Value):Meets (Builtin.«zip.__new__» ⟨[.type "zip",.ref l1,.ref l2],[]⟩) (λ_ R s=>kP b1 s.heap l1 xs/\kP b2 s.heap l2 ys/\R (.ok (.ret (.ref (zE b1 b2 s.heap l1 l2).objs.size))) { s with heap:=zF b1 b2 s.heap l1 l2 }) :=
 .of_wp λprog w A R s h=>by
  obtain ⟨hp,g,d,tk,os⟩:=s;obtain ⟨hl1,hl2,h⟩:=h;have hsub:=sub_zip;have hL1:kP b1 (Shared.heap ⟨hp,g,d,tk,os⟩) l1 xs:=hl1;have hL2:kP b2 (Shared.heap ⟨hp.push (ZB b1 l1),g,d,tk,os⟩) l2 ys:=hl2.at λo e=>aC _ e
  wp_walk using QY hL1,QY hL2
  exact ⟨_,rfl,h⟩
section
variable{prog:Program}{w:World}{A:Around}{E:Value->Shared->Prop}{s:Shared}
theorem YK{b1 b2:Bool}{l1 l2:Addr}{xs ys:Array Value}{Q:Value->Shared->Prop}(hl1:kP b1 s.heap l1 xs)(hl2:kP b2 s.heap l2 ys)
  (h:∀h',RI b1 b2 (s.heap.objs.size+4) (s.heap.objs.size+2) (s.heap.objs.size+3) s.heap.objs.size (s.heap.objs.size+1) l1 l2 .none 0 h'->(∀c o,s.heap.get? c=some o->h'.get? c=some o)->Q (.ref (s.heap.objs.size+4)) { s with heap:=h' }) :
  wpAny (model prog w) A (call (.type "zip") [.ref l1,.ref l2]) Q E s:=by
 refine callType_new F.called_zip yd (F.typeCall_zip_2 _ _) (F.newCall_zip_2 _ _) (λobj=>F.args_object_init_3 obj _ _) F.entry_zip_new (UT b1 b2 l1 l2 xs ys) ⟨hl1,hl2,?_⟩;have z1:(zA b1 s.heap l1).objs.size=s.heap.objs.size+1:=kQ ..;have z2:(zB b1 b2 s.heap l1 l2).objs.size=s.heap.objs.size+2:=by rw [kQ,z1]
 have z3:(zC b1 b2 s.heap l1 l2).objs.size=s.heap.objs.size+3:=by rw [kQ,z2]
 have z4:(zE b1 b2 s.heap l1 l2).objs.size=s.heap.objs.size+4:=by rw [kQ,z3]
 have g5:(zF b1 b2 s.heap l1 l2).get? (zE b1 b2 s.heap l1 l2).objs.size=some _:=aS _ rfl;have g4:(zF b1 b2 s.heap l1 l2).get? (zC b1 b2 s.heap l1 l2).objs.size=some _:=aC _ (aS _ rfl);have g3:(zF b1 b2 s.heap l1 l2).get? (zB b1 b2 s.heap l1 l2).objs.size=some _:=aC _ (aC _ (aS _ rfl));have g2:(zF b1 b2 s.heap l1 l2).get? (zA b1 s.heap l1).objs.size=some _:=aC _ (aC _ (aC _ (aS _ rfl)));have g1:(zF b1 b2 s.heap l1 l2).get? s.heap.objs.size=some _:=aC _ (aC _ (aC _ (aC _ (aS _ rfl))));show _/\_;rw [z2,z3,z4] at g5;rw [z1,z2] at g3;rw [z3] at g4;rw [z1] at g2;rw [z4];exact ⟨⟨_,g5,rfl⟩,h _ ⟨g5,g3,⟨_,_,g4⟩,⟨_,g1,rfl,rfl⟩,⟨_,g2,rfl,rfl⟩⟩ λc o x=>aC _ (aC _ (aC _ (aC _ (aC _ x))))⟩
end
def YB(b1 b2:Bool)(ta:TA):TI:=λσ H R=>ta σ H λvs H1=>∃l1 l2 xs ys,vs=[.ref l1,.ref l2]/\H1 l1=some (yE b1 xs)/\H1 l2=some (yE b2 ys)/\R (WL b1 b2 l1 l2) H1
theorem LQ:bootBuiltins (Str.ofString "zip")=some (Value.type "zip"):=Kk
section
variable{X:Cx}
theorem UA{a b:Expr}{ta:TA}{p pos tp:Pos}{elts:List Expr}{x1}{b1 b2:Bool}(hg:Gl X "zip")(hm:X.mg "zip" = none)(ha:PA X [a,b] ta)(hs:starEach [a,b] X.env=[(false,eval a X.env),(false,eval b X.env)])(hs2:starEach [b] X.env=[(false,eval b X.env)]) :
  PI X (.Tuple elts x1 tp) (.Call (.Name "zip" p) [a,b] [] pos) (YB b1 b2 ta):=by
 intro pins s σ H R I h;refine Call_ (rG I hg hm LQ (PyProof.Rows.callWith_type1 (thn (ha pos pins s σ H _ I h) λus s1 ⟨vs,H1,I1,r1,q1⟩=>?_) (by rw [hs,hs2]) (by rw [hs2];rfl)));obtain ⟨l1,l2,xs,ys,e,e1,e2,q⟩:=q1;subst e;cases r1 with
 | cons r rr =>
  cases rr with
  | cons r' rr =>
   cases rr;cases r;cases r';obtain ⟨u1,_,p1⟩:=I1.sq e1;obtain ⟨u2,_,p2⟩:=I1.sq e2;refine YK p1 p2 λh' Z kk=>wpAny_pyIter_zip Z.z ?_;refine ⟨_,[s1.heap.objs.size+4,s1.heap.objs.size+2,s1.heap.objs.size+3,s1.heap.objs.size,s1.heap.objs.size+1],_,_,H1,rfl,I1.kept (t':=s1.toks) kk,IQ (ZD.seq _),Z,λb hb=>?_,q⟩;have hle:s1.heap.objs.size<=b:=by
    simp only [bE,List.not_mem_nil,or_false] at hb;rcases hb with rfl | rfl | rfl | rfl | rfl
    ·exact Nat.le_add_right _ _
    ·exact Nat.le_add_right _ _
    ·exact Nat.le_add_right _ _
    ·exact aF _
    ·exact Nat.le_add_right _ _
   exact I1.fpOk hle (I1.hok.fresh hle)
theorem BC(b1 b2:Bool){a b:Expr}{ta:TA}{p pos tp:Pos}{elts:List Expr}{x1}(hg:Gl X "zip")(hm:X.mg "zip" = none)(ha:HR X [a,b] ta)(hs:starEach [a,b] X.env=[(false,eval a X.env),(false,eval b X.env)]:=by rfl)(hs2:starEach [b] X.env=[(false,eval b X.env)]:=by first | exact gY | exact gZ | exact dN | rfl) :
  CP X (.Tuple elts x1 tp) (.Call (.Name "zip" p) [a,b] [] pos) (YB b1 b2 ta):=⟨UA hg hm ha.p hs hs2⟩
end
theorem EN{b1 b2:Bool}{l1 l2:Addr}{xs ys:List V}{g:TG}{tb:TS}{D:rX}{σ:St}{H:Hp}(Pv:Nat->St->Hp->Prop)(h0:Pv 0 σ H)(hl:∀i σ H,Pv i σ H->H l1=some (yE b1 xs)/\H l2=some (yE b2 ys))
  (hs:∀i x y q σ H H',xs[i]?=some x->ys[i]?=some y->Pv i σ H->H q=none->H' q=some (.tup [x,y])->aQ H H'->g (.ref q) σ H' λσ2 H2=>tb { D with nx:=Pv (i+1),ct:=Pv (i+1),bk:=D.nx } σ2 H2) (hd:∀σ H,Pv (min xs.length ys.length) σ H->D.nx σ H) :
  ∃W:Nat->Nat->St->Hp->Prop,(∃m,W 0 m σ H)/\∀i m σ H,W i m σ H ->
   ((WL b1 b2 l1 l2).stop i H/\D.nx σ H)\/((WL b1 b2 l1 l2).go i H/\∃N:St->Hp->Prop,(∀σ' H',N σ' H'->∃m',m' < m/\W (i+1) m' σ' H')/\∀x H',(WL b1 b2 l1 l2).yld i H x H'->g x σ H' λσ2 H2=>tb { D with nx:=N,ct:=N,bk:=D.nx } σ2 H2):=by
 refine ⟨λi m σ H=>m=min xs.length ys.length-i/\i<=min xs.length ys.length/\Pv i σ H,⟨_,rfl,cM _,h0⟩,?_⟩;rintro i m σ H ⟨rfl,hi,p⟩;obtain ⟨q1,q2⟩:=hl i σ H p;by_cases hlt:i<min xs.length ys.length
 ·have hx:xs[i]?=some xs[i]:=aB Oo;have hy:ys[i]?=some ys[i]:=aB Oo;refine .inr ⟨⟨xs,ys,_,_,q1,q2,hx,hy⟩,Pv (i+1),λσ' H' p'=>⟨_,Oo,rfl,hlt,p'⟩,λv H' y=>?_⟩;obtain ⟨q,x,y,rfl,hq,rfl,hh⟩:=y;obtain ⟨h1,h2⟩:=hh xs ys q1 q2;exact hs i x y q σ H _ h1 h2 p hq bK (aQ.upd hq)
 ·have e:i=min xs.length ys.length:=Oo;subst e;refine .inl ⟨⟨xs,ys,q1,q2,?_⟩,hd σ H p⟩;omega
end L2
namespace L2
open PySem
def mD:List Value->List Int->Bool
 | [],[]=>true
 | .int i _::vs,n::ns=>decide (i=n)&&mD vs ns
 | _,_=>false
def oJ(K:PySem.W.Frag)(a:Addr)(ns:List Int):Bool :=
 match K.lookup a with
 | some o=>(match o.cls with | .type n=>n == "tuple" | _=>false)&&(match o.data with | .seq xs _=>decide (xs.size<=64)&&mD xs.toList ns | _=>false)
 | none=>false
theorem mD.vals:∀{vs:List Value}{ns:List Int},mD vs ns=true->dA (ns.map V.int) vs
 | [],[],_=>.nil
 | v::vs,n::ns,h=>by
  cases v with
  | int i t =>
   have h':(decide (i=n)&&mD vs ns)=true:=h;rw [cN] at h';have e:=of_decide_eq_true h'.1;subst e;exact .cons ⟨t,rfl⟩ (mD.vals h'.2)
  | _=>cases h
 | [],_::_,h=>by cases h
 | v::_,[],h=>by cases v <;> cases h
theorem tG{K:PySem.W.Frag}{H:Hp}{a:Addr}{ns:List Int}(h:oJ K a ns=true):gK K H a (ns.map V.int):=by
 unfold oJ at h;split at h
 ·rename_i o ho
  rw [cN] at h;obtain ⟨h1,h2⟩:=h;split at h1
  ·rename_i n hn
   split at h2
   ·rename_i xs m hx
    rw [cN] at h2;have e:n = "tuple" := by simpa using h1
    subst e;exact .inr ⟨o,xs,m,ho,hn,hx,pD (of_decide_eq_true h2.1),mD.vals h2.2⟩
   ·cases h2
  ·cases h1
 ·cases h
theorem gK.keep{K:PySem.W.Frag}{H H':Hp}{a:Addr}{xs:List V}(s:aQ H H')(h:gK K H a xs):gK K H' a xs:=by
 rcases h with (h | ⟨o,h⟩) | h
 ·exact .inl (.inl (s _ _ h))
 ·exact .inl (.inr ⟨o,s _ _ h⟩)
 ·exact .inr h
section
variable{X:Cx}{pins:List (Addr × Obj)}{σ:St}{H:Hp}{s:Shared}
end
section
variable{X:Cx}
end
section
variable{K:PySem.W.Frag}{H:Hp}{p:Addr}{xs:List V}{i:Int}{v:V}{Q:VK}
theorem nM(h:gK K H p xs)(e:yF xs i=some v)(q:Q v H):XH K (.ref p) (.int i) H Q:=.inr (.inl ⟨p,xs,i,v,rfl,rfl,h,e,q⟩)
end
theorem xV(xs:List V)(k:Nat):nU xs (some (k:Int)) none=xs.drop k:=by
 unfold nU;rw [HT.xF,HT.tO];by_cases h:k<=xs.length
 ·rw [Nat.min_eq_left h];exact List.take_of_length_le (by rw [List.length_drop];exact aF _)
 ·rw [Nat.min_eq_right Oo,List.drop_of_length_le (aF _),List.drop_of_length_le Oo,List.take_nil]
theorem sW(xs:List V)(k:Nat):nU xs none (some (k:Int))=xs.take k:=by
 unfold nU;rw [HT.xF,HT.tO,List.drop_zero,Nat.sub_zero];by_cases h:k<=xs.length
 ·rw [Nat.min_eq_left h]
 ·rw [Nat.min_eq_right Oo,List.take_of_length_le (aF _),List.take_of_length_le Oo]
@[irreducible] def NI(K:PySem.W.Frag):V->Option Int->Option Int->Hp->VK->Prop:=XD K
theorem nB{X:Cx}(K:PySem.W.Frag)(h:X.K=K:=by rfl):WJ X (NI K):=by subst h;unfold NI;exact DJ
theorem WZ{K:PySem.W.Frag}{H:Hp}{a:Addr}{xs ys:List V}{lo hi:Option Int}{Q:VK}(h:H a=some (.lst xs))(e:nU xs lo hi=ys)(k:∀q H',H q=none->H' q=some (.lst ys)->aQ H H'->Q (.ref q) H'):NI K (.ref a) lo hi H Q:=by
 unfold NI;exact ⟨a,xs,rfl,fE.of h,λp hp=>by rw [e];exact k p _ hp bK (aQ.upd hp)⟩
section
variable{σ:St}{js:List Nat}{te:TE}{H:Hp}{Q:VK}
theorem pC{R:Nat->V->Prop}{ys:List V}{y:V}(h:∀(j:Nat) z,ys[j]?=some z->R j z)(r:R ys.length y):∀(j:Nat) z,(ys++[y])[j]?=some z->R j z:=λj z hj=>by
 by_cases hji:j<ys.length
 ·rw [List.getElem?_append_left hji] at hj;exact h j z hj
 ·rw [List.getElem?_append_right Oo] at hj;have:j-ys.length=0:=by
   by_cases q:j-ys.length=0
   ·exact q
   ·rw [dI (by simp;omega)] at hj;cases hj
  rw [this] at hj;have hj':y=z:=by simpa using hj
  have:j=ys.length:=Oo;subst this hj';exact r
theorem nP{J:It}{n:Nat}(src:Nat->V->Prop)(R:Nat->V->Hp->Prop)(hR:∀i y H1 H2,cQ H1 H2->R i y H1->R i y H2)(hz:n<=100000)
  (hg:∀i H',aQ H H'->i<n->J.go i H'/\∀x H3,J.yld i H' x H3->H3=H'/\src i x) (hst:∀H',aQ H H'->J.stop n H')
  (hs:∀i x H' (Q':VK),src i x->i<n->aQ H H'->(∀y H5,aQ H' H5->R i y H5->Q' y H5)->te (some x::slots σ js) H' Q')
  (hd:∀D ys H',H D=none->H' D=some (.lst ys)->aQ H H'->ys.length=n->(∀(i:Nat) (y:V),ys[i]?=some y->R i y H')->Q (.ref D) H'):jC J σ js oT te H Q:=by
 refine uH (J:=J) (n:=n) src hz (λD i ys H'=>H D=none/\aQ H H'/\∀(i:Nat) (y:V),ys[i]?=some y->R i y H') (λD H1 hD _ s=>⟨hD,s,λi y h=>by simp at h⟩)
  (λD i ys H' hi _ p=>hg i H' p.2.1 hi) (λD ys H' _ p=>hst H' p.2.1) (λD i x ys H' hx hi hy hD p=>?_) (λD ys H' hy hD hD' p=>hd D ys H' hD hD' p.2.1 hy p.2.2)
 refine hs i x H' _ hx hi p.2.1 λy H5 s5 r=>?_;refine ⟨s5 _ _ hD,λH6 hD6 s6=>⟨p.1,aQ.thru p.1 (p.2.1.trans s5) s6,?_⟩⟩;have t6:=s6.t (s5 _ _ hD);exact pC (R:=λj z=>R j z H6) (λj z hj=>hR j z _ _ (s5.t.trans t6) (p.2.2 j z hj)) (by rw [hy];exact hR i y _ _ t6 r)
theorem nQ{K:PySem.W.Frag}{a:Addr}{xs:List V}(R:Nat->V->Hp->Prop)(hR:∀i y H1 H2,cQ H1 H2->R i y H1->R i y H2)(hz:xs.length<=100000)(hl:H a=some (.lst xs))
  (hs:∀i x H' (Q':VK),xs[i]?=some x->aQ H H'->(∀y H5,aQ H' H5->R i y H5->Q' y H5)->te (some x::slots σ js) H' Q')
  (hd:∀D ys H',H D=none->H' D=some (.lst ys)->aQ H H'->ys.length=xs.length->(∀(i:Nat) (y:V),ys[i]?=some y->R i y H')->Q (.ref D) H'):jC (MG K a) σ js oT te H Q :=
 nP (λi x=>xs[i]?=some x) R hR hz (λi H' s hi=>⟨⟨xs,xs[i],fE.of (s _ _ hl),by simp [hi]⟩,λx H3 y=>⟨y.1,y.2 xs (fE.of (s _ _ hl))⟩⟩) (λH' s=>⟨xs,fE.of (s _ _ hl),aF _⟩)
  (λi x H' Q' hx _ s k=>hs i x H' Q' hx s k) hd
theorem nO{K:PySem.W.Frag}{a:Addr}{xs:List V}(R:Nat->V->Hp->Prop)(hR:∀i y H1 H2,cQ H1 H2->R i y H1->R i y H2)(hz:xs.length<=100000)(hl:H a=some (.tup xs))
  (hs:∀i x H' (Q':VK),xs[i]?=some x->aQ H H'->(∀y H5,aQ H' H5->R i y H5->Q' y H5)->te (some x::slots σ js) H' Q')
  (hd:∀D ys H',H D=none->H' D=some (.lst ys)->aQ H H'->ys.length=xs.length->(∀(i:Nat) (y:V),ys[i]?=some y->R i y H')->Q (.ref D) H'):jC (WM K a) σ js oT te H Q :=
 nP (λi x=>xs[i]?=some x) R hR hz (λi H' s hi=>⟨⟨xs,xs[i],gK.of (s _ _ hl),by simp [hi]⟩,λx H3 y=>⟨y.1,y.2 xs (gK.of (s _ _ hl))⟩⟩) (λH' s=>⟨xs,gK.of (s _ _ hl),aF _⟩)
  (λi x H' Q' hx _ s k=>hs i x H' Q' hx s k) hd
theorem jN{lo:Int}{n:Nat}(R:Nat->V->Hp->Prop)(hR:∀i y H1 H2,cQ H1 H2->R i y H1->R i y H2)(hz:n<=100000)
  (hs:∀i H' (Q':VK),i<n->aQ H H'->(∀y H5,aQ H' H5->R i y H5->Q' y H5)->te (some (.int (lo+(i:Nat)))::slots σ js) H' Q')
  (hd:∀D ys H',H D=none->H' D=some (.lst ys)->aQ H H'->ys.length=n->(∀(i:Nat) (y:V),ys[i]?=some y->R i y H')->Q (.ref D) H'):jC (QE lo n) σ js oT te H Q :=
 nP (λi x=>x=.int (lo+(i:Nat))) R hR hz (λi H' s hi=>⟨hi,λx H3 y=>y⟩) (λH' s=>aF _)
  (λi x H' Q' hx hi s k=>by subst hx;exact hs i H' Q' hi s k) hd
structure qG(p L:Addr)(Fd:Hp->Prop):Prop where
 but:∀D H1 H2,D≠p->D≠L->aN D H1 H2->Fd H1->Fd H2
 same:∀H1 H2,aQ H1 H2->Fd H1->Fd H2
 lst:∀H',Fd H'->∃xs,H' p=some (.lst xs)
 np:∀H' D,Fd H'->H' D=none->D≠p/\D≠L
theorem aN.thru{p l:Addr}{H0 H1 H2:Hp}(hl:H0 l=none)(s:aN p H0 H1)(b:aN l H1 H2):aN p H0 H2:=λc o e=>by
 have n:=fV.ne e;have e0:H0 c=some o:=by rw [fV.at n] at e;exact e
 have nl:c≠l:=λz=>by subst z;rw [hl] at e0;cases e0
 exact fV.of n (b.at nl (s.at n e0))
theorem EV{J:It}{n:Nat}{p L:Addr}{Fd:Hp->Prop}(fl:qG p L Fd)(F0:Fd H)(src:Nat->V->Prop)(R:Nat->V->Hp->Prop)(hR:∀i y H1 H2,cQ H1 H2->R i y H1->R i y H2)(hz:n<=100000)
  (hg:∀i H',aN p H H'->i<n->J.go i H'/\∀x H3,J.yld i H' x H3->H3=H'/\src i x) (hst:∀H',aN p H H'->J.stop n H')
  (hs:∀i x H' (Q':VK),src i x->i<n->Fd H'->aN p H H'->(∀y H5,Fd H5->aN p H' H5->R i y H5->Q' y H5)->te (some x::slots σ js) H' Q')
  (hd:∀D ys H',H D=none->H' D=some (.lst ys)->Fd H'->aN p H H'->ys.length=n->(∀(i:Nat) (y:V),ys[i]?=some y->R i y H')->Q (.ref D) H'):jC J σ js oT te H Q:=by
 refine uH (J:=J) (n:=n) src hz (λD i ys H'=>H D=none/\Fd H'/\aN p H H'/\∀(i:Nat) (y:V),ys[i]?=some y->R i y H') (λD H1 hD _ s=>⟨hD,fl.same _ _ s F0,s.but,λi y h=>by simp at h⟩)
  (λD i ys H' hi _ q=>hg i H' q.2.2.1 hi) (λD ys H' _ q=>hst H' q.2.2.1) (λD i x ys H' hx hi hy hD q=>?_) (λD ys H' hy hD hD' q=>hd D ys H' hD hD' q.2.1 q.2.2.1 hy q.2.2.2)
 obtain ⟨np,nL⟩:=fl.np H D F0 q.1;refine hs i x H' _ hx hi q.2.1 q.2.2.1 λy H5 F5 s5 r=>?_;obtain ⟨xs,hp⟩:=fl.lst H' q.2.1;have hD5:=s5.at np hD;refine ⟨hD5,λH6 hD6 s6=>⟨q.1,fl.but D _ _ np nL s6 F5,aN.thru q.1 (q.2.2.1.trans s5) s6,?_⟩⟩;have t6:=s6.t hD5;exact pC (R:=λj z=>R j z H6) (λj z hj=>hR j z _ _ ((s5.t hp).trans t6) (q.2.2.2 j z hj)) (by rw [hy];exact hR i y _ _ t6 r)
theorem LF{K:PySem.W.Frag}{a:Addr}{xs:List V}{p L:Addr}{Fd:Hp->Prop}(fl:qG p L Fd)(F0:Fd H)(R:Nat->V->Hp->Prop)(hR:∀i y H1 H2,cQ H1 H2->R i y H1->R i y H2)(hz:xs.length<=100000)(na:a≠p)(hl:H a=some (.lst xs))
  (hs:∀i x H' (Q':VK),xs[i]?=some x->Fd H'->aN p H H'->(∀y H5,Fd H5->aN p H' H5->R i y H5->Q' y H5)->te (some x::slots σ js) H' Q')
  (hd:∀D ys H',H D=none->H' D=some (.lst ys)->Fd H'->aN p H H'->ys.length=xs.length->(∀(i:Nat) (y:V),ys[i]?=some y->R i y H')->Q (.ref D) H'):jC (MG K a) σ js oT te H Q :=
 EV fl F0 (λi x=>xs[i]?=some x) R hR hz (λi H' s hi=>⟨⟨xs,xs[i],fE.of (s.at na hl),by simp [hi]⟩,λx H3 y=>⟨y.1,y.2 xs (fE.of (s.at na hl))⟩⟩) (λH' s=>⟨xs,fE.of (s.at na hl),aF _⟩)
  (λi x H' Q' hx _ f s k=>hs i x H' Q' hx f s k) hd
theorem AL{lo:Int}{n:Nat}{p L:Addr}{Fd:Hp->Prop}(fl:qG p L Fd)(F0:Fd H)(R:Nat->V->Hp->Prop)(hR:∀i y H1 H2,cQ H1 H2->R i y H1->R i y H2)(hz:n<=100000)
  (hs:∀i H' (Q':VK),i<n->Fd H'->aN p H H'->(∀y H5,Fd H5->aN p H' H5->R i y H5->Q' y H5)->te (some (.int (lo+(i:Nat)))::slots σ js) H' Q')
  (hd:∀D ys H',H D=none->H' D=some (.lst ys)->Fd H'->aN p H H'->ys.length=n->(∀(i:Nat) (y:V),ys[i]?=some y->R i y H')->Q (.ref D) H'):jC (QE lo n) σ js oT te H Q :=
 EV fl F0 (λi x=>x=.int (lo+(i:Nat))) R hR hz (λi H' s hi=>⟨hi,λx H3 y=>y⟩) (λH' s=>aF _)
  (λi x H' Q' hx hi f s k=>by subst hx;exact hs i H' Q' hi f s k) hd
end
theorem bF.ofIdx{H:Hp}:∀{ds:List PyData}{ys:List V},ys.length=ds.length->(∀(i:Nat) (y:V),ys[i]?=some y->∃d,ds[i]?=some d/\cB H d y)->bF H ds ys
 | [],[],_,_=>bF.nil
 | d::ds,y::ys,hl,h=>by
  obtain ⟨d',e,r⟩:=h 0 y rfl;cases (show d=d' by simpa using e);exact bF.cons r (bF.ofIdx (by simpa using hl) λi z hz=>by simpa using h (i+1) z (by simpa using hz))
 | [],_::_,hl,_=>by simp at hl
 | _::_,[],hl,_=>by simp at hl
theorem pM{P:Nat->Int->Prop}:∀{ys:List V},(∀(i:Nat) (y:V),ys[i]?=some y->∃n,y=.int n/\P i n)->∃ns:List Int,ys=ns.map V.int/\∀(i:Nat) n,ns[i]?=some n->P i n
 | [],_=>⟨[],rfl,λi n h=>by simp at h⟩
 | y::ys,h=>by
  obtain ⟨n,rfl,hn⟩:=h 0 y rfl;obtain ⟨ns,rfl,hs⟩:=pM (P:=λi=>P (i+1)) (ys:=ys) λi z hz=>h (i+1) z (by simpa using hz);refine ⟨n::ns,rfl,λi m hm=>?_⟩;cases i with
  | zero=>cases (show n=m by simpa using hm);exact hn
  | succ i=>exact hs i m (by simpa using hm)
end L2
namespace L2
open PySem PySem.Spec PyProof.Rows
theorem jL.u1{k:Nat}{A:Around}(r:jL k A):A.units+1<cLine:=by have:=r.units;omega
@[irreducible] def WG:R2:=λx y H Q=>∃a v,x=.ref a/\mG H a y (some v)/\Q v H
@[irreducible] def YX(D:rX)(σ:St)(x y v:V)(H:Hp):Prop:=∃a H4,x=.ref a/\HU H a y v H4/\D.nx σ H4
def QP(td ty tv:TE):TS:=λD σ H=>tv σ H λv H1=>td σ H1 λx H2=>ty σ H2 λy H3=>YX D σ x y v H3
section
variable{X:Cx}{o i value k v:Expr}{td ty tv tk:TE}{pos pos':Pos}{ks:List (Option Expr)}{vs:List Expr}{trs:List (TE × TE)}
theorem lO(hu:X.A.units+1<cLine)(ho:gA X o td)(hi:gA X i ty)(hs:WA i:=by intro _ _;rfl):gA X (.Subscript o i pos) (MS WG td ty):=⟨by unfold WG;exact OC hu ho.p hi.p hs⟩
theorem sM(hu:X.A.units+1<cLine)(ho:gA X o td)(hi:gA X i ty)(hv:gA X value tv)(hs:swapsWith value (some (.Subscript o i pos')) pos.line X.env=pure false:=by rfl) :
  FD X (.Assign [.Subscript o i pos'] value pos) (QP td ty tv):=⟨by unfold QP YX;exact NW hu ho.p hi.p hv.p hs⟩
end
section
variable{σ:St}{js:List Nat}{te:TE}{H:Hp}{Q:VK}
end
section
variable{X:Cx}
@[irreducible] def DV(K:PySem.W.Frag):R2:=λx y H Q=>∃a b xs ys,x=.ref a/\y=.ref b/\H a=some (.tup xs)/\H b=some (.tup ys)/\xs.length+ys.length<=1000/\∀c H',aQ H H'->H' c=some (.tup (xs++ys))->Q (.ref c) H'
theorem LK{K:PySem.W.Frag}{H:Hp}{Q:VK}{a b:Addr}{xs ys:List V}(h1:H a=some (.tup xs))(h2:H b=some (.tup ys))(hz:xs.length+ys.length<=1000)(k:∀c H',aQ H H'->H' c=some (.tup (xs++ys))->Q (.ref c) H'):DV K (.ref a) (.ref b) H Q:=by
 unfold DV;exact ⟨a,b,xs,ys,rfl,rfl,h1,h2,hz,k⟩
theorem pH(K:PySem.W.Frag)(hK:X.K=K:=by rfl):oK X (binaryOp .Add) (DV K):=by
 subst hK;unfold DV;intro pins s σ H x y v u Q I rx ry h;obtain ⟨a,b,xs,ys,rfl,rfl,ha,hb,hz,q⟩:=h;by_cases hx:xs=[]
 ·cases rx;cases ry;subst hx;obtain ⟨its,r1,p1,_⟩:=I.tuple (gK.of ha);obtain ⟨its2,r2,p2,_⟩:=I.tuple (gK.of hb);cases r1;obtain ⟨⟨cls,dd,data,sl⟩,ho,hc,n,hd⟩:=id p1;obtain ⟨⟨cls2,dd2,data2,sl2⟩,ho2,hc2,n2,hd2⟩:=id p2;simp only at hc hd hc2 hd2;subst hc hd hc2 hd2;exact concat_meets ⟨_,ho,rfl⟩ ⟨_,ho2,rfl⟩ noFill_tuple_add seq_tuple_add PySem.F.slot_tuple_add PySem.F.entry_tuple_add (PySem.F.args_tuple_add_2 _ _)
   (tuple_addW0 a b _ _ n n2 dd dd2 sl sl2 rfl) ⟨ho,ho2,⟨.ref b,H,I,rfl,q b H (aQ.refl _) hb⟩⟩
 ·refine OJ pins s σ H _ _ v u Q I rx ry ⟨a,b,xs,ys,rfl,rfl,gK.of ha,gK.of hb,hx,aZ hz yd,λe=>?_,λ_ p hp=>q p _ (aQ.upd hp) bK⟩;subst e;exact q a H (aQ.refl _) (by rw [List.append_nil];exact ha)
end
theorem uA(a:Int)(t:Tok)(l:Addr)(items:Array Value)(n:Nat)(dd:Option Addr)(sl:Array (Option Value)) :
  Meets (Builtin.«int.__rmul__» ⟨[.int a t,.ref l],[]⟩) (λ_ R s=>s.heap.get? l=some { cls:=.type "tuple",dict:=dd,data:=.seq items n,slots:=sl }/\R (.ok (.ret Value.notImplemented)) s) :=
 .of_wp λprog w A R s h=>by
  obtain ⟨hp,g,d,tk,os⟩:=s;obtain ⟨hl,h⟩:=h
  wp_walk
  exact ⟨_,rfl,h⟩
theorem BH(l:Addr)(items:Array Value)(n:Nat)(dd:Option Addr)(sl:Array (Option Value))(k:Int)(u:Tok)(h0:2<=k)(h1:k<=64)(he:items.isEmpty=false)(hz:items.size<=64)(hsz:((List.replicate k.toNat items).foldl (· ++ ·) #[]).size<=sizeLine) :
  Meets (Builtin.«tuple.__mul__» ⟨[.ref l,.int k u],[]⟩) (λ_ R s=>s.heap.get? l=some { cls:=.type "tuple",dict:=dd,data:=.seq items n,slots:=sl }/\R (.ok (.ret (.ref s.heap.objs.size))) { s with heap:=s.heap.push { cls:=.type "tuple",data:=.seq ((List.replicate k.toNat items).foldl (· ++ ·) #[]) } }) :=
 .of_wp λprog w A R s h=>by
  obtain ⟨hp,g,d,tk,os⟩:=s;obtain ⟨hl,h⟩:=h;have f1:=AutoSeq1.idx_int
  wp_walk using wpAny_loadPart' hl
  rw [if_neg (by simp;omega)]
  wp_walk using wpAny_loadPart' hl
  have he':¬items=#[]:=λz=>by simp [z] at he
  have hm:(items.size:Int)*k<=4096:=by
   have h2:(items.size:Int)*k<=64*64:=Int.mul_le_mul Oo h1 Oo Oo;omega
  rw [if_neg (by simp;exact ⟨he',Oo⟩)];rw [if_neg (by simp;exact ⟨Oo,he'⟩)];show wpAny _ _ (if (items.size:Int)*k > (2^63-1)/8 then _ else _) _ _ _;rw [if_neg Oo];show wpAny _ _ (if Builtin.Tuple.tupleTooMany (items.size*k)=true then _ else _) _ _ _;rw [if_neg (by unfold Builtin.Tuple.tupleTooMany;simp;exact Int.le_trans hm yd)]
  wp_walk
  exact ⟨_,rfl,h⟩
theorem rA:fillsNumberSlot (.type "tuple") "mul" = pure false:=PySem.fillsNumberSlot_seq (id := "tuple.__mul__") (r:=some (.builtin "tuple.__rmul__")) F.slot_tuple_mul.lookup Kk F.slot_tuple_rmul.lookup Kk
theorem xI:seqRepeat? (.type "tuple")=pure (some (.builtin "tuple.__mul__")):=by
 unfold seqRepeat?;rw [PySem.seqSlot_of (T := "tuple") (name := "__mul__") (id := "tuple.__mul__") F.slot_tuple_mul.lookup Kk,PySem.seqSlot_of (T := "tuple") (name := "__rmul__") (id := "tuple.__rmul__") F.slot_tuple_rmul.lookup Kk];rfl
@[irreducible] def DT:R2:=λx y H Q=>∃a z,∃k:Nat,x=.ref a/\y=.int (k:Int)/\H a=some (.tup [z])/\2<=k/\k<=64/\∀c H',aQ H H'->H' c=some (.tup (List.replicate k z))->Q (.ref c) H'
theorem aAG{H:Hp}{Q:VK}{a:Addr}{z:V}{k:Nat}(h:H a=some (.tup [z]))(h2:2<=k)(hk:k<=64)(q:∀c H',aQ H H'->H' c=some (.tup (List.replicate k z))->Q (.ref c) H'):DT (.ref a) (.int (k:Int)) H Q:=by
 unfold DT;exact ⟨a,z,k,rfl,rfl,h,h2,hk,q⟩
section
variable{X:Cx}
theorem OI:oK X (binaryOp .Mult) DT:=by
 unfold DT;intro pins s σ H x y v u Q I rx ry h;obtain ⟨a,z,k,rfl,rfl,hH,h2,hk,q⟩:=h;cases rx;obtain ⟨t,rfl⟩:=(show ∃t,u=Value.int (k:Int) t from ry);obtain ⟨its,r,p,_⟩:=I.tuple (gK.of hH);obtain ⟨w1,rfl,rw1⟩:=mO r;obtain ⟨⟨cls,dd,data,sl⟩,ho,hc,n,hd⟩:=id p;simp only at hc hd;subst hc hd;have flat1:∀k:Nat,(List.replicate k [w1]).flatten=List.replicate k w1:=λk=>by
  induction k with
  | zero=>rfl
  | succ k ih=>rw [List.replicate_succ,List.flatten_cons,ih,List.replicate_succ];rfl
 have f0:List.foldl (λx1 x2=>x1++x2) #[] (List.replicate k [w1].toArray)=(List.replicate k w1).toArray:=by
  have:=vU [w1] k [];rw [List.nil_append,flat1] at this;exact this
 have vr:∀k:Nat,dA (List.replicate k z) (List.replicate k w1):=λk=>by
  induction k with
  | zero=>exact .nil
  | succ k ih=>exact .cons rw1 ih
 generalize hk':(k:Int)=kk;have hkk:kk.toNat=k:=Oo;refine wpAny_binaryOp_repeat_ref (T := "tuple") (U := "int") yd ⟨_,ho,rfl⟩ (λs'=>typeIs_int s' kk t) rA F.fills_int_mul F.slot_int_rmul xI F.slot_int_index.lookup
  (call_meets F.slot_int_rmul (typeIs_int s kk t) F.entry_int_rmul (F.args_int_rmul_2 _ _) (uA kk t a [w1].toArray n dd sl) ⟨ho,rfl,⟨_,ho,rfl⟩,?_⟩)
 refine call_meets F.slot_tuple_mul ⟨_,ho,rfl⟩ F.entry_tuple_mul (F.args_tuple_mul_2 _ _) (BH a [w1].toArray n dd sl kk t Oo Oo rfl (by show 1<=64;decide) (by rw [hkk,f0,aU,cY];exact aZ hk yd)) ⟨ho,?_⟩;rw [hkk,f0];refine ⟨.ref _,_,I.laid (t':=s.toks) (o:=.tup (List.replicate k z)) (λb ob q=>aC _ q) (aF _) ?_,rfl,q _ _ (aQ.upd (I.hok.fresh (aF _))) bK⟩;exact ⟨⟨by rw [cY];exact pD hk,_,aS _ rfl,rfl⟩,_,vr k,IsTup.new _ _⟩
end
@[irreducible] def NM:V->List V->Hp->VK->Prop:=DU
theorem US{X:Cx}:YQ X "list.extend" NM:=by unfold NM;exact GK
theorem aAQ{H:Hp}{l b:Addr}{xs zs:List V}{Q:VK}(h:H l=some (.lst xs))(h2:H b=some (.lst zs))(hz:xs.length+zs.length<=1000)(k:∀H',H' l=some (.lst (xs++zs))->aN l H H'->Q .non H'):NM (.ref l) [.ref b] H Q:=by
 unfold NM;exact ⟨l,b,xs,zs,rfl,rfl,h,h2,Nat.le_of_lt (qP hz),k _ bK aN.self⟩
section
variable{prog:Program}{w:World}{A:Around}{E:Value->Shared->Prop}{s:Shared}{l:Addr}{xs:Array (Int × Tok)}
end
section
variable{js:List Nat}{te:TE}{tc:TT}{σ:St}{H:Hp}{Q:VK}
theorem bF.atI{α:Type}{g:α->PyData}:∀{as:List α}{xs:List V},bF H (as.map g) xs->∀{i:Nat}{x:V},xs[i]?=some x->∃a,as[i]?=some a/\cB H (g a) x:=by
 intro as xs r i x e;obtain ⟨d,h1,h2⟩:=r.get e;rw [aI] at h1;cases q:as[i]? with
 | none=>rw [q] at h1;cases h1
 | some a=>rw [q] at h1;cases h1;exact ⟨a,rfl,h2⟩
theorem HB{K:PySem.W.Frag}{a:Addr}{xs:List V}{α:Type}{g:α->PyData}{as:List α}(r:bF H (as.map g) xs)(p:α->Bool)(hz:xs.length<=100000)(hl:H a=some (.lst xs))
  (ht:∀x c H' (Q':Bool->Hp->Prop),c∈as->cB H' (g c) x->aQ H H'->(∀H5,aQ H' H5->Q' (p c) H5)->tc (some x::slots σ js) H' Q')
  (he:∀x H' (Q':VK),Q' x H'->te (some x::slots σ js) H' Q')
  (hd:∀D ys H',H D=none->H' D=some (.lst ys)->aQ H H'->bF H' ((as.filter p).map g) ys->Q (.ref D) H'):jC (MG K a) σ js tc te H Q:=by
 unfold jC;intro D hD;have hlen:xs.length=as.length:=by rw [r.len,aA]
 refine ⟨λi m ys H'=>m=xs.length-i/\i<=xs.length/\H' D=some (.lst ys)/\aQ H H'/\bF H (((as.take i).filter p).map g) ys/\ys.length<=i,⟨xs.length,by simp,cM _,bK,aQ.upd hD,bF.nil,aF _⟩,?_⟩;rintro i m ys H2 ⟨rfl,hi,hD2,s2,ry,hy⟩;refine ⟨hD2,?_⟩;by_cases hlt:i<xs.length
 ·have hx:xs[i]?=some xs[i]:=aB hlt;refine .inr ⟨⟨xs,_,fE.of (s2 _ _ hl),hx⟩,bJ (m:=100000) Oo yd,λx H3 hy3=>?_⟩;obtain ⟨rfl,hx3⟩:=hy3;have hx3:=hx3 xs (fE.of (s2 _ _ hl));obtain ⟨c,hc,rc⟩:=r.atI hx3;have hti:as.take (i+1)=as.take i++[c]:=by rw [fY,hc];rfl
  refine ⟨λb H4=>b=p c/\aQ H3 H4,ht x c H3 _ (aM hc) (rc.same s2) s2 λH5 s5=>⟨rfl,s5⟩,?_⟩;rintro b H4 ⟨rfl,s4⟩;by_cases hp:p c=true
  ·rw [if_pos hp];refine ⟨λy H5=>y=x/\H5=H4,he x H4 _ ⟨rfl,rfl⟩,?_⟩;rintro y H5 ⟨rfl,rfl⟩;refine ⟨s4 _ _ hD2,_,?_,rfl,hlt,bK,aQ.thru hD (s2.trans s4) aN.self,?_,?_⟩
   ·omega
   ·rw [hti,List.filter_append,bN];have:List.filter p [c]=[c]:=by simp [hp]
    rw [this];exact bF.snoc ry rc
   ·rw [bC,List.length_singleton];omega
  ·rw [if_neg hp];refine ⟨s4 _ _ hD2,_,?_,rfl,hlt,s4 _ _ hD2,s2.trans s4,?_,?_⟩
   ·omega
   ·rw [hti,List.filter_append];have:List.filter p [c]=[]:=by simp [hp]
    rw [this,List.append_nil];exact ry
   ·omega
 ·have e:i=xs.length:=Oo;subst e;refine .inl ⟨⟨xs,fE.of (s2 _ _ hl),aF _⟩,hd D ys H2 hD hD2 s2 ?_⟩;rw [hlen,bG] at ry;exact ry.same s2
end
end L2
namespace Mf
def lw(n d:Int):Int × Int:=(n/(Int.gcd n d:Int),d/(Int.gcd n d:Int))
structure MF(n d:Int):Prop where
 pos:0<d
 low:Int.gcd n d=1
theorem hU{n d:Int}(h:0<d):0<(Int.gcd n d:Int):=by
 have:=Int.gcd_pos_of_ne_zero_right n (Int.ne_of_gt h);omega
theorem fM{n d:Int}(h:0<d):MF (lw n d).1 (lw n d).2:=by
 have g:=hU (n:=n) h;refine ⟨?_,?_⟩
 ·exact Int.ediv_pos_of_pos_of_dvd h (Int.le_of_lt g) (Int.gcd_dvd_right n d)
 ·exact Int.gcd_ediv_gcd_ediv_gcd Oo
theorem QX{n d:Int}:(lw n d).1*(Int.gcd n d:Int)=n/\(lw n d).2*(Int.gcd n d:Int)=d :=
 ⟨Int.ediv_mul_cancel (Int.gcd_dvd_left n d),Int.ediv_mul_cancel (Int.gcd_dvd_right n d)⟩
theorem iW{n d:Int}:(lw n d).1*d=n*(lw n d).2:=by
 obtain ⟨e1,e2⟩:=QX (n:=n) (d:=d);generalize (lw n d).1=a at *;generalize (lw n d).2=b at *;generalize (Int.gcd n d:Int)=g at *;rw [<-e1,<-e2];rw [Int.mul_assoc,Int.mul_comm g b]
theorem EO{b a d:Int}(h:b ∣ a*d)(g:Int.gcd b a=1):b ∣ d:=by
 rw [<-Int.natAbs_dvd_natAbs,fU] at h;rw [<-Int.natAbs_dvd_natAbs];rw [Int.gcd_eq_natAbs_gcd_natAbs] at g;exact Nat.Coprime.dvd_of_dvd_mul_left g h
theorem zR{a b c d:Int}(h1:MF a b)(h2:MF c d)(e:a*d=c*b):a=c/\b=d:=by
 have d1:b ∣ d:=by
  have:b ∣ a*d:=by rw [e];exact Int.dvd_mul_left c b
  exact EO this (by rw [Int.gcd_comm];exact h1.low)
 have d2:d ∣ b:=by
  have:d ∣ c*b:=by rw [<-e];exact Int.dvd_mul_left a d
  exact EO this (by rw [Int.gcd_comm];exact h2.low)
 have hb:=h1.pos;have hd:=h2.pos;have e1:b=d:=Int.dvd_antisymm (Int.le_of_lt hb) (Int.le_of_lt hd) d1 d2;subst e1;exact ⟨Int.eq_of_mul_eq_mul_right Oo e,rfl⟩
theorem rF{a b n d:Int}(h:MF a b)(hd:0<d)(e:a*d=n*b):lw n d=(a,b):=by
 have c:=iW (n:=n) (d:=d);have q:=zR (fM (n:=n) hd) h (by
  have hd':d≠0:=Oo;apply Int.eq_of_mul_eq_mul_right hd'
  calc (lw n d).1*b*d=((lw n d).1*d)*b:=by rw [Int.mul_assoc,Int.mul_comm b d,<-Int.mul_assoc]
   _=(n*(lw n d).2)*b:=by rw [c]
   _=(n*b)*(lw n d).2:=by rw [Int.mul_assoc,Int.mul_comm (lw n d).2 b,<-Int.mul_assoc]
   _=(a*d)*(lw n d).2:=by rw [e]
   _=a*(lw n d).2*d:=by rw [Int.mul_assoc,Int.mul_comm d,<-Int.mul_assoc])
 exact Prod.ext q.1 q.2
theorem OP{a b:Int}(h:MF a b):lw a b=(a,b):=rF h h.pos rfl
theorem mF{u a b:Int}(h1:Int.gcd u a=1)(h2:Int.gcd u b=1):Int.gcd u (a*b)=1:=by
 rw [Int.gcd_eq_natAbs_gcd_natAbs] at *;rw [fU];exact Nat.Coprime.mul_right h1 h2
theorem jZ{a b c:Int}(h:Int.gcd a b=1)(d:c ∣ b):Int.gcd a c=1:=by
 have:=Int.gcd_dvd_gcd_of_dvd_right a d;rw [h] at this;exact Nat.eq_one_of_dvd_one this
theorem hV{a b c:Int}(h:Int.gcd a b=1)(d:c ∣ a):Int.gcd c b=1:=by
 rw [Int.gcd_comm] at *;exact jZ h d
theorem NY{a b c d:Int}(h1:MF a b)(h2:MF c d) :
  let g:Int:=Int.gcd b d
  let u:=a*(d/g)+c*(b/g)
  let l:Int:=Int.gcd u g
  lw (a*d+c*b) (b*d)=(u/l,(b/g)*(d/l)):=by
 intro g u l;have hg:0<g:=hU h2.pos;have hl:0<l:=hU hg;obtain ⟨b',eb⟩:=Int.gcd_dvd_left b d;obtain ⟨d',ed⟩:=Int.gcd_dvd_right b d;have eb:b=g*b':=eb;have ed:d=g*d':=ed;have qb:b/g=b':=by rw [eb];exact Int.mul_ediv_cancel_left _ Oo
 have qd:d/g=d':=by rw [ed];exact Int.mul_ediv_cancel_left _ Oo
 have eu:u=a*d' + c*b':=by show a*(d/g)+c*(b/g)=_;rw [qb,qd]
 have cbd:Int.gcd b' d'=1:=by
  have:=Int.gcd_ediv_gcd_ediv_gcd (i:=b) (j:=d) (by have:0<(Int.gcd b d:Int):=hg;omega);have h:Int.gcd (b/g) (d/g)=1:=this
  rwa [qb,qd] at h
 have cab:Int.gcd a b'=1:=jZ h1.low ⟨g,by rw [eb,Int.mul_comm]⟩;have ccd:Int.gcd c d'=1:=jZ h2.low ⟨g,by rw [ed,Int.mul_comm]⟩;have ub:Int.gcd u b'=1:=by
  rw [eu,Int.add_comm,Int.gcd_mul_right_add_left,Int.gcd_mul_right_left_of_gcd_eq_one cab,Int.gcd_comm];exact cbd
 have ud:Int.gcd u d'=1:=by
  rw [eu,Int.gcd_mul_right_add_left,Int.gcd_mul_right_left_of_gcd_eq_one ccd];exact cbd
 obtain ⟨u',eu'⟩:=Int.gcd_dvd_left u g;obtain ⟨g',eg'⟩:=Int.gcd_dvd_right u g;have eu':u=l*u':=eu';have eg':g=l*g':=eg';have qu:u/l=u':=by rw [eu'];exact Int.mul_ediv_cancel_left _ Oo
 have qdl:d/l=g' * d':=by rw [ed,eg',Int.mul_assoc];exact Int.mul_ediv_cancel_left _ Oo
 have cug:Int.gcd u' g'=1:=by
  have:=Int.gcd_ediv_gcd_ediv_gcd (i:=u) (j:=g) (by have:0<(Int.gcd u g:Int):=hl;omega);have h:Int.gcd (u/l) (g/l)=1:=this;rw [qu] at h
  rwa [show g/l=g' from by rw [eg'];exact Int.mul_ediv_cancel_left _ Oo] at h
 rw [qu,qb,qdl];have hu':u' ∣ u:=⟨l,by rw [eu',Int.mul_comm]⟩;have hb':0<b':=by
  have:=h1.pos;rw [eb] at this;exact Int.pos_of_mul_pos_right this Oo
 have hd':0<d':=by
  have:=h2.pos;rw [ed] at this;exact Int.pos_of_mul_pos_right this Oo
 have hg':0<g':=by
  have:=hg;rw [eg'] at this;exact Int.pos_of_mul_pos_right this Oo
 refine rF ⟨Int.mul_pos hb' (Int.mul_pos hg' hd'),?_⟩ (Int.mul_pos h1.pos h2.pos) ?_
 ·exact mF (hV ub hu') (mF cug (hV ud hu'))
 ·have e1:a*d+c*b=g*(l*u'):=by
   rw [<-eu',eu,eb,ed];rw [Int.mul_add,Int.mul_left_comm a,Int.mul_left_comm c]
  rw [e1,eb,ed];generalize hG:g=G at *;rw [eg'];simp only [Int.mul_assoc,Int.mul_left_comm,Int.mul_comm]
theorem IR{a b c d:Int}(h1:MF a b)(h2:MF c d) :
  let f:Int:=Int.gcd a d
  let s:Int:=Int.gcd c b
  lw (a*c) (b*d)=((a/f)*(c/s),(b/s)*(d/f)):=by
 intro f s;have hf:0<f:=hU h2.pos;have hs:0<s:=hU h1.pos;obtain ⟨a',ea⟩:=Int.gcd_dvd_left a d;obtain ⟨d',ed⟩:=Int.gcd_dvd_right a d;obtain ⟨c',ec⟩:=Int.gcd_dvd_left c b;obtain ⟨b',eb⟩:=Int.gcd_dvd_right c b;have ea:a=f*a':=ea;have ed:d=f*d':=ed;have ec:c=s*c':=ec;have eb:b=s*b':=eb;have qa:a/f=a':=by rw [ea];exact Int.mul_ediv_cancel_left _ Oo
 have qd:d/f=d':=by rw [ed];exact Int.mul_ediv_cancel_left _ Oo
 have qc:c/s=c':=by rw [ec];exact Int.mul_ediv_cancel_left _ Oo
 have qb:b/s=b':=by rw [eb];exact Int.mul_ediv_cancel_left _ Oo
 have cad:Int.gcd a' d'=1:=by
  have:=Int.gcd_ediv_gcd_ediv_gcd (i:=a) (j:=d) (by have:0<(Int.gcd a d:Int):=hf;omega);have h:Int.gcd (a/f) (d/f)=1:=this
  rwa [qa,qd] at h
 have ccb:Int.gcd c' b'=1:=by
  have:=Int.gcd_ediv_gcd_ediv_gcd (i:=c) (j:=b) (by have:0<(Int.gcd c b:Int):=hs;omega);have h:Int.gcd (c/s) (b/s)=1:=this
  rwa [qc,qb] at h
 have cab:Int.gcd a' b'=1:=hV (jZ h1.low ⟨s,by rw [eb,Int.mul_comm]⟩) ⟨f,by rw [ea,Int.mul_comm]⟩;have ccd:Int.gcd c' d'=1:=hV (jZ h2.low ⟨f,by rw [ed,Int.mul_comm]⟩) ⟨s,by rw [ec,Int.mul_comm]⟩;have hb':0<b':=by
  have:=h1.pos;rw [eb] at this;exact Int.pos_of_mul_pos_right this Oo
 have hd':0<d':=by
  have:=h2.pos;rw [ed] at this;exact Int.pos_of_mul_pos_right this Oo
 rw [qa,qb,qc,qd];refine rF ⟨Int.mul_pos hb' hd',?_⟩ (Int.mul_pos h1.pos h2.pos) ?_
 ·have x1:Int.gcd a' (b' * d')=1:=mF cab cad;have x2:Int.gcd c' (b' * d')=1:=mF ccb ccd;rw [Int.gcd_comm] at x1 x2 ⊢;exact mF x1 x2
 ·rw [ea,eb,ec,ed];simp only [Int.mul_assoc,Int.mul_left_comm,Int.mul_comm]
end Mf
namespace Mf
abbrev Fr:=Int × Int
def lK(x y:Fr):Fr:=lw (x.1*y.2+y.1*x.2) (x.2*y.2)
def oC(fs:List Fr):Fr:=fs.foldl lK (0,1)
def cT(f:Fr):Prop:=MF f.1 f.2
theorem jI{α:Type}{P:List α->Prop}(h0:P [])(hs:∀l a,P l->P (l++[a]))(l:List α):P l:=by
 have:∀r:List α,P r.reverse:=by
  intro r
  induction r with
  | nil=>exact h0
  | cons a r ih=>rw [List.reverse_cons];exact hs _ _ ih
 have:=this l.reverse
 rwa [List.reverse_reverse] at this
theorem kR(l:List Fr)(a:Fr):oC (l++[a])=lK (oC l) a:=by unfold oC;rw [List.foldl_append];rfl
theorem yN(l:List Fr):(∀f∈l,cT f)->cT (oC l):=by
 refine jI (P:=λl=>(∀f∈l,cT f)->cT (oC l)) (λ_=>⟨yd,yd⟩) (λl a ih h=>?_) l;rw [kR];have h1:=ih λf hf=>h f (bZ _ hf);have h2:=h a (bH _ aO);exact fM (Int.mul_pos h1.pos h2.pos)
theorem EB{n d:Int}(h:0<d):(lw n d).2<=d/\(lw n d).1.natAbs<=n.natAbs:=by
 obtain ⟨e1,e2⟩:=QX (n:=n) (d:=d);have g:=hU (n:=n) h;have p:=(fM (n:=n) h).pos;generalize (lw n d).1=a at *;generalize (lw n d).2=b at *;generalize (Int.gcd n d:Int)=G at *;refine ⟨?_,?_⟩
 ·rw [<-e2];have:=Int.mul_le_mul_of_nonneg_left (show (1:Int)<=G by omega) (Int.le_of_lt p);simpa using this
 ·rw [<-e1,fU];exact Nat.le_mul_of_pos_right _ Oo
def zQ(x y:Fr):Prop:=x.1*y.2<y.1*x.2
theorem zP{x y z:Fr}(hx:0<x.2)(hy:0<y.2)(hz:0<z.2)(h1:zQ x y)(h2:¬zQ z y):zQ x z:=by
 unfold zQ at *;have h2:y.1*z.2<=z.1*y.2:=Oo;have a:(x.1*y.2)*z.2<(y.1*x.2)*z.2:=Int.mul_lt_mul_of_pos_right h1 hz;have b:(y.1*z.2)*x.2<=(z.1*y.2)*x.2:=Int.mul_le_mul_of_nonneg_right h2 (Int.le_of_lt hx);have c:(x.1*z.2)*y.2<(z.1*x.2)*y.2:=by
  calc (x.1*z.2)*y.2=(x.1*y.2)*z.2:=by simp only [Int.mul_assoc,Int.mul_left_comm,Int.mul_comm]
   _<(y.1*x.2)*z.2:=a
   _=(y.1*z.2)*x.2:=by simp only [Int.mul_assoc,Int.mul_left_comm,Int.mul_comm]
   _<=(z.1*y.2)*x.2:=b
   _=(z.1*x.2)*y.2:=by simp only [Int.mul_assoc,Int.mul_left_comm,Int.mul_comm]
 exact Int.lt_of_mul_lt_mul_right c (Int.le_of_lt hy)
theorem GL{x y:Fr}(h:zQ x y):¬zQ y x:=by unfold zQ at *;omega
theorem tV{x:Fr}:¬zQ x x:=by unfold zQ;omega
structure hZ(fs:List Fr)(n p:Nat)(y:Fr):Prop where
 at_:fs[p]?=some y
 lt:p<n
 no:∀(j:Nat) (x:Fr),j<n->fs[j]?=some x->¬zQ x y
 first:∀(j:Nat) (x:Fr),j<p->fs[j]?=some x->zQ y x
theorem hZ.one{fs:List Fr}{y:Fr}(h:fs[0]?=some y):hZ fs 1 0 y :=
 ⟨h,Oo,λj x hj e=>by have:j=0:=Oo;subst this;rw [h] at e;cases e;exact tV,λj x hj _=>Oo⟩
theorem hZ.next{fs:List Fr}{n p:Nat}{y z:Fr}(L:hZ fs n p y)(hp:∀f∈fs,cT f)(hz:fs[n]?=some z)(h:zQ z y):hZ fs (n+1) n z:=by
 have pos:∀{j:Nat} {x:Fr},fs[j]?=some x->0<x.2:=λe=>(hp _ (aM e)).pos;have all:∀(j:Nat) (x:Fr),j<n->fs[j]?=some x->zQ z x:=λj x hj e=>zP (pos hz) (pos L.at_) (pos e) h (L.no j x hj e);refine ⟨hz,Oo,λj x hj e=>?_,all⟩;by_cases q:j=n
 ·subst q;rw [hz] at e;cases e;exact tV
 ·exact GL (all j x Oo e)
theorem hZ.stay{fs:List Fr}{n p:Nat}{y z:Fr}(L:hZ fs n p y)(hz:fs[n]?=some z)(h:¬zQ z y):hZ fs (n+1) p y :=
 ⟨L.at_,by have:=L.lt;omega,λj x hj e=>by
  by_cases q:j=n
  ·subst q;rw [hz] at e;cases e;exact h
  ·exact L.no j x Oo e,L.first⟩
end Mf
namespace Mf
theorem tU{n d n' d':Int}(hd:0<d)(hd':0<d')(e:n*d'=n' * d):lw n d=lw n' d':=by
 have h:=fM (n:=n') hd';have c:=iW (n:=n') (d:=d');generalize lw n' d'=L at c h;refine rF (a:=L.1) (b:=L.2) h hd ?_;refine Int.eq_of_mul_eq_mul_right (a:=d') Oo ?_
 calc L.1*d*d'=(L.1*d')*d:=by ac_rfl
  _=n' * L.2*d:=by rw [c]
  _=(n' * d)*L.2:=by ac_rfl
  _=n*d' * L.2:=by rw [e]
  _=n*L.2*d':=by ac_rfl
def lX(f g:Fr):Fr:=lw (f.1*g.1) (f.2*g.2)
theorem iV{f g:Fr}(h:cT f)(h':cT g):cT (lX f g):=fM (Int.mul_pos h.pos h'.pos)
theorem UR{a b c d:Int}(hb:0<b)(hd:0<d):lX (lw a b) (lw c d)=lw (a*c) (b*d):=by
 have h1:=(fM (n:=a) hb).pos;have h2:=(fM (n:=c) hd).pos;refine tU (Int.mul_pos h1 h2) (Int.mul_pos hb hd) ?_;have e1:=iW (n:=a) (d:=b);have e2:=iW (n:=c) (d:=d);generalize lw a b=L at *;generalize lw c d=M at *
 calc L.1*M.1*(b*d)=(L.1*b)*(M.1*d):=by ac_rfl
  _=(a*L.2)*(c*M.2):=by rw [e1,e2]
  _=a*c*(L.2*M.2):=by ac_rfl
theorem VW{a b c d:Int}(hb:0<b)(hd:0<d):lK (lw a b) (lw c d)=lw (a*d+c*b) (b*d):=by
 have h1:=(fM (n:=a) hb).pos;have h2:=(fM (n:=c) hd).pos;refine tU (Int.mul_pos h1 h2) (Int.mul_pos hb hd) ?_;have e1:=iW (n:=a) (d:=b);have e2:=iW (n:=c) (d:=d);generalize lw a b=L at *;generalize lw c d=M at *;rw [Int.add_mul,Int.add_mul];congr 1
 ·calc L.1*M.2*(b*d)=(L.1*b)*(M.2*d):=by ac_rfl
   _=(a*L.2)*(M.2*d):=by rw [e1]
   _=a*d*(L.2*M.2):=by ac_rfl
 ·calc M.1*L.2*(b*d)=(M.1*d)*(L.2*b):=by ac_rfl
   _=(c*M.2)*(L.2*b):=by rw [e2]
   _=c*b*(L.2*M.2):=by ac_rfl
theorem EA{d:Int}(h:0<d):lw 0 d=(0,1):=rF (a:=0) (b:=1) ⟨yd,yd⟩ h Oo
theorem UU{d:Int}(h:0<d):lw d d=(1,1):=rF (a:=1) (b:=1) ⟨yd,yd⟩ h Oo
theorem FP{S:Int}(hS:0<S)(ps:List Int):oC (ps.map λp=>lw p S)=lw ps.sum S:=by
 induction ps using jI with
 | h0=>rw [show ([]:List Int).sum=0 from rfl,EA hS];rfl
 | hs l a ih =>
  rw [bN,bI,List.map_nil,kR,ih,VW hS hS,List.sum_append];refine tU (Int.mul_pos hS hS) hS ?_;rw [show ([a]:List Int).sum=a by simp,<-Int.add_mul,Int.mul_assoc]
def qT(f:Fr)(c:Nat):Fr:=(f.1^c,f.2^c)
theorem jW{f:Fr}(h:cT f):∀c:Nat,cT (qT f c)
 | 0=>⟨by show 0<f.2^0;rw [Int.pow_zero];decide,by show Int.gcd (f.1^0) (f.2^0)=1;rw [Int.pow_zero,Int.pow_zero];decide⟩
 | c+1=>by
  have ih:=jW h c;have k:∀n:Nat,Int.gcd f.1 (f.2^n)=1:=λn=>by
   induction n with
   | zero=>rw [Int.pow_zero];exact Int.gcd_one_right _
   | succ n ih=>rw [Int.pow_succ];exact mF ih h.low
  refine ⟨?_,?_⟩
  ·show 0<f.2^(c+1);rw [Int.pow_succ];exact Int.mul_pos ih.pos h.pos
  ·show Int.gcd (f.1^(c+1)) (f.2^(c+1))=1;have k2:∀n:Nat,Int.gcd (f.2^(c+1)) (f.1^n)=1:=λn=>by
    induction n with
    | zero=>rw [Int.pow_zero];exact Int.gcd_one_right _
    | succ n ih=>rw [show f.1^(n+1)=f.1^n*f.1 from Int.pow_succ ..];exact mF ih (by rw [Int.gcd_comm];exact k (c+1))
   rw [Int.gcd_comm];exact k2 (c+1)
def oP(zs:List (Fr × Nat)):Fr:=zs.foldl (λp q=>(p.1*q.1.1^q.2,p.2*q.1.2^q.2)) (1,1)
def nS(zs:List (Fr × Nat)):Fr:=zs.foldl (λp q=>lX p (qT q.1 q.2)) (1,1)
theorem nI(l:List (Fr × Nat))(a:Fr × Nat):oP (l++[a])=((oP l).1*a.1.1^a.2,(oP l).2*a.1.2^a.2):=by unfold oP;rw [List.foldl_append];rfl
theorem qI(l:List (Fr × Nat))(a:Fr × Nat):nS (l++[a])=lX (nS l) (qT a.1 a.2):=by unfold nS;rw [List.foldl_append];rfl
theorem tD(l:List (Fr × Nat)):(∀z∈l,cT z.1)->0<(oP l).2:=by
 induction l using jI with
 | h0=>intro _;decide
 | hs l a ih =>
  intro h;rw [nI];exact Int.mul_pos (ih λf hf=>h f (bZ _ hf)) (jW (h a (by simp)) a.2).pos
theorem wO(l:List (Fr × Nat)):(∀z∈l,cT z.1)->nS l=lw (oP l).1 (oP l).2:=by
 induction l using jI with
 | h0=>intro _;rfl
 | hs l a ih =>
  intro h;have hl:∀f∈l,cT f.1:=λf hf=>h f (bZ _ hf);have ha:=jW (h a (by simp)) a.2;rw [qI,nI,ih hl];have e:qT a.1 a.2=lw (a.1.1^a.2) (a.1.2^a.2):=(OP ha).symm;rw [e,UR (tD l hl) (show 0<a.1.2^a.2 from ha.pos)]
theorem oQ(l:List (Fr × Nat))(h:∀z∈l,cT z.1):cT (nS l):=by rw [wO l h];exact fM (tD l h)
theorem qS{x:Int}{B:Nat}(h:x.natAbs<=2^B)(c:Nat):(x^c).natAbs<=2^(B*c):=by
 rw [Int.natAbs_pow,Nat.pow_mul];exact Nat.pow_le_pow_left h c
theorem MN{B:Nat}(l:List (Fr × Nat)):(∀z∈l,z.1.1.natAbs<=2^B/\z.1.2.natAbs<=2^B)->(oP l).1.natAbs<=2^(B*(l.map (·.2)).sum)/\(oP l).2.natAbs<=2^(B*(l.map (·.2)).sum):=by
 induction l using jI with
 | h0=>intro _;exact ⟨Nat.one_le_two_pow,Nat.one_le_two_pow⟩
 | hs l a ih =>
  intro h;obtain ⟨i1,i2⟩:=ih λf hf=>h f (bZ _ hf);obtain ⟨a1,a2⟩:=h a (by simp);rw [nI,bN,List.sum_append,show ([a].map (·.2)).sum=a.2 by simp,Nat.mul_add,Nat.pow_add];exact ⟨by show ((oP l).1*a.1.1^a.2).natAbs<=_;rw [fU];exact Nat.mul_le_mul i1 (qS a1 _),by show ((oP l).2*a.1.2^a.2).natAbs<=_;rw [fU];exact Nat.mul_le_mul i2 (qS a2 _)⟩
theorem MO{B:Nat}(l:List (Fr × Nat))(hl:∀z∈l,cT z.1)(h:∀z∈l,z.1.1.natAbs<=2^B/\z.1.2.natAbs<=2^B):(nS l).1.natAbs<=2^(B*(l.map (·.2)).sum)/\(nS l).2.natAbs<=2^(B*(l.map (·.2)).sum):=by
 obtain ⟨h1,h2⟩:=MN l h;rw [wO l hl];have hp:=tD l hl;obtain ⟨l1,l2⟩:=EB (n:=(oP l).1) hp;have:=(fM (n:=(oP l).1) hp).pos;exact ⟨aZ l2 h1,Oo⟩
theorem yH(l:List (Fr × Nat)):(∀z∈l,0<=z.1.1)->0<=(oP l).1:=by
 induction l using jI with
 | h0=>intro _;decide
 | hs l a ih =>
  intro h;rw [nI];exact Int.mul_nonneg (ih λf hf=>h f (bZ _ hf)) (Int.pow_nonneg (h a (by simp)))
end Mf
namespace Mf
theorem jH:∀(l:List Nat) (j v x:Nat),l[j]?=some x->(l.set j v).sum+x=l.sum+v
 | [],j,v,x,h=>by simp at h
 | a::l,0,v,x,h=>by
  have:a=x:=by simpa using h
  subst this;simp only [List.set_cons_zero,List.sum_cons];omega
 | a::l,j+1,v,x,h=>by
  have:=jH l j v x (by simpa using h);simp only [List.set_cons_succ,List.sum_cons];omega
def cta:Nat->Nat->List (List Nat)
 | 0,_=>[]
 | 1,m=>[[m]]
 | F+2,m=>(List.range (m+1)).flatMap λk=>(cta (F+1) (m-k)).map λc=>k::c
theorem fT:∀{F m:Nat}{c:List Nat},c∈cta F m->c.length=F/\c.sum=m
 | 0,m,c,h=>by cases h
 | 1,m,c,h=>by
  have:c=[m]:=by simpa [cta] using h
  subst this;simp
 | F+2,m,c,h=>by
  obtain ⟨k,hk,h⟩:=List.mem_flatMap.mp h;obtain ⟨d,hd,rfl⟩:=aP.mp h;have hk:=cU.mp hk;obtain ⟨h1,h2⟩:=fT hd;refine ⟨by simp [h1],?_⟩;rw [List.sum_cons];omega
end Mf
namespace Mf
end Mf
namespace L2
open PySem PySem.Spec PyProof.Rows
end L2
namespace HT
open PySem PyProof.Rows
section
variable{prog:Program}{w:World}{A:Around}{E:Value->Shared->Prop}{s:Shared}
theorem nT{t sl:Addr}{items:Array Value}{vl vu:Value}{lo hi:Option Int}{Q:Value->Shared->Prop}(ht:IsTup s.heap t items)(hs:s.heap.IsSliceOf sl vl vu .none)(pl:IsPart vl lo)(pu:IsPart vu hi)
  (h0:gO items.size 0 lo=0) (h1:gO items.size items.size hi=items.size) (h:Q (.ref t) s):wpAny (model prog w) A (getItem (.ref t) (.ref sl)) Q E s:=by
 obtain ⟨os,hos,hcs,hds⟩:=id hs;have hTs:s.TypeIs (.ref sl) "slice" := ⟨os,hos,hcs⟩;have hTt:s.TypeIs (.ref t) "tuple" := ht.typeIs;unfold getItem
 try with_reducible refine wpAny_holding ?_
 first | refine wpAny_bind (wpAny_pure ?_) | skip
 refine wpAny_bind (wpAny_sequenceKey ht.typeIs yd ?_);refine wpAny_bind (wpAny_callSpecial?_slot (name:=Str.ofString "__getitem__") ht.typeIs PyProof.Rows.slot_tuple_getitem
  (wpAny_call_entry PyProof.Rows.slot_tuple_getitem ht.typeIs entry_tuple_getitem ?_ (args_tuple_getitem _ _)))
 show wpAny _ _ (Builtin.Tuple.tupleItemsOf (.ref t) >>= _) _ _ s;refine wpAny_bind (tupleItemsOf_ ht ?_);refine wpAny_bind (wpAny_typeOf hTs ?_);rw [if_pos yd];refine wpAny_bind (lG hs pl pu ?_);have hyes:(((gO items.size 0 lo:Nat):Int) == 0&&(1:Int) == 1&&(gO items.size items.size hi-gO items.size 0 lo) == items.size)=true:=by
  rw [h0,h1];simp
 show wpAny _ _ (if (((gO items.size 0 lo:Nat):Int) == 0&&(1:Int) == 1&&(gO items.size items.size hi-gO items.size 0 lo) == items.size)=true then _ else _) _ _ s;rw [if_pos hyes];unfold Builtin.Tuple.tupleIsExact;refine wpAny_bind (wpAny_bind (wpAny_typeOf hTt (wpAny_pure ?_)));rw [if_pos yd];refine wpAny_bind (wpAny_rule ?_)
 first
  | exact wpAny_pure ⟨_,rfl,wpAny_pure h⟩
  | exact wpAny_bind (wpAny_pure (wpAny_pure ⟨_,rfl,wpAny_pure h⟩))
end
end HT
namespace L2
open PySem PySem.W PySem.Spec PySem.Calls PyProof.Rows
theorem CD{xs:List V}{lo hi:Option Int}(h0:HT.gO xs.length 0 lo=0)(h1:HT.gO xs.length xs.length hi=xs.length):nU xs lo hi=xs:=by
 unfold nU;rw [h0,h1];simp
section
variable{X:Cx}
@[irreducible] def BR(K:PySem.W.Frag):V->Option Int->Option Int->Hp->VK->Prop:=λx lo hi H Q=>∃a xs,x=.ref a/\H a=some (.tup xs)/\∀c H',aQ H H'->H' c=some (.tup (nU xs lo hi))->Q (.ref c) H'
theorem sR(K:PySem.W.Frag)(hK:X.K=K:=by rfl):WJ X (BR K):=by
 unfold BR;subst hK;intro pins s σ H x v vl vu lo hi sl Q I rx hs pl pu h;obtain ⟨a,xs,rfl,hx,q⟩:=h;by_cases hw:HT.gO xs.length 0 lo=0/\HT.gO xs.length xs.length hi=xs.length
 ·cases rx;obtain ⟨its,r,ht,hz⟩:=I.tuple (gK.of hx);have hlen:its.toArray.size=xs.length:=by rw [aU];exact r.length.symm
  refine ⟨"tuple",_,PyProof.Rows.slot_tuple_getitem.lookup,ht.typeIs,?_⟩;refine HT.nT ht hs pl pu (by rw [hlen];exact hw.1) (by rw [hlen];exact hw.2) ?_;exact ⟨.ref a,H,I,rfl,q a H (aQ.refl _) (by rw [CD hw.1 hw.2];exact hx)⟩
 ·exact SE pins s σ H (.ref a) v vl vu lo hi sl Q I rx hs pl pu ⟨a,xs,rfl,gK.of hx,hw,λp hp=>q p _ (aQ.upd hp) bK⟩
theorem JF{K:PySem.W.Frag}{H:Hp}{a:Addr}{xs:List V}{k:Nat}{Q:VK}(h:H a=some (.tup xs))(q:∀c H',aQ H H'->H' c=some (.tup (xs.take k))->Q (.ref c) H'):BR K (.ref a) none (some (k:Int)) H Q:=by
 unfold BR;exact ⟨a,xs,rfl,h,λc H' s e=>q c H' s (by rw [e,sW])⟩
theorem SG{K:PySem.W.Frag}{H:Hp}{a:Addr}{xs:List V}{k:Nat}{Q:VK}(h:H a=some (.tup xs))(q:∀c H',aQ H H'->H' c=some (.tup (xs.drop k))->Q (.ref c) H'):BR K (.ref a) (some (k:Int)) none H Q:=by
 unfold BR;exact ⟨a,xs,rfl,h,λc H' s e=>q c H' s (by rw [e,xV])⟩
end
end L2
namespace HT
open PySem PySem.W PyProof.Rows
def cX{α:Type}(n:Nat)(lt:Nat->Nat->Bool)(R:α->Prop):KasT α->Prop
 | .ret a=>R a
 | .ask i j k=>i<n/\j<n/\cX n lt R (k (lt i j))
section
variable{n:Nat}{lt:Nat->Nat->Bool}
theorem cX.bind{α β:Type}{R:α->Prop}{S:β->Prop}{f:α->KasT β}:∀{t:KasT α},cX n lt R t->(∀a,R a->cX n lt S (f a))->cX n lt S (t.bind f)
 | .ret a,h,k=>k a h
 | .ask i j t,⟨h1,h2,h3⟩,k=>⟨h1,h2,cX.bind (t:=t (lt i j)) h3 k⟩
theorem cX.wp{α:Type}{R:α->Prop}{cmp:Nat->Nat->(Bool->Shared->Prop)->Shared->Prop}{Q:α->Shared->Prop}{s:Shared}(hc:∀i j C,i<n->j<n->C (lt i j) s->cmp i j C s)(q:∀a,R a->Q a s) :
  ∀{t:KasT α},cX n lt R t->t.kasWp cmp Q s
 | .ret a,h=>q a h
 | .ask i j t,⟨h1,h2,h3⟩=>hc i j _ h1 h2 (cX.wp (t:=t (lt i j)) hc q h3)
def fK(n:Nat)(p:Array Nat):Prop:=p.Perm (List.toArray (List.range n))
theorem fK.bd{p:Array Nat}(g:fK n p)(hn:0<n)(i:Nat):p.getD i 0<n:=by
 by_cases hi:i<p.size
 ·have e:p.getD i 0=p[i]:=by simp [Array.getD,hi]
  rw [e];have m:p[i]∈List.toArray (List.range n):=(Array.Perm.mem_iff g).mp (Array.getElem_mem hi);simpa using m
 ·have e:p.getD i 0=0:=by simp [Array.getD,hi]
  rw [e];exact hn
theorem fK.rev{p:Array Nat}(g:fK n p)(i j:Nat):fK n (kas_rev p i j):=(mirror_perm p i j _).trans g
theorem fK.bub{p:Array Nat}(g:fK n p)(i j:Nat):fK n (bubble p i j):=(bubble_perm p i j).trans g
theorem yB{p:Array Nat}(g:fK n p)(hn:0<n):∀(f m:Nat),cX n lt (λ_=>True) (kas_asc p f m)
 | 0,m=>True.intro
 | f+1,m=>⟨g.bd hn _,g.bd hn _,by
  cases lt (p.getD m 0) (p.getD (m-1) 0) with
  | true=>exact True.intro
  | false=>exact yB g hn f (m+1)⟩
theorem qD(hn:0<n):∀(f:Nat) {p:Array Nat}(g:fK n p) (m q:Nat),cX n lt (λr=>fK n r.1) (kas_desc f p m q)
 | 0,p,g,m,q=>g
 | f+1,p,g,m,q=>by
  refine ⟨g.bd hn _,g.bd hn _,?_⟩;cases lt (p.getD m 0) (p.getD (m-1) 0) with
  | true =>
   show cX n lt _ (if q > 0 then _ else _);split
   ·exact qD hn f (g.rev _ _) _ _
   ·exact qD hn f g _ _
  | false =>
   refine ⟨g.bd hn _,g.bd hn _,?_⟩;cases lt (p.getD (m-1) 0) (p.getD m 0) with
   | true=>exact g
   | false=>exact qD hn f g _ _
theorem wF{p:Array Nat}(g:fK n p)(hn:0<n)(m r:Nat):cX n lt (λr=>fK n r.2) (kas_tail3 m r p):=by
 unfold kas_tail3;exact (yB (g.rev 0 m) hn _ _).bind λ_ _=>g.rev 0 m
theorem qC{p:Array Nat}(g:fK n p)(hn:0<n)(m r:Nat):cX n lt (λr=>fK n r.2) (kas_descPart m r p):=by
 unfold kas_descPart;refine (qD hn _ g _ _).bind λr hr=>?_;split
 ·exact wF (fK.rev hr _ _) hn _ _
 ·exact wF hr hn _ _
theorem HP{p:Array Nat}(g:fK n p)(hn:0<n)(m:Nat):cX n lt (λr=>fK n r.2) (kas_count m p):=by
 unfold kas_count;refine (yB g hn _ _).bind λk _=>?_;split
 ·exact g
 ·split
  ·refine ⟨g.bd hn _,g.bd hn _,?_⟩;cases lt (p.getD 0 0) (p.getD (k-1) 0) with
   | true=>exact g
   | false=>exact qC (g.rev _ _) hn _ _
  ·exact qC g hn _ _
theorem rQ{p:Array Nat}(g:fK n p)(hn:0<n)(k:Nat):∀(f l r:Nat),cX n lt (λ_=>True) (kas_place p k f l r)
 | 0,l,r=>True.intro
 | f+1,l,r=>by
  unfold kas_place;split
  ·exact True.intro
  ·refine ⟨g.bd hn _,g.bd hn _,?_⟩;cases lt (p.getD k 0) (p.getD ((l+r)/2) 0) with
   | true=>exact rQ g hn k f _ _
   | false=>exact rQ g hn k f _ _
theorem FB(hn:0<n):∀(f:Nat) {p:Array Nat}(g:fK n p) (k:Nat),cX n lt (fK n) (kas_bin f p k)
 | 0,p,g,k=>g
 | f+1,p,g,k=>by
  unfold kas_bin;exact (rQ g hn k _ _ _).bind λl _=>FB hn f (g.bub _ _) _
theorem LS(hn:0<n):cX n lt (fK n) (kas_sort n):=by
 unfold kas_sort;refine (HP (Array.Perm.refl _) hn n).bind λr hr=>?_;split
 ·exact FB hn _ hr _
 ·exact hr
end
structure AX(n:Nat)(lt:Nat->Nat->Bool):Prop where
 tot:∀i j,i<n->j<n->i≠j->lt i j=false->lt j i=true
 tra:∀i j k,lt i j=true->lt j k=true->lt i k=true
def uY(lt:Nat->Nat->Bool)(p:Array Nat)(m:Nat):Prop:=∀a b,a<b->b<m->lt (p.getD a 0) (p.getD b 0)=true
def RQ(lt:Nat->Nat->Bool)(p:Array Nat)(m:Nat):Prop:=∀a b,a<b->b<m->lt (p.getD b 0) (p.getD a 0)=true
section
variable{n:Nat}{lt:Nat->Nat->Bool}
theorem cX.mono{α:Type}{R S:α->Prop}(k:∀a,R a->S a):∀{t:KasT α},cX n lt R t->cX n lt S t
 | .ret a,h=>k a h
 | .ask i j t,⟨h1,h2,h3⟩=>⟨h1,h2,cX.mono k (t:=t (lt i j)) h3⟩
theorem fK.size{p:Array Nat}(g:fK n p):p.size=n:=by
 have:=(Array.perm_iff_toList_perm.mp g).length_eq;simpa using this
theorem fK.ne{p:Array Nat}(g:fK n p){i j:Nat}(hi:i<n)(hj:j<n)(h:i≠j):p.getD i 0≠p.getD j 0:=by
 have hn:p.toList.Nodup:=(Array.perm_iff_toList_perm.mp g).nodup_iff.mpr (by simpa using List.nodup_range);have hs:=g.size;have e1:p.getD i 0=p.toList[i]'(by simpa [hs] using hi):=by simp [Array.getD,hs,hi]
 have e2:p.getD j 0=p.toList[j]'(by simpa [hs] using hj):=by simp [Array.getD,hs,hj]
 rw [e1,e2];intro e;exact h ((List.getElem_inj hn).mp e)
theorem uY.one{p:Array Nat}:uY lt p 1:=λa b h1 h2=>Oo
theorem uY.more(O:AX n lt){p:Array Nat}(g:fK n p){m:Nat}(h:uY lt p m)(h1:1<=m)(hm:m<n)(e:lt (p.getD m 0) (p.getD (m-1) 0)=false):uY lt p (m+1):=λa b hab hb=>by
 by_cases q:b<m
 ·exact h a b hab q
 ·have e':b=m:=Oo;subst e';have l1:lt (p.getD (b-1) 0) (p.getD b 0)=true:=O.tot _ _ (g.bd Oo _) (g.bd Oo _) (g.ne Oo Oo Oo) e;by_cases r:a=b-1
  ·rw [r];exact l1
  ·exact O.tra _ _ _ (h a (b-1) Oo Oo) l1
theorem xY(O:AX n lt){p:Array Nat}(g:fK n p):∀(f m:Nat),1<=m->m+f<=n->uY lt p m->cX n lt (λk=>m<=k/\k<=m+f/\uY lt p k/\(k<m+f->lt (p.getD k 0) (p.getD (k-1) 0)=true)) (kas_asc p f m)
 | 0,m,_,_,h=>⟨aF _,aF _,h,λq=>Oo⟩
 | f+1,m,h1,hm,h=>by
  refine ⟨g.bd Oo _,g.bd Oo _,?_⟩;cases e:lt (p.getD m 0) (p.getD (m-1) 0) with
  | true=>exact ⟨aF _,Oo,h,λ_=>e⟩
  | false =>
   refine (show cX n lt _ (kas_asc p f (m+1)) from ?_);have ih:=xY O g f (m+1) Oo Oo (h.more O g h1 Oo e);exact cX.mono (λk ⟨a1,a2,a3,a4⟩=>⟨Oo,Oo,a3,λq=>a4 Oo⟩) ih
theorem RQ.more(O:AX n lt){p:Array Nat}{m:Nat}(h:RQ lt p m)(h1:1<=m)(e:lt (p.getD m 0) (p.getD (m-1) 0)=true):RQ lt p (m+1):=λa b hab hb=>by
 by_cases q:b<m
 ·exact h a b hab q
 ·have e':b=m:=Oo;subst e';by_cases r:a=b-1
  ·rw [r];exact e
  ·exact O.tra _ _ _ e (h a (b-1) Oo Oo)
theorem AG(O:AX n lt){p:Array Nat}(g:fK n p):∀(f m:Nat),1<=m->m+f<=n->RQ lt p m->cX n lt (λr=>r.1=p/\r.2.2=0/\m<=r.2.1/\r.2.1<=m+f/\RQ lt p r.2.1) (kas_desc f p m 0)
 | 0,m,_,_,h=>⟨rfl,rfl,aF _,aF _,h⟩
 | f+1,m,h1,hm,h=>by
  refine ⟨g.bd Oo _,g.bd Oo _,?_⟩;cases e:lt (p.getD m 0) (p.getD (m-1) 0) with
  | true =>
   refine (show cX n lt _ (kas_desc f p (m+1) 0) from ?_);exact cX.mono (λr ⟨a1,a2,a3,a4,a5⟩=>⟨a1,a2,Oo,Oo,a5⟩) (AG O g f (m+1) Oo Oo (h.more O h1 e))
  | false =>
   refine ⟨g.bd Oo _,g.bd Oo _,?_⟩;rw [O.tot _ _ (g.bd Oo _) (g.bd Oo _) (g.ne Oo Oo Oo) e];exact ⟨rfl,rfl,aF _,(show m<=m+(f+1) by omega),h⟩
theorem JQ{p:Array Nat}{m i:Nat}(hm:m<=p.size):(kas_rev p 0 m).getD i 0=if i<m then p.getD (m-1-i) 0 else p.getD i 0:=by
 have e:=getElem?_mirror (xs:=p) (i:=0) (j:=m) hm (m/2) Oo i;have e':(kas_rev p 0 m)[i]?=if (0<=i/\i<0+m/2)\/(m-m/2<=i/\i<m) then p[0+m-1-i]? else p[i]?:=e
 have g:∀(q:Array Nat) (k:Nat),q.getD k 0=q[k]?.getD 0:=λq k=>by simp [Array.getD_eq_getD_getElem?]
 rw [g,e',g,g];by_cases h:i<m
 ·rw [if_pos h];by_cases h2:(0<=i/\i<0+m/2)\/(m-m/2<=i/\i<m)
  ·rw [if_pos h2,show 0+m-1-i=m-1-i by omega]
  ·rw [if_neg h2,show m-1-i=i by omega]
 ·rw [if_neg h,if_neg Oo]
theorem RQ.rev{p:Array Nat}{m:Nat}(h:RQ lt p m)(hm:m<=p.size):uY lt (kas_rev p 0 m) m:=λa b hab hb=>by
 rw [JQ hm,JQ hm,if_pos Oo,if_pos hb];exact h _ _ Oo Oo
theorem GY(O:AX n lt){p:Array Nat}(g:fK n p)(hn:2<=n):cX n lt (λr=>fK n r.2/\1<=r.1/\r.1<=n/\uY lt r.2 r.1) (kas_count n p):=by
 unfold kas_count;refine (xY O g (n-1) 1 (aF _) Oo uY.one).bind λk ⟨k1,k2,k3,k4⟩=>?_;split
 ·exact ⟨g,k1,by show k<=n;omega,k3⟩
 ·rename_i hk
  have hkn:k≠n:=λe=>hk (by simp [e]);split
  ·refine ⟨g.bd Oo _,g.bd Oo _,?_⟩;rw [k3 0 (k-1) Oo Oo];exact ⟨g,k1,by show k<=n;omega,k3⟩
  ·have e1:k=1:=Oo;subst e1;unfold kas_descPart;have d2:RQ lt p 2:=λa b hab hb=>by
    have e:a=0/\b=1:=Oo;rw [e.1,e.2];exact k4 Oo
   refine (AG O g (n-2) 2 Oo Oo d2).bind λr ⟨r1,r2,r3,r4,r5⟩=>?_;obtain ⟨p',m,q⟩:=r;dsimp only at r1 r2 r3 r4 r5 ⊢;subst r1 r2;rw [if_neg yd];unfold kas_tail3;have hs:=g.size;refine (xY O (g.rev 0 m) (n-m) m Oo Oo (r5.rev Oo)).bind λk' ⟨a1,a2,a3,_⟩=>?_;exact ⟨g.rev 0 m,(show 1<=k' by omega),(show k'<=n by omega),a3⟩
theorem qU(O:AX n lt){p:Array Nat}(g:fK n p){k:Nat}(hk:k<n)(h:uY lt p k):∀(f l r:Nat),l<=r->r<=k->r-l<=f->(∀a,a<l->lt (p.getD a 0) (p.getD k 0)=true)->(∀a,r<=a->a<k->lt (p.getD k 0) (p.getD a 0)=true) ->
  cX n lt (λm=>m<=k/\(∀a,a<m->lt (p.getD a 0) (p.getD k 0)=true)/\∀a,m<=a->a<k->lt (p.getD k 0) (p.getD a 0)=true) (kas_place p k f l r)
 | 0,l,r,h1,h2,h3,h4,h5=>⟨Oo,h4,λa q1 q2=>h5 a Oo q2⟩
 | f+1,l,r,h1,h2,h3,h4,h5=>by
  unfold kas_place;split
  ·exact ⟨Oo,h4,λa q1 q2=>h5 a Oo q2⟩
  ·refine ⟨g.bd Oo _,g.bd Oo _,?_⟩;cases e:lt (p.getD k 0) (p.getD ((l+r)/2) 0) with
   | true =>
    refine (show cX n lt _ (kas_place p k f l ((l+r)/2)) from ?_);refine qU O g hk h f l ((l+r)/2) Oo Oo Oo h4 λa q1 q2=>?_;by_cases q:a=(l+r)/2
    ·rw [q];exact e
    ·exact O.tra _ _ _ e (h _ _ Oo q2)
   | false =>
    refine (show cX n lt _ (kas_place p k f ((l+r)/2+1) r) from ?_);have e2:=O.tot _ _ (g.bd Oo _) (g.bd Oo _) (g.ne hk Oo Oo) e;refine qU O g hk h f ((l+r)/2+1) r Oo Oo Oo (λa q1=>?_) h5;by_cases q:a=(l+r)/2
    ·rw [q];exact e2
    ·exact O.tra _ _ _ (h a ((l+r)/2) Oo Oo) e2
theorem LP{p:Array Nat}{k m i:Nat}(hk:k<p.size)(hm:m<=k):(bubble p k (k-m)).getD i 0=if i=m then p.getD k 0 else if m<i/\i<=k then p.getD (i-1) 0 else p.getD i 0:=by
 have e:=getElem?_bubble (xs:=p) hk (k-m) Oo i;have g:∀(q:Array Nat) (k:Nat),q.getD k 0=q[k]?.getD 0:=λq k=>by simp [Array.getD_eq_getD_getElem?]
 rw [g,e,g,g,g,show k-(k-m)=m by omega];by_cases h:i=m
 ·rw [if_pos h,if_pos h]
 ·rw [if_neg h,if_neg h];by_cases h2:m<i/\i<=k
  ·rw [if_pos h2,if_pos h2]
  ·rw [if_neg h2,if_neg h2]
theorem EZ(O:AX n lt):∀(f:Nat) {p:Array Nat}(g:fK n p) (k:Nat),k+f=n->uY lt p k->cX n lt (λp=>fK n p/\uY lt p n) (kas_bin f p k)
 | 0,p,g,k,hk,h=>⟨g,by rw [<-hk];exact h⟩
 | f+1,p,g,k,hk,h=>by
  unfold kas_bin;refine (qU O g Oo h k 0 k Oo Oo Oo (λa q=>Oo) (λa q1 q2=>Oo)).bind λm ⟨m1,m2,m3⟩=>?_;have hs:=g.size;refine EZ O f (g.bub _ _) (k+1) Oo λa b hab hb=>?_;rw [LP Oo m1,LP Oo m1];by_cases ha:a=m
  ·rw [if_pos ha,if_neg Oo,if_pos Oo];exact m3 _ Oo Oo
  ·rw [if_neg ha];by_cases hb':b=m
   ·rw [if_pos hb',if_neg Oo];exact m2 a Oo
   ·rw [if_neg hb'];by_cases q1:m<a/\a<=k
    ·rw [if_pos q1,if_pos Oo];exact h _ _ Oo Oo
    ·rw [if_neg q1];by_cases q2:m<b/\b<=k
     ·rw [if_pos q2];exact h _ _ Oo Oo
     ·rw [if_neg q2];exact h _ _ hab Oo
theorem JD(O:AX n lt)(hn:2<=n):cX n lt (λp=>fK n p/\uY lt p n) (kas_sort n):=by
 unfold kas_sort;refine (GY O (Array.Perm.refl _) hn).bind λr ⟨h1,h2,h3,h4⟩=>?_;split
 ·rename_i q
  rw [Nat.max_eq_left h2];exact EZ O _ h1 _ Oo h4
 ·rename_i q
  have e:r.1=n:=Oo;exact ⟨h1,e ▸ h4⟩
end
end HT
namespace L2
open PySem PySem.Spec PySem.W PyProof.Rows HT
theorem DC{x:V}{xs:List V}{us:List Value}(r:dA (x::xs) us):∃u us',us=u::us'/\dE x u/\dA xs us':=by
 cases r with
 | cons h t=>exact ⟨_,_,rfl,h,t⟩
def zU(fin:Bool):List Int->List Int->Bool
 | x::a,y::b=>if x=y then zU fin a b else decide (x<y)
 | _,_=>fin
def mC(a b:List Int):Bool:=zU (decide (a.length<b.length)) a b
theorem tY(a:List Int):mC a []=false:=by
 unfold mC;cases a <;> rfl
theorem xQ(y:Int)(b:List Int):mC [] (y::b)=true:=by unfold mC;rfl
theorem xR(x y:Int)(a b:List Int):mC (x::a) (y::b)=if x=y then mC a b else decide (x<y):=by
 show (if x=y then zU (decide ((x::a).length<(y::b).length)) a b else decide (x<y))=_;rw [dG,dG,show decide (a.length+1<b.length+1)=decide (a.length<b.length) by simp]
 rfl
theorem ED:∀{a b:List Int},a≠b->mC a b=false->mC b a=true
 | [],[],h,_=>absurd rfl h
 | [],y::b,_,e=>by rw [xQ] at e;cases e
 | x::a,[],_,_=>xQ _ _
 | x::a,y::b,h,e=>by
  rw [xR] at e ⊢;by_cases q:x=y
  ·subst q;rw [if_pos rfl] at e ⊢;exact ED (λz=>h (by rw [z])) e
  ·rw [if_neg q] at e;rw [if_neg (Ne.symm q)];have:=of_decide_eq_false e;exact eA Oo
theorem xO:∀{a b c:List Int},mC a b=true->mC b c=true->mC a c=true
 | a,b,[],_,h=>by rw [tY] at h;cases h
 | [],b,z::c,_,_=>xQ _ _
 | x::a,[],z::c,h,_=>by rw [tY] at h;cases h
 | x::a,y::b,z::c,h1,h2=>by
  rw [xR] at h1 h2 ⊢;by_cases q1:x=y
  ·subst q1;rw [if_pos rfl] at h1;by_cases q2:x=z
   ·subst q2;rw [if_pos rfl] at h2 ⊢;exact xO h1 h2
   ·rw [if_neg q2] at h2 ⊢;exact h2
  ·rw [if_neg q1] at h1;have h1:=of_decide_eq_true h1;by_cases q2:y=z
   ·subst q2;rw [if_neg q1];exact eA h1
   ·rw [if_neg q2] at h2;have h2:=of_decide_eq_true h2;rw [if_neg Oo];exact eA Oo
theorem xP{a:List Int}:mC a a=false:=by
 induction a with
 | nil=>exact tY _
 | cons x a ih=>rw [xR,if_pos rfl];exact ih
theorem zT:∀{l m:List (List Int)},l.Pairwise (λa b=>mC a b=true)->m.Pairwise (λa b=>mC a b=true)->(∀x,x∈l↔x∈m)->l=m
 | [],[],_,_,_=>rfl
 | [],y::m,_,_,h=>by have:=(h y).mpr (aO ..);cases this
 | x::l,[],_,_,h=>by have:=(h x).mp (aO ..);cases this
 | x::l,y::m,h1,h2,h=>by
  obtain ⟨a1,a2⟩:=List.pairwise_cons.mp h1;obtain ⟨b1,b2⟩:=List.pairwise_cons.mp h2;have e:x=y:=by
   rcases bE.mp ((h x).mp (aO ..)) with q | q
   ·exact q
   ·rcases bE.mp ((h y).mpr (aO ..)) with r | r
    ·exact r.symm
    ·have:=xO (b1 x q) (a1 y r);rw [xP] at this;cases this
  subst e;rw [zT a2 b2 λz=>?_];constructor
  ·intro q;rcases bE.mp ((h z).mp (aK _ q)) with r | r
   ·subst r;have:=a1 z q;rw [xP] at this;cases this
   ·exact r
  ·intro q;rcases bE.mp ((h z).mpr (aK _ q)) with r | r
   ·subst r;have:=b1 z q;rw [xP] at this;cases this
   ·exact r
abbrev EC(cs:List (List Int)):Nat->Nat->Bool:=λi j=>mC (cs.getD i []) (cs.getD j [])
theorem UL{cs:List (List Int)}(h:cs.Nodup):AX cs.length (EC cs):=⟨λi j hi hj ne e=>ED (λz=>by
  have e1:cs.getD i []=cs[i]:=by simp [hi]
  have e2:cs.getD j []=cs[j]:=by simp [hj]
  rw [e1,e2] at z;exact ne ((List.getElem_inj h).mp z)) e,λi j k h1 h2=>xO h1 h2⟩
section
variable{prog:Program}{w:World}{A:Around}{E:Value->Shared->Prop}{s:Shared}{Q:Bool->Shared->Prop}
theorem sH{fin:Bool}:∀{a b:List Int}{us vs:List Value}{i:Nat},dA (a.map V.int) us->dA (b.map V.int) vs->Q (zU fin a b) s->KatLex prog w A true fin Q (us.zip vs) i s
 | [],b,us,vs,i,ha,hb,q=>by cases ha;exact kat_nil (by unfold zU at q;exact q)
 | x::a,[],us,vs,i,ha,hb,q=>by
  cases hb;cases us with
  | nil=>exact kat_nil (by unfold zU at q;exact q)
  | cons u us=>exact kat_nil (by unfold zU at q;exact q)
 | x::a,y::b,us,vs,i,ha,hb,q=>by
  rw [bI] at ha hb;obtain ⟨u,us',rfl,⟨t,rfl⟩,ra⟩:=DC ha;obtain ⟨v,vs',rfl,⟨t',rfl⟩,rb⟩:=DC hb;rw [List.zip_cons_cons];refine kat_cons (wpAny_eqBool_int ?_);unfold zU at q;by_cases h:x=y
  ·rw [if_pos h] at q;rw [show (x == y)=true by simp [h]];exact kat_yes (sH ra rb q)
  ·rw [if_neg h] at q;rw [show (x == y)=false by simp [h]];refine kat_no ?_;cases (true&&i == 0) with
   | true=>exact oneLt_int q
   | false=>exact kat_one _ _ (lt_int q)
def RJ(h:Heap)(v:Value)(c:List Int):Prop:=∃b its,v=.ref b/\IsTup h b (List.toArray its)/\dA (c.map V.int) its/\c≠[]
abbrev iL(h:Heap):List Value->List (List Int)->Prop:=Paired (RJ h)
theorem iL.get{h:Heap}:∀{vs:List Value}{cs:List (List Int)}{i:Nat},iL h vs cs->i<vs.length->RJ h (vs.getD i Value.none) (cs.getD i [])
 | _,_,_,.nil,hi=>by simp at hi
 | _,_,0,.cons t r,hi=>t
 | v::vs,c::cs,i+1,.cons t r,hi=>by
  have:=iL.get (i:=i) r (by simpa using hi);simpa using this
theorem iL.firsts{h:Heap}:∀{vs:List Value}{cs:List (List Int)},iL h vs cs->∃fs,KatTups h vs fs/\fs.length=vs.length/\∀v∈fs,∃i t,v=Value.int i t
 | _,_,.nil=>⟨[],KatTups.nil,rfl,λv hv=>by cases hv⟩
 | v::vs,c::cs,.cons t r=>by
  obtain ⟨fs,h1,h2,h3⟩:=iL.firsts r;obtain ⟨b,its,rfl,⟨o,ho,hc,n,hd⟩,hv,hne⟩:=t;cases c with
  | nil=>exact absurd rfl hne
  | cons x c =>
   rw [bI] at hv;obtain ⟨u,us,rfl,⟨t,rfl⟩,_⟩:=DC hv;exact ⟨.int x t::fs,KatTups.cons ho hc hd (by simp) h1,by simp [h2],λv hv=>by
    rcases bE.mp hv with rfl | hv
    ·exact ⟨_,_,rfl⟩
    ·exact h3 v hv⟩
theorem iL.keep{h h':Heap}(k:∀b o,h.get? b=some o->o.cls=.type "tuple" -> h'.get? b=some o):∀{vs:List Value}{cs:List (List Int)},iL h vs cs->iL h' vs cs
 | _,_,.nil=>.nil
 | _,_,.cons ⟨b,its,e,⟨o,ho,hc,hd⟩,hv,hne⟩ r=>.cons ⟨b,its,e,⟨o,k b o ho hc,hc,hd⟩,hv,hne⟩ (iL.keep k r)
theorem JE{n:Nat}{lt:Nat->Nat->Bool}(hn:2<=n):cX n lt (λp=>fK n p/\(AX n lt->uY lt p n)) (kas_sort n):=by
 by_cases O:AX n lt
 ·exact cX.mono (λp h=>⟨h.1,λ_=>h.2⟩) (JD O hn)
 ·exact cX.mono (λp h=>⟨h,λz=>absurd z O⟩) (LS Oo)
theorem FY{a:Addr}{vs:List Value}{cs:List (List Int)}{n:Nat}{P:PySem.Fin->Shared->Prop}(ho:s.heap.get? a=some (seqObj "list" vs.toArray n))(ht:iL s.heap vs cs)(h64:vs.length<64)
  (h:∀p:Array Nat,fK vs.length p->(AX vs.length (EC cs)->uY (EC cs) p vs.length)->P (.done (.ret .none)) { s with heap:=sortedHeap s.heap a vs (List.toArray (p.toList.map λi=>vs.getD i Value.none)) }) :
  wpAny (model prog w) A (Builtin.«list.sort» ⟨[.ref a],[]⟩) P E s:=by
 rw [list_sort_plain];have ha:a<s.heap.objs.size:=aV ho;refine wpAny_bind (listItems_at ho rfl ?_);refine wpAny_bind (listUpdate_at ho rfl ?_ (by rw [aU,sizeLine_eq];omega) (cM _));obtain ⟨e1,ho1⟩:∃e1,(s.heap.update a (Obj.mapSeq λ_=>#[])).get? a=some (seqObj "list" #[] e1):=⟨_,get?_update_seq ho (λ_=>#[])⟩;refine wpAny_bind (seqEpoch_at ho1 rfl ?_);refine wpAny_bind (wpAny_newTuple ?_ (by show vs.length<=_;rw [sizeLine_eq];omega));refine wpAny_bind (wpAny_newList ?_ (cM _));refine wpAny_holding ?_;have ho6:(((s.heap.update a (Obj.mapSeq λ_=>#[])).push (seqObj "tuple" vs.toArray 0)).push (seqObj "list" #[] 0)).get? a=some (seqObj "list" #[] e1):=by
  rw [Heap.get?_push_ne _ _ _ (by rw [size_push',Heap.size_update];exact dD (Nat.lt_succ_of_lt ha)),Heap.get?_push_ne _ _ _ (by rw [Heap.size_update];exact dD ha)];exact ho1
 show wpAny (model prog w) A _ P E { s with heap:=((s.heap.update a (Obj.mapSeq λ_=>#[])).push (seqObj "tuple" vs.toArray 0)).push (seqObj "list" #[] 0) };dsimp only;have fin:∀st':SortSt,∀p:Array Nat,fK vs.length p->(AX vs.length (EC cs)->uY (EC cs) p vs.length)->(arrOf st').map (·.2)=List.toArray (p.toList.map λi=>vs.getD i Value.none) ->
   P (.done (.ret .none)) { s with heap:=sortedHeap s.heap a vs ((arrOf st').map (·.2)) }:=by
  intro st' p hp ho hs;rw [hs];exact h p hp ho
 have ht6:iL (((s.heap.update a (Obj.mapSeq λ_=>#[])).push (seqObj "tuple" vs.toArray 0)).push (seqObj "list" #[] 0)) vs cs:=ht.keep λb o hb hc=>by
  have hne:b≠a:=λe=>by
   subst e;rw [ho] at hb;cases hb;exact absurd (show Value.type "list" = Value.type "tuple" from hc) yd
  exact aC _ (aC _ (by rw [Heap.get?_update_ne _ _ _ _ hne];exact hb))
 by_cases h2:vs.toArray.size<2
 ·rw [if_pos h2,if_pos h2];refine wpAny_bind (wpAny_pure ?_);rw [StateT.run_pure];refine wpAny_bind (wpAny_pure ?_);dsimp only;refine wpAny_bind (seqEpoch_at ho6 rfl ?_);refine wpAny_bind (listUpdate_at ho6 rfl ?_ (hsz2:=by rw [Array.size_map];show (pairsOf vs).size<=_;rw [pairsOf_size,sizeLine_eq];omega));simp only [bne_self_eq_false,Bool.false_eq_true,if_false];refine wpAny_pure (fin (SortSt.mk' general' (vs.toArray.zip vs.toArray) #[] 7 none) (List.toArray (List.range vs.length)) (Array.Perm.refl _) (λ_ a b h1 h3=>by rw [aU] at h2;omega) ?_);have e:=kat_snds (ks:=vs) (vs:=vs) (st:=SortSt.mk' general' (vs.toArray.zip vs.toArray) #[] 7 none) (p:=List.toArray (List.range vs.length)) rfl (by
   have e:=kas_range (vs.toArray.zip vs.toArray);rw [show (vs.toArray.zip vs.toArray).size=vs.length by simp] at e;exact e.symm)
  exact e
 ·rw [if_neg h2,if_neg h2];have hl2:2<=vs.length:=by rw [aU] at h2;omega
  obtain ⟨fs,k1,k2,k3⟩:=ht6.firsts;refine wpAny_bind (kat_kind (T:=.type "int") k1 Oo (λv hv=>?_) rfl ?_)
  ·obtain ⟨i,t,rfl⟩:=k3 v hv;exact .now
  refine wpAny_bind (wpAny_mono (kat_run (ks:=vs) (vs:=vs) (G:=λp s'=>s'={ s with heap:=((s.heap.update a (Obj.mapSeq λ_=>#[])).push (seqObj "tuple" vs.toArray 0)).push (seqObj "list" #[] 0) }/\fK vs.length p/\(AX vs.length (EC cs)->uY (EC cs) p vs.length))
   (Q:=λst' s'=>s'={ s with heap:=((s.heap.update a (Obj.mapSeq λ_=>#[])).push (seqObj "tuple" vs.toArray 0)).push (seqObj "list" #[] 0) }/\failedOf st'=none/\∃p:Array Nat,p.size=vs.length/\(fK vs.length p/\(AX vs.length (EC cs)->uY (EC cs) p vs.length))/\arrOf st'=p.map (kas_item (vs.toArray.zip vs.toArray)))
   rfl hl2 h64 (λp' st' s' a1 a2 a3 a4=>⟨a4.1,a3,p',a1,a4.2,a2⟩)
   (cX.wp (n:=vs.length) (lt:=EC cs) (R:=λp=>fK vs.length p/\(AX vs.length (EC cs)->uY (EC cs) p vs.length)) (λi j C hi hj hC=>?_) (λp hp=>⟨rfl,hp⟩) (JE hl2))) ?_ λ_ _ e=>e)
  ·obtain ⟨b,its,e1',⟨o,hb,hc,n',hd⟩,hv,_⟩:=ht6.get hi;obtain ⟨b2,its2,e2',⟨o2,hb2,hc2,n2,hd2⟩,hv2,_⟩:=ht6.get hj;unfold kas_ask;rw [e1',e2'];refine kat_lt hb hd hb2 hd2 ?_;refine sH hv hv2 ?_;have l1:=hv.length;have l2:=hv2.length;rw [aA] at l1 l2;rw [aU,aU,<-l1,<-l2];exact hC
  rintro ⟨⟨⟩,st'⟩ s' ⟨rfl,hf,p,hp,hg,har⟩;dsimp only;have hout:=kat_snds rfl har;refine wpAny_bind (seqEpoch_at ho6 rfl ?_);refine wpAny_bind (listUpdate_at ho6 rfl ?_ (hsz2:=by rw [hout,aU,aA,Array.length_toList,hp,sizeLine_eq];omega));rw [hf];simp only [bne_self_eq_false,Bool.false_eq_true,if_false];exact wpAny_pure (fin st' p hg.1 hg.2 hout)
end
theorem DE{X:Cx}{pins:List (Addr × Obj)}{σ:St}{H:Hp}{s:Shared}(I:cA X pins σ H s):∀{cs:List (List Int)}{ys:List V}{us:List Value},bF H (cs.map λc=>PyData.tuple (c.map .int)) ys->(∀c∈cs,c≠[])->dA ys us->iL s.heap us cs
 | [],ys,us,r,hc,v=>by
  unfold bF at r;cases (show ys=[] from r);cases v;exact .nil
 | c::cs,ys,us,r,hc,v=>by
  rw [bI] at r;unfold bF at r;obtain ⟨y,ys',rfl,r1,r2⟩:=r;obtain ⟨u,us',rfl,rv,v'⟩:=DC v;refine .cons ?_ (DE I r2 (λc h=>hc c (aK _ h)) v');unfold cB at r1;obtain ⟨a,xs,rfl,h1,h2⟩:=r1;cases rv;obtain ⟨its,rr,pl,hzz⟩:=I.tuple (gK.of h1);have hx:xs=c.map V.int:=by
   clear rr h1 hc hzz
   induction c generalizing xs with
   | nil=>unfold bF at h2;exact h2
   | cons z c ih =>
    rw [bI] at h2;unfold bF at h2;obtain ⟨x,xs',rfl,h3,h4⟩:=h2;cases (show x=V.int z from h3);rw [ih _ h4];rfl
  subst hx;exact ⟨a,its,rfl,pl,rr,hc c (aO ..)⟩
theorem DB{ys:List V}{us:List Value}(v:dA ys us):∀ix:List Nat,(∀i∈ix,i<ys.length)->dA (ix.map λi=>ys.getD i .non) (ix.map λi=>us.getD i Value.none)
 | [],_=>.nil
 | i::ix,h=>by
  have hi:=h i (aO ..);obtain ⟨u,hu,ru⟩:=v.get (i:=i) (x:=ys[i]) (by simp [hi]);refine .cons ?_ (DB v ix λj hj=>h j (aK _ hj));have e1:ys.getD i .non=ys[i]:=by simp [hi]
  have e2:us.getD i Value.none=u:=by rw [bO,hu];rfl
  show dE (ys.getD i .non) (us.getD i Value.none);rw [e1,e2];exact ru
open Classical in
section
variable{X:Cx}{pins:List (Addr × Obj)}{σ:St}{H:Hp}{s:Shared}
end
section
variable{X:Cx}
end
end L2
namespace HT
open PySem PySem.Spec PyProof.Rows PySem.Builtin
theorem uP:typeLookup (.type "tuple") "keys" = pure none:=am_miss_of_fast Kk
section
variable{prog:Program}{w:World}{A:Around}{E:Value->Shared->Prop}{s:Shared}
theorem GO{a:Addr}{o:Obj}{xs:Array Value}{k:Nat}{Q:Option Value->Shared->Prop}(hx:s.heap.get? a=some o)(hc:o.cls=.type "tuple")(hdat:o.data=.seq xs k)(hd:o.dict=none)(hA:A.handled=none)
  (h:∀h' tk,(∀b u,s.heap.get? b=some u->h'.get? b=some u)->Q none { s with heap:=h',toks:=tk }):wpAny (model prog w) A (getAttr? (.ref a) "keys") Q E s:=by
 obtain ⟨c,dct,dat,sl⟩:=o;simp only at hc hdat hd;subst hc hdat hd;obtain ⟨hp,g,d,tk,os⟩:=s;have hT:∀tk',(⟨hp,g,d,tk',os⟩:Shared).TypeIs (.ref a) "tuple" := λ_=>⟨_,hx,rfl⟩;have f1:=sub_AttributeError;have f3:=F.slot_tuple_getattribute.lookup;have f4:=F.slot_tuple_getattribute.bind (.ref a);have f5:=am_tuple_getattr_none;unfold getAttr? getAttrBy? getAttrBy
 repeat (any_goals (first | assumption | exact hT _ | ((with_reducible show wpAny _ _ (call (Value.builtin "tuple.__getattribute__") _ _) _ _ _);refine call_meets F.slot_tuple_getattribute (hT _) am_entry_tuple_getattribute (F.args_tuple_getattribute_2 _ _) (meets_getattribute_miss_tuple a xs k sl "keys" _ uP yd) ⟨hx,hA,λh' tk' e hx'=>?_⟩) | wp_step))
 obtain ⟨t',u',he⟩:=hx'.there;show wpAny _ _ (getattributeRaised _ _ _ _ _ _ _) _ _ _;unfold getattributeRaised
 repeat (any_goals (first | assumption | wp_step))
 exact h _ _ hx'.keeps
end
theorem nZ:entryFor table "dict.update.loop" = some Builtin.«dict.update.loop» := entryFor_of_tree (by kernel_rfl)
theorem nX:plainId "dict.update.loop" = true:=Kk
section
variable{prog:Program}{w:World}{A:Around}{E:Value->Shared->Prop}{s:Shared}{K:Type}[DecidableEq K]{knd:HeapKind prog w K}
theorem MR{d it t:Addr}{i:Nat}{items:Array Value}{R:Result->Shared->Prop}(hA:A.handled=none)(hit:s.heap.IsTupleIter it t i)(ht:s.heap.IsTuple t items)(hx:items[i]?=none)
  (h:∀h',Heap.ExtBut it s.heap h'->R (.ok (.ret .none)) { s with heap:=h' }) :
  codeAny (model prog w) A (.builtin "dict.update.loop" ⟨[.ref d,.ref it,rawInt i,.none],[]⟩) R s:=by
 refine codeAny_builtin nZ ?_;rw [Around.under_plainId nX _];unfold Builtin.«dict.update.loop»;refine wpAny_bind (wpAny_pyNext_tuple_end hA hit ht hx λh' e=>?_);show wpAny _ _ (Dict.addKeywords d [] >>= λ_=>ret Value.none) _ _ _;exact wpAny_bind (wpAny_pure (wpAny_pure (h h' e)))
theorem uU{b:Addr}{its:Array Value}{Q:List Value->Shared->Prop}(hb:s.heap.IsTuple b its)(h:Q its.toList s):wpAny (model prog w) A (Dict.pairItems (.ref b)) Q E s:=by
 obtain ⟨o,ho,hc,n,hd⟩:=id hb;unfold Dict.pairItems;refine wpAny_bind (wpAny_typeOf hb.typeIs ?_);rw [if_pos yd];exact wpAny_bind (wpAny_seqItems ho hd (wpAny_pure h))
theorem IP{d it t b a:Addr}{i:Nat}{items:Array Value}{xs:List (K × Addr × Value)}{k:K}{v:Value}{R:Result->Shared->Prop}(hu:knd.room A.in1)(hit:s.heap.IsTupleIter it t i)(ht:s.heap.IsTuple t items)(hx:items[i]?=some (.ref b))
  (hb:s.heap.IsTuple b #[.ref a,v]) (nb:b≠it) (hk:∀h',(∀c o,c≠it->s.heap.get? c=some o->h'.get? c=some o)->knd.is h' k a/\h'.DictOfH knd d xs) (nd:d≠it) (hz:xs.length<=sizeLine)
  (h:∀h1 h' tk,(∀c o,c≠it->s.heap.get? c=some o->h1.get? c=some o)->Heap.SameBut d h1 h'->h'.DictOfH knd d (storedH xs k a v)->h'.IsTupleIter it t (i+1) ->
   codeAny (model prog w) A (.builtin "dict.update.loop" ⟨[.ref d,.ref it,rawInt ((i+1:Nat):Int),.none],[]⟩) R { s with heap:=h',toks:=tk }) :
  codeAny (model prog w) A (.builtin "dict.update.loop" ⟨[.ref d,.ref it,rawInt i,.none],[]⟩) R s:=by
 refine codeAny_builtin nZ ?_;rw [Around.under_plainId nX _];unfold Builtin.«dict.update.loop»;refine wpAny_bind (wpAny_pyNext_tuple_item hit ht hx λh' it' hs=>?_);have hk':∀c o,c≠it->s.heap.get? c=some o->h'.get? c=some o:=λc o hc e=>(hs.2 c hc).trans e;refine wpAny_bind (wpAny_holding ?_);refine wpAny_bind (wpAny_tryCatch ?_);have hb':h'.IsTuple b #[.ref a,v]:=by
  obtain ⟨o,ho,r⟩:=hb;exact ⟨o,hk' b o nb ho,r⟩
 refine uU (s:={ s with heap:=h' }) hb' ?_;show wpAny _ _ (holding [Value.ref a,v] (dictSet d (.ref a) v)) _ _ _;have hm':=(hk h' hk').2;refine wpAny_holding (wpAny_dictSet_heap (s:={ s with heap:=h' }) hu (hk h' hk').1 hm' (λh2 hm2 hs2=>?_) hz);refine wpAny_pure ⟨Code.quiet_builtin _ Kk,?_⟩;have hn:=h h' h2 (s.toks+knd.draws k) hk' hs2 hm2 (by
  obtain ⟨o,ho,r⟩:=it';exact ⟨o,(hs2.2 it (Ne.symm nd)).trans ho,r⟩)
 rw [show ((i+1:Nat):Int)=(i:Int)+1 from Oo] at hn;exact hn
end
end HT
namespace L2
open PySem PySem.Spec PySem.W PyProof.Rows HT
def AW(H:Hp)(y:V)(p:List eG × V):Prop:=∃b a,y=.ref b/\H b=some (.tup [.ref a,p.2])/\H a=some (.tup (p.1.map kV))
section
variable{X:Cx}{pins:List (Addr × Obj)}{σ:St}{H:Hp}
theorem KT.isAll{P:Program}{w:World}{H:Hp}{h:Heap}(ok:mK P w H h){l:List (List eG × V)}{m:List (List eG × Addr × Value)}(q:KT H l m):∀x∈m,(tupleKind (eB P w)).is h x.1 x.2.1:=by
 unfold KT at q
 induction q with
 | nil=>intro x hx;exact nomatch hx
 | @cons p q ps qs hq t ih =>
  intro x hx;rcases bE.mp hx with e | hx
  ·subst e;exact nE ok (by rw [<-hq.1];exact hq.2.1)
  ·exact ih x hx
theorem vY{D it t:Addr}{ys:List V}{R:Result->Shared->Prop}(hu:X.A.units+8<cLine)(hA:X.A.handled=none)(hD:H D=none)(ht:H t=some (.tup ys))(nit:it≠D) :
  ∀(rest:List (List eG × V)) (i:Nat) (kvs:List (List eG × V)) (s:Shared),cA X pins σ (upd H D (.dT kvs)) s->jB X pins (upd H D (.dT kvs)) it->s.heap.IsTupleIter it t i->Paired (AW H) (ys.drop i) rest->((kvs++rest).map (·.1)).Nodup->(kvs++rest).length<=1000 ->
   (∀s',cA X pins σ (upd H D (.dT (kvs++rest))) s'->R (.ok (.ret .none)) s')->codeAny (model X.prog X.w) X.A.in1 (.builtin "dict.update.loop" ⟨[.ref D,.ref it,rawInt i,.none],[]⟩) R s
 | [],i,kvs,s,I,fp,hit,pr,nd,hz,k=>by
  have ntD:t≠D:=λe=>by subst e;rw [hD] at ht;cases ht
  obtain ⟨its,r,pl,_⟩:=I.tuple (gK.of (show upd H D (.dT kvs) t=some (.tup ys) by rw [cS ntD];exact ht));have hl:ys.length<=i:=by
   generalize hq:ys.drop i=l at pr;cases pr;exact List.drop_eq_nil_iff.mp hq
  have hl2:=r.length;rw [List.append_nil] at k;refine MR hA hit pl (by rw [Array.getElem?_eq_none];simp;omega) λh' e=>k _ ?_;exact I.turnedL (t':=s.toks) (fp:=[it]) (λb o hb x=>e b o (by simpa using hb) x) (λb hb=>by
   cases (show b=it by simpa using hb);exact fp)
 | p::rest,i,kvs,s,I,fp,hit,pr,nd,hz,k=>by
  have ntD:t≠D:=λe=>by subst e;rw [hD] at ht;cases ht
  obtain ⟨its,r,pl,_⟩:=I.tuple (gK.of (show upd H D (.dT kvs) t=some (.tup ys) by rw [cS ntD];exact ht));generalize hq:ys.drop i=l at pr;cases pr with
  | @cons y _ ys' _ hy pr' =>
   obtain ⟨b,a,rfl,hb,ha⟩:=hy;have hi:i<ys.length:=by
    by_cases h:i<ys.length
    ·exact h
    ·rw [List.drop_eq_nil_iff.mpr Oo] at hq;cases hq
   have hyi:ys[i]?=some (.ref b):=by
    have:=List.drop_eq_getElem_cons hi;rw [hq] at this;injection this with h1 h2;rw [aB hi,<-h1]
   have hys':ys.drop (i+1)=ys':=by
    have:=List.drop_eq_getElem_cons hi;rw [hq] at this;injection this with h1 h2;exact h2.symm
   obtain ⟨u,hu',ru⟩:=r.get hyi;cases ru;have nbD:b≠D:=λe=>by subst e;rw [hD] at hb;cases hb
   have naD:a≠D:=λe=>by subst e;rw [hD] at ha;cases ha
   have hb2:upd H D (.dT kvs) b=some (.tup [.ref a,p.2]):=by rw [cS nbD];exact hb
   have ha2:upd H D (.dT kvs) a=some (.tup (p.1.map kV)):=by rw [cS naD];exact ha
   obtain ⟨itb,rb,plb,_⟩:=I.tuple (gK.of hb2);obtain ⟨ua,uv,rfl,ra,rv⟩:=QJ rb;cases ra;have nb:b≠it:=λe=>by have:=fp.1;rw [<-e,hb2] at this;cases this
   obtain ⟨z,hdm,xs,rel,o,es,ep,h1,h2,h3,h4,h5⟩:=(show dY X.prog X.w (upd H D (.dT kvs)) s.heap D (.dT kvs) from I.hok D _ bK);have hturn:∀h' tk,(∀c o,c≠it->s.heap.get? c=some o->h'.get? c=some o)->cA X pins σ (upd H D (.dT kvs)) { s with heap:=h',toks:=tk }:=λh' tk kp =>
    I.turnedL (t':=tk) (fp:=[it]) (λb o hb x=>kp b o (by simpa using hb) x) (λb hb=>by
     cases (show b=it by simpa using hb);exact fp)
   have lxs:xs.length=kvs.length:=(Paired.length rel).symm;refine IP (knd:=tupleKind (eB X.prog X.w)) (xs:=xs) (k:=p.1) (v:=uv) (b:=b) (a:=a) (show _<_ by show X.A.in1.in1.units<cLine;exact bJ (show X.A.in1.in1.units<=X.A.units+2 from aF _) Oo) hit pl (by simpa using hu') plb nb (λh' kp=>⟨nE (hturn h' s.toks kp).hok ha2,o,es,ep,kp D o (Ne.symm nit) h1,h2,h3,h4,KT.isAll (hturn h' s.toks kp).hok rel,h5⟩) (Ne.symm nit) Oo λhh1 hh2 tk kp hs2 hm2 hit2=>?_;have I1:=hturn hh1 s.toks kp;obtain ⟨q,es2,ep2,hq2,g2,g3,g4,_,g5⟩:=hm2;have hkn:eY kvs p.1=none:=by
    rw [bN,bI] at nd;have hnot:=(List.nodup_append.mp nd).2.2;cases hv:eY kvs p.1 with
    | none=>rfl
    | some v=>exact absurd rfl (hnot _ (wP hv) p.1 (aO ..))
   have hlp:(jV kvs p.1 p.2).length<=sizeLine:=by
    have h6:=gG kvs p.1 p.2;rw [bC,dG] at hz;have h7:(1000:Nat)<=sizeLine:=yd;omega
   have I2:=sV (t':=tk) (ob:=.dT (jV kvs p.1 p.2)) I1 (by rw [bK];exact True.intro) hs2 ⟨q,hq2⟩ ⟨hlp,hdm,_,(KT.put (show KT (upd H D (.dT kvs)) kvs xs from rel) p.1 ha2 rv).keeps λc ys ec=>(by rw [cS (vP ec bK (λz=>nomatch z))];exact ec),q,es2,ep2,hq2,g2,g3,g4,g5⟩;rw [DD,pF p.2 hkn] at I2;refine vY hu hA hD ht nit rest (i+1) (kvs++[p]) _ I2 ?_ hit2 (by rw [hys'];exact pr') (by rw [List.append_assoc];exact nd) (by rw [List.append_assoc];exact hz) (by rw [List.append_assoc];exact k);refine ⟨?_,fp.2⟩;rw [cS nit];have:=fp.1;rw [cS nit] at this;exact this
@[irreducible] def BT:List V->Hp->VK->Prop:=λxs H Q=>∃(t:Addr) (ys:List V) (kvs:List (List eG × V)),xs=[.ref t]/\H t=some (.tup ys)/\Paired (AW H) ys kvs/\(kvs.map (·.1)).Nodup/\kvs.length<=1000/\∀D,H D=none->Q (.ref D) (upd H D (.dT kvs))
theorem LJ(hu:X.A.units+64<cLine)(hc:X.calm=true):gW X (.type "dict") BT:=by
 unfold BT;intro pins s σ H xs us Q I r h;obtain ⟨t,ys,kvs,rfl,ht,pr,nd,hz,q⟩:=h;obtain ⟨u,rfl,rx⟩:=mO r;cases rx;have hA:=I.ok.hd hc;refine callType_codes (Q₁:=λobj s₁=>obj=.ref s.heap.objs.size/\s₁={ s with heap:=s.heap.push { cls:=.type "dict",data:=.dict #[] } }) F.kt_called_dict (F.kt_typeCall_dict_1 _) F.entry_dict_init (kt_code_dict_new _ ⟨rfl,rfl⟩) ?_;rintro obj s₁ ⟨rfl,rfl⟩;have hD:=I.hok.fresh (aF s.heap.objs.size);have I1:cA X pins σ (upd H s.heap.objs.size (.dT [])) { s with heap:=s.heap.push { cls:=.type "dict",data:=.dict #[] } }:=I.laid (a:=s.heap.objs.size) (o:=.dT []) (t':=s.toks) (λ_ _ q=>aC _ q) (aF _) (uF s.heap I.big);have htD:t≠s.heap.objs.size:=λe=>by subst e;rw [hD] at ht;cases ht
 have ht1:upd H s.heap.objs.size (.dT []) t=some (.tup ys):=by rw [cS htD];exact ht
 obtain ⟨⟨zt,ot,hot,hdt⟩,itt,rt,ot',hot',hct,nt,hdd⟩:=(show dY X.prog X.w (upd H s.heap.objs.size (.dT [])) (s.heap.push { cls:=.type "dict",data:=.dict #[] }) t (.tup ys) from I1.hok t _ ht1);rw [hot] at hot';cases hot';have hnew:(s.heap.push { cls:=.type "dict",data:=.dict #[] }).DictOf (eB X.prog X.w) s.heap.objs.size []:=Heap.DictOf.new s.heap;refine ⟨hnew.typeIs,F.args_dict_init_2 _ _,?_⟩;unfold Builtin.«dict.__init__»;refine wpAny_bind ?_;unfold Builtin.Dict.selfAndRest;refine wpAny_bind (wpAny_notOrdered_dict hnew.typeIs ?_);show wpAny _ _ (pure (s.heap.objs.size,[Value.ref t])) _ _ _;refine wpAny_pure ?_;show wpAny _ _ (Builtin.Dict.updateFrom "dict.__init__" s.heap.objs.size (.ref t) [] .none) _ _ _;unfold Builtin.Dict.updateFrom;refine wpAny_bind (wpAny_typeOf (T := "tuple") ⟨_,hot,hct⟩ ?_);rw [if_pos yd];refine wpAny_bind (GO (s:={ s with heap:=s.heap.push { cls:=.type "dict",data:=.dict #[] } }) hot hct hdd hdt hA λh' tk kp=>?_);rw [if_pos (by rfl)];refine wpAny_bind (wpAny_rule ?_);refine wpAny_bind (wpAny_pyIter_tuple (s:={ s with heap:=h',toks:=tk }) (items:=itt.toArray) ⟨ot,kp t ot hot,hct,nt,hdd⟩ ?_);refine wpAny_pure ⟨Code.quiet_builtin _ Kk,?_⟩;have I2:cA X pins σ (upd H s.heap.objs.size (.dT [])) { s with heap:=h',toks:=tk }:=I1.kept (t':=tk) kp;have I3:cA X pins σ (upd H s.heap.objs.size (.dT [])) { s with heap:=h'.push { cls:=.type "tuple_iterator",data:=.fields #[.ref t,.int 0 0] },toks:=tk }:=I2.kept (t':=tk) λb o e=>aC _ e
 have hlt:s.heap.objs.size<h'.objs.size:=by
  obtain ⟨_,_,_,hg,_⟩:=hnew;exact aV (kp _ _ hg)
 have hfr:upd H s.heap.objs.size (.dT []) h'.objs.size=none:=I2.hok.fresh (aF _);refine vY (D:=s.heap.objs.size) (it:=h'.objs.size) (t:=t) (ys:=ys) Oo hA hD ht (Nat.ne_of_gt hlt) kvs 0 [] _ I3 (I2.fpOk (aF _) hfr) ⟨_,aS _ rfl,rfl,rfl⟩ (by simpa using pr) (by simpa using nd) (by simpa using hz) λs' I'=>⟨rfl,.ref _,_,I',rfl,?_⟩;rw [List.nil_append];exact q _ hD
end
end L2
namespace HT
open PySem PySem.Spec PyProof.Rows
section
variable{prog:Program}{w:World}{A:Around}{E:Value->Shared->Prop}{s:Shared}{it d:Addr}{es:Array DictEntry}{ep i:Nat}{od:Obj}
theorem EH{Q:Option Value->Shared->Prop}(hit:s.heap.IsKeyIter it d i es.size ep)(hod:s.heap.get? d=some od)(hdd:od.data=.dict es ep)(hi:i<es.size)
  (h:∀h',h'.IsKeyIter it d (i+1) es.size ep->Heap.SameBut it s.heap h'->Q (some es[i].key) { s with heap:=h' }):wpAny (model prog w) A (pyNext (.ref it)) Q E s:=by
 obtain ⟨⟨c0,dd0,data0,sl0⟩,ho,hc,hd⟩:=id hit;simp only at hc hd;subst hc hd;have hT:=hit.typeIs;unfold pyNext;refine wpAny_bind (wpAny_attempt (wpAny_callSpecial?_slot (name:=Str.ofString "__next__") hT F.slot_dict_keyiterator_next (wpAny_call_entry F.slot_dict_keyiterator_next hT F.entry_dict_keyiterator_next ?_ (F.args_dict_keyiterator_next_1 _))));have hn:(Value.ref d == Value.none)=false:=rfl;have hown:Builtin.Dict_items.ownsTuple "dict_keyiterator" = false:=yd
 repeat (any_goals (first | assumption | (with_reducible refine wpAny_typeNameOfWhole_keyiter hT ?_) | (with_reducible refine wpAny_isOneOf_keyiter hT ?_) | (with_reducible refine wpAny_fieldsOf ho rfl ?_) | (with_reducible refine wpAny_dictEntries hod hdd ?_) | (with_reducible refine wpAny_dictEpoch hod hdd ?_) | wp_step))
 rw [if_neg (show ¬((i:Int)<0) by omega),Int.toNat_natCast,Array.getElem?_eq_getElem hi];have hit':(s.heap.update it (Obj.mapFields (·.setIfInBounds 1 (rawInt ((i:Int)+1))))).IsKeyIter it d (i+1) es.size ep :=
  ⟨_,Heap.get?_update_self _ ho (Obj.isFreed_of_fields (Obj.data_mapFields rfl _)),(Obj.cls_mapFields ..).trans rfl,by rw [Obj.data_mapFields rfl];simp [rawInt]⟩
 have hT':({ s with heap:=s.heap.update it (Obj.mapFields (·.setIfInBounds 1 (rawInt ((i:Int)+1)))) }:Shared).TypeIs (.ref it) "dict_keyiterator" := hit'.typeIs;have hfin:=h _ hit' (Heap.SameBut.update ..)
 repeat (any_goals (first | assumption | (with_reducible refine wpAny_typeNameOfWhole_keyiter hT ?_) | (with_reducible refine wpAny_isOneOf_keyiter hT ?_) | (with_reducible refine wpAny_isOneOf_keyiter hT' ?_) | (with_reducible refine wpAny_setField ho rfl (by rw [hown];simp) ?_) | wp_step))
 exact ⟨_,rfl,wpAny_pure hfin⟩
theorem KP{Q:Option Value->Shared->Prop}(hh:A.handled=none)(hit:s.heap.IsKeyIter it d i es.size ep)(hod:s.heap.get? d=some od)(hdd:od.data=.dict es ep)(hi:es.size<=i)
  (h:∀h',Heap.ExtBut it s.heap h'->Q none { s with heap:=h' }):wpAny (model prog w) A (pyNext (.ref it)) Q E s:=by
 obtain ⟨⟨c0,dd0,data0,sl0⟩,ho,hc,hd⟩:=id hit;simp only at hc hd;subst hc hd;have hT:=hit.typeIs;have hn:(Value.ref d == Value.none)=false:=rfl;have hown:Builtin.Dict_items.ownsTuple "dict_keyiterator" = false:=yd;unfold pyNext;refine wpAny_bind (wpAny_attempt (wpAny_callSpecial?_slot (name:=Str.ofString "__next__") hT F.slot_dict_keyiterator_next (wpAny_call_entry F.slot_dict_keyiterator_next hT F.entry_dict_keyiterator_next ?_ (F.args_dict_keyiterator_next_1 _))))
 repeat (any_goals (first | assumption | (with_reducible refine wpAny_typeNameOfWhole_keyiter hT ?_) | (with_reducible refine wpAny_isOneOf_keyiter hT ?_) | (with_reducible refine wpAny_fieldsOf ho rfl ?_) | (with_reducible refine wpAny_dictEntries hod hdd ?_) | (with_reducible refine wpAny_dictEpoch hod hdd ?_) | wp_step))
 rw [if_neg (show ¬((i:Int)<0) by omega),Int.toNat_natCast,Array.getElem?_eq_none hi]
 repeat (any_goals (first | assumption | (with_reducible refine wpAny_typeNameOfWhole_keyiter hT ?_) | (with_reducible refine wpAny_setField ho rfl (by rw [hown];simp) ?_) | wp_step))
 simp only [raiseNew];refine wpAny_bind (wpAny_handled ?_);rw [show A.in1.handled=none from hh];refine wpAny_bind (wpAny_pure (wpAny_throw ?_));refine wpAny_bind (wpAny_isInstance (T := "StopIteration") (b:=true) ⟨_,aS _ rfl,rfl⟩ isSubtype_stop ?_);exact wpAny_pure (h _ (((Heap.SameBut.update ..).extBut.push _).push _))
theorem EI{Q:Value->Shared->Prop}(hd:(d == sysModules)=false)(hod:s.heap.get? d=some od)(hex:od.ExactDict)(hdd:od.data=.dict es ep)
  (hQ:Q (.ref s.heap.objs.size) { s with heap:=s.heap.push { cls:=.type "dict_keyiterator",data:=.fields #[.ref d,.int 0 0,.int es.size 0,.int ep 0] } }):wpAny (model prog w) A (pyIter (.ref d)) Q E s:=by
 have hT:s.TypeIs (.ref d) "dict" := ⟨od,hod,hex.1⟩;refine wpAny_pyIter_slot hT F.slot_dict_iter (wpAny_call_entry F.slot_dict_iter hT F.entry_dict_iter ?_ (F.args_dict_iter_1 _));unfold Builtin.«dict.__iter__»;refine wpAny_bind ?_;unfold Builtin.Dict.dictSlotNone;refine wpAny_bind (wpAny_notOrdered_dict hT ?_);show wpAny _ _ (pure (Value.ref d)) _ _ s;refine wpAny_pure ?_;have hm:(d == sysModules)=false:=hd
 repeat (any_goals (first | assumption | (with_reducible refine wpAny_dictEntries hod hdd ?_) | (with_reducible refine wpAny_dictEpoch hod hdd ?_) | wp_step))
 exact ⟨_,rfl, "dict_keyiterator",_,⟨_,aS _ rfl,rfl⟩,F.slot_dict_keyiterator_next.lookup,hQ⟩
end
end HT
namespace L2
open PySem PySem.Spec PySem.W PyProof.Rows HT
section
variable{X:Cx}{pins:List (Addr × Obj)}{σ:St}{H:Hp}{s:Shared}
theorem cA.freeze{D:Addr}{kvs:List (List eG × V)}(I:cA X pins σ H s)(e:H D=some (.dT kvs)):∃o,cA X pins σ (upd H D (.frz o (.dT kvs))) s:=by
 obtain ⟨z,hd,xs,rel,o,es,ep,h1,h2,h3,h4,h5⟩:=(show dY X.prog X.w H s.heap D (.dT kvs) from I.hok D _ e);refine ⟨o,?_⟩;have I2:=I.write (x:=D) (e:=D) (o:=.frz o (.dT kvs)) (h':=s.heap) (t':=s.toks) (by rw [e];exact True.intro) (.inl rfl) (λb u _ q=>q) ⟨o,h1⟩ ⟨h1,z,hd,xs,KT.keeps (show KT H kvs xs from rel) λc ys ec=>(by rw [cS (vP ec e (λz=>nomatch z))];exact ec),o,es,ep,h1,h2,h3,h4,h5⟩;exact I2
def AZ(H:Hp)(D:Addr)(kvs:List (List eG × V)):Prop:=∃o,H D=some (.frz o (.dT kvs))
theorem AZ.same{H H':Hp}{D:Addr}{kvs:List (List eG × V)}(s:aQ H H')(h:AZ H D kvs):AZ H' D kvs:=by
 obtain ⟨o,h⟩:=h;exact ⟨o,s _ _ h⟩
@[irreducible] def xK:List V->Hp->VK->Prop:=λxs H Q=>∃(t:Addr) (ys:List V) (kvs:List (List eG × V)),xs=[.ref t]/\H t=some (.tup ys)/\Paired (AW H) ys kvs/\(kvs.map (·.1)).Nodup/\kvs.length<=1000/\∀D o,H D=none->Q (.ref D) (upd H D (.frz o (.dT kvs)))
theorem rdcz{Q:VK}{t:Addr}{ys:List V}{kvs:List (List eG × V)}(ht:H t=some (.tup ys))(pr:Paired (AW H) ys kvs)(nd:(kvs.map (·.1)).Nodup)(hz:kvs.length<=1000)(q:∀D H',H D=none->AZ H' D kvs->aQ H H'->Q (.ref D) H'):xK [.ref t] H Q:=by
 unfold xK;exact ⟨t,ys,kvs,rfl,ht,pr,nd,hz,λD o hD=>q D _ hD ⟨o,bK⟩ (aQ.upd hD)⟩
theorem LI(hu:X.A.units+64<cLine)(hc:X.calm=true):gW X (.type "dict") xK:=by
 unfold xK;intro pins s σ H xs us Q I r h;obtain ⟨t,ys,kvs,rfl,ht,pr,nd,hz,q⟩:=h;refine wpAny_mono (LJ hu hc pins s σ H _ us (λv H'=>∃D,v=.ref D/\H D=none/\H'=upd H D (.dT kvs)) I r (by unfold BT;exact ⟨t,ys,kvs,rfl,ht,pr,nd,hz,λD hD=>⟨D,rfl,hD,rfl⟩⟩)) (λv s' ⟨x,H',I',rx,D,e,hD,eH⟩=>?_) λ_ _ e=>e;subst e eH;cases rx;obtain ⟨o,I2⟩:=I'.freeze bK;rw [DD] at I2;exact ⟨.ref D,_,I2,rfl,q D o hD⟩
def RP(d:Addr)(o:Obj):It :=
 ⟨λi H=>∃kvs,H d=some (.frz o (.dT kvs))/\i<kvs.length,λi H x H'=>H'=H/\∀kvs,H d=some (.frz o (.dT kvs))->∃b p,x=.ref b/\kvs[i]?=some p/\H b=some (.tup (p.1.map kV)),λi H=>∃kvs,H d=some (.frz o (.dT kvs))/\kvs.length<=i⟩
theorem oG{α β:Type}{R:α->β->Prop}:∀{l:List α}{m:List β}{i:Nat}{a:α},Paired R l m->l[i]?=some a->∃b,m[i]?=some b/\R a b
 | _,_,i,a,.nil,h=>by simp at h
 | _,_,0,a,.cons r t,h=>by
  cases (show _=a by simpa using h);exact ⟨_,rfl,r⟩
 | _,_,i+1,a,.cons r t,h=>by
  obtain ⟨b,h1,h2⟩:=oG t (by simpa using h);exact ⟨b,by simpa using h1,h2⟩
theorem rJ(I:cA X pins σ H s){d:Addr}{o:Obj}{kvs:List (List eG × V)}(e:H d=some (.frz o (.dT kvs))):(d == sysModules)=false/\s.heap.get? d=some o/\o.ExactDict/\∃es ep,o.data=.dict es ep/\es.size=kvs.length /\
  ∀(i:Nat) (hi:i<es.size) p,kvs[i]?=some p->∃b,es[i].key=.ref b/\H b=some (.tup (p.1.map kV))/\dE p.2 es[i].val:=by
 obtain ⟨h0,z,hd,xs,rel,o',es,ep,h1,h2,h3,h4,h5⟩:=(show dY X.prog X.w H s.heap d (.frz o (.dT kvs)) from I.hok d _ e);rw [h0] at h1;cases h1;have hl:es.size=kvs.length:=by
  have:=congrArg List.length h4;rw [aA,<-Paired.length rel] at this;simpa using this
 refine ⟨hd,h0,h2,es,ep,h3,hl,λi hi p hp=>?_⟩;obtain ⟨x,hx,r1,r2,r3⟩:=oG rel hp;have he:es.toList[i]?=some (entryOfKey (tupleKind (eB X.prog X.w)) x):=by rw [h4,aI,hx];rfl
 have he2:es[i]=entryOfKey (tupleKind (eB X.prog X.w)) x:=by
  have:es.toList[i]?=some es[i]:=by simp [hi]
  rw [this] at he;injection he
 rw [he2];exact ⟨x.2.1,rfl,r2,r3⟩
theorem FO{P:Program}{w:World}{K:PySem.W.Frag}{tg:Expr}(d it:Addr){o:Obj}{es:Array DictEntry}{ep:Nat}(hdat:o.data=.dict es ep):yC P w K tg (RP d o) [it] it (λi h=>h.IsKeyIter it d i es.size ep) where
 mem:=by simp
 obj:=λi h st b hb=>by
  have e:b=it:=by simpa using hb
  subst e;obtain ⟨o,e,c,d⟩:=st;exact ⟨o,e,λv z=>by rw [d] at z;cases z⟩
 keep:=λi h h' st k=>st.at λo e=>k it (by simp) o e
 item:=by
  intro X hP hw hK hc i pins s σ H E I hf st hg;subst hP hw hK;obtain ⟨kvs,hq,hi⟩:=hg;obtain ⟨hm,hod,hex,es',ep',hdd,hsz,hat⟩:=rJ I hq;rw [hdat] at hdd;cases hdd;obtain ⟨f0,f1,f2,f3,f4,f5⟩:=hf it (by simp);have hi':i<es.size:=Oo;refine EH st hod hdat hi' λh' st' sb=>?_;have I1:cA X pins σ H { s with heap:=h' }:=I.turned (t':=s.toks) (λb o hb e=>(sb.2 b hb).trans e) f0 f1 f3 f4 f5;obtain ⟨oi,e,c,dd⟩:=id st';obtain ⟨b,hb1,hb2,_⟩:=hat i hi' kvs[i] (by simp [hi]);rw [hb1];exact ⟨.ref b,rfl,zZ (s:={ s with heap:=h' }) e c dd yd ⟨.ref b,H,I1,rfl,⟨rfl,λkvs' hq'=>by
   rw [hq] at hq';injection hq' with hq';injection hq' with _ hq';injection hq' with hq';subst hq';exact ⟨b,kvs[i],rfl,by simp [hi],hb2⟩⟩,st',λb hb=>(hf b hb).1⟩⟩
 done:=by
  intro X hP hw hK hc i pins s σ H E I hf st hg;subst hP hw hK;obtain ⟨kvs,hq,hi⟩:=hg;obtain ⟨hm,hod,hex,es',ep',hdd,hsz,hat⟩:=rJ I hq;rw [hdat] at hdd;cases hdd;obtain ⟨f0,f1,f2,f3,f4,f5⟩:=hf it (by simp);exact KP (I.ok.hd hc) st hod hdat Oo λh' eb=>⟨rfl,I.turned (t':=s.toks) (λb o hb e=>eb b o hb e) f0 f1 f3 f4 f5⟩
 self:=λ_ _ _ _ _ st h=>wpAny_pyIter_keyiter st h
end
section
variable{X:Cx}{tg:Expr}
end
end L2
namespace HT
open PySem PySem.Spec PyProof.Rows PySem.W
section
variable{prog:Program}{w:World}{A:Around}{d:Addr}{o:Obj}{es:Array DictEntry}{ep:Nat}
theorem FL(hh:A.handled=none)(I:Addr)(hne:d≠I)(hdat:o.data=.dict es ep) :
  Walks prog w A I [I,d] [I] es.size (λi v=>∃hi:i<es.size,v=es[i].key) (λi h=>h.IsKeyIter I d i es.size ep/\h.get? d=some o) where
 sub:=λb hb=>by simp at hb;simp [hb]
 frame:=λ_ _ _ st hk=>⟨st.1.at λo e=>hk I (by simp) o e,hk d (by simp) o st.2⟩
 item:=λi s Q E hi st hQ=>EH st.1 st.2 hdat hi λh' hit' hs' =>
  hQ _ h' s.toks ⟨hi,rfl⟩ ⟨hit',(hs'.2 d hne).trans st.2⟩ λb o hb e=>(hs'.2 b (λh=>hb (by simp [h]))).trans e
 done:=λs Q E st hQ=>KP hh st.1 st.2 hdat (aF _) λh' he'=>hQ h' s.toks λb o hb e=>he' b o (λh=>hb (by simp [h])) e
 self:=λ_ _ _ _ st hQ=>wpAny_pyIter_keyiter st.1 hQ
theorem OT(lo:(d == sysModules)=false)(hex:o.ExactDict)(hdat:o.data=.dict es ep):KdlSrc prog w "dict" d d es.size (λi v=>∃hi:i<es.size,v=es[i].key) (λh=>h.get? d=some o) where
 type:=λ_ hm=>⟨o,hm,hex.1⟩
 there:=λ_ hm=>⟨aV hm,aV hm⟩
 keep:=λ_ _ hm hk=>hk d (.inl rfl) o hm
 notList:=yd
 notTuple:=yd
 hint:=λ_ _ _ _ hm hq=>kdl_hint_dict ⟨o,hm,hex.1⟩ hq
 iter:=λA s hh hm=>⟨_,_,λE Q hQ=>EI lo hm hex hdat hQ,FL hh _ (dD (aV hm)) hdat,⟨_,aS _ rfl,rfl,rfl⟩,aC _ hm⟩
end
end HT
namespace L2
open PySem PySem.Spec PySem.W PyProof.Rows HT
section
variable{prog:Program}{w:World}{A:Around}{E:Value->Shared->Prop}{s:Shared}
theorem AN{T:String}{r d:Addr}{n:Nat}{P:Nat->Value->Prop}{OK:Heap->Prop}{Q:List Value->Shared->Prop}(K:KdlSrc prog w T r d n P OK)(hh:A.handled=none)(hok:OK s.heap)(hn:n<=sizeLine)
  (hQ:∀h' tk (acc':Array Value),(∀b o,s.heap.get? b=some o->h'.get? b=some o)->ItemsOf P acc' n->Q acc'.toList { s with heap:=h',toks:=tk }) :
  wpAny (model prog w) A (collect (.ref r)) Q E s:=by
 have lt:=K.there _ hok;have at0:(s.heap.push (seqObj "list" #[] 0)).get? s.heap.objs.size=some { cls:=.type "list",data:=.seq #[] 0 }:=aS _ rfl
 let G:Result->Shared->Prop:=λa z=>∃g m l e,a=.ok (.ret (.ref s.heap.objs.size))/\z={ s with heap:=g,toks:=m }/\(∀b o,s.heap.get? b=some o->g.get? b=some o)/\g.get? s.heap.objs.size=some { cls:=.type "list",dict:=none,data:=.seq l e,slots:=#[] }/\ItemsOf P l n
 have ext:=kdl_extend (A:=A) (s:={ s with heap:=s.heap.push (seqObj "list" #[] 0) }) (R:=G) K hh (K.keep _ _ hok λb _ o e=>aC _ e) s.heap.objs.size (Nat.ne_of_gt lt.1) (Nat.ne_of_gt lt.2) (.ref s.heap.objs.size) 0 at0
  (λg m l e kp at1 it=>⟨g,m,l,e,rfl,rfl,λb o z=>kp b o (dD (aV z)) (aC _ z),at1,it⟩) hn
 unfold collect;refine wpAny_bind (wpAny_runValue (codeAny_builtin entry_proto_collect' ?_));rw [Around.under_plainId PySem.F.plain_proto_collect _];refine wpAny_bind (m:=newList []) (wpAny_newList (wpAny_pure ⟨plainId_quiet PySem.F.plain_list_iadd _,codeAny_builtin entry_list_iadd' ?_⟩));rw [Around.under_plainId PySem.F.plain_list_iadd _];refine wpAny_mono ext (λfin z y=>?_) λe z ⟨_,_,_,_,q,_⟩=>by cases q
 cases fin with
 | done f=>obtain ⟨g,m,l,e,q,rfl,kp,at1,it⟩:=y;cases q;exact wpAny_bind (wpAny_load at1 (wpAny_pure (hQ g m l kp it)))
 | again c=>exact ⟨y.1,codeAny_mono y.2 λq z ⟨g,m,l,e,eq,ez,kp,at1,it⟩=>by subst eq ez;exact wpAny_bind (wpAny_load at1 (wpAny_pure (hQ g m l kp it)))⟩
theorem BP{x:Value}{Q:Value->Shared->Prop}
  (h:wpAny (model prog w) A.in1 (collect x) (λvs s1=>∃h1 tk cs,s1={ s with heap:=h1,toks:=tk }/\(∀b o,s.heap.get? b=some o->h1.get? b=some o)/\iL h1 vs cs/\vs.length<64 /\
   ∀(p:Array Nat) (h':Heap) (D:Addr) (c:Nat),fK vs.length p->(AX vs.length (EC cs)->uY (EC cs) p vs.length)->(∀b o,h1.get? b=some o->h'.get? b=some o)->h1.objs.size<=D->h'.get? D=some (seqObj "list" (List.toArray (p.toList.map λi=>vs.getD i Value.none)) c)->Q (.ref D) { s with heap:=h',toks:=tk }) E s) :
  wpAny (model prog w) A (call (.builtin "sorted") [x]) Q E s:=by
 refine Calls.call_function_entry kind_sorted plain_sorted entry_sorted (args_sorted1 _) ?_;unfold Builtin.«sorted»;refine wpAny_bind (m:=checkCount "sorted" 1 1 _) (wpAny_pure ?_);refine wpAny_bind (wpAny_mono h (λvs s1 ⟨h1,tk,cs,e,keep1,ht,h64,q⟩=>?_) λ_ _ e=>e);subst e;refine wpAny_bind (wpAny_newList ?_ (by rw [sizeLine_eq];omega));have hoL:(h1.push (seqObj "list" vs.toArray 0)).get? h1.objs.size=some (seqObj "list" vs.toArray 0):=aS _ rfl;have keep:∀b o,h1.get? b=some o->(h1.push (seqObj "list" vs.toArray 0)).get? b=some o:=λb o q=>aC _ q;show wpAny _ _ _ _ _ { s with heap:=h1.push (seqObj "list" vs.toArray 0),toks:=tk };refine wpAny_bind (wpAny_holding (wpAny_call_entry slot_list_sort ⟨_,hoL,rfl⟩ entry_list_sort ?body (args_list_sort _)));refine FY (s:={ s with heap:=h1.push (seqObj "list" vs.toArray 0),toks:=tk }) hoL (ht.keep λb o hb _=>keep b o hb) h64 λp hp ho=>⟨_,rfl,wpAny_pure ⟨_,rfl,?_⟩⟩;unfold sortedHeap;have o1:((h1.push (seqObj "list" vs.toArray 0)).update h1.objs.size (Obj.mapSeq λ_=>#[])).get? h1.objs.size=some (seqObj "list" #[] _):=get?_update_seq hoL (λ_=>#[]);have o2:=aC (seqObj "list" #[] 0) (aC (seqObj "tuple" vs.toArray 0) o1);refine q p _ h1.objs.size _ hp ho (λb o e=>?_) (aF _) (get?_update_seq o2 λ_=>List.toArray (p.toList.map λi=>vs.getD i Value.none));have hlt:b<h1.objs.size:=aV e;have hne:b≠h1.objs.size:=dD hlt;rw [Heap.get?_update_ne _ _ _ _ hne]
 exact aC _ (aC _ (by rw [Heap.get?_update_ne _ _ _ _ hne];exact keep b o e))
end
theorem YI{X:Cx}{pins:List (Addr × Obj)}{σ:St}{H:Hp}{s:Shared}(I:cA X pins σ H s){d:Addr}{kvs:List (List eG × V)}(e:H d=some (.dT kvs)):(d == sysModules)=false/\(kvs.map (·.1)).Nodup/\∃o,s.heap.get? d=some o/\o.ExactDict/\∃es ep,o.data=.dict es ep/\es.size=kvs.length /\
  ∀(i:Nat) (hi:i<es.size) p,kvs[i]?=some p->∃b,es[i].key=.ref b/\H b=some (.tup (p.1.map kV)):=by
 obtain ⟨z,hd,xs,rel,o,es,ep,h1,h2,h3,h4,h5⟩:=(show dY X.prog X.w H s.heap d (.dT kvs) from I.hok d _ e);have hl:es.size=kvs.length:=by
  have:=congrArg List.length h4;rw [aA,<-Paired.length rel] at this;simpa using this
 have hk:kvs.map (·.1)=xs.map (·.1):=by
  clear h4 h5 hl e z
  induction rel with
  | nil=>rfl
  | cons r t ih=>rw [bI,bI,r.1,ih]
 refine ⟨hd,hk ▸ h5,o,h1,h2,es,ep,h3,hl,λi hi p hp=>?_⟩;obtain ⟨x,hx,r1,r2,r3⟩:=oG rel hp;have he:es.toList[i]?=some (entryOfKey (tupleKind (eB X.prog X.w)) x):=by rw [h4,aI,hx];rfl
 have he2:es[i]=entryOfKey (tupleKind (eB X.prog X.w)) x:=by
  have:es.toList[i]?=some es[i]:=by simp [hi]
  rw [this] at he;injection he
 rw [he2];exact ⟨x.2.1,rfl,r2⟩
abbrev XX(c:List Int):List eG:=c.map Sum.inl
theorem kyV(c:List Int):(XX c).map kV=c.map V.int:=by rw [List.map_map];rfl
@[irreducible] def xJ:List V->Hp->VK->Prop:=λxs H Q=>∃(d:Addr) (kvs:List (List eG × V)) (cs:List (List Int)),xs=[.ref d]/\H d=some (.dT kvs)/\kvs.map (·.1)=cs.map XX/\(∀c∈cs,c≠[])/\cs.length<64 /\
 ∀q (ys:List V) (ds:List (List Int)) H',ds.Perm cs->ds.Pairwise (λa b=>mC a b=true)->H q=none->H' q=some (.lst ys)->bF H' (ds.map λc=>PyData.tuple (c.map .int)) ys->aQ H H'->Q (.ref q) H'
theorem rsrd{H:Hp}{Q:VK}{d:Addr}{kvs:List (List eG × V)}{cs:List (List Int)}(h:H d=some (.dT kvs))(hk:kvs.map (·.1)=cs.map XX)(hc:∀c∈cs,c≠[])(hz:cs.length<64)
  (q:∀q (ys:List V) (ds:List (List Int)) H',ds.Perm cs->ds.Pairwise (λa b=>mC a b=true)->H q=none->H' q=some (.lst ys)->bF H' (ds.map λc=>PyData.tuple (c.map .int)) ys->aQ H H'->Q (.ref q) H'):xJ [.ref d] H Q:=by
 unfold xJ;exact ⟨d,kvs,cs,rfl,h,hk,hc,hz,q⟩
theorem PL{X:Cx}(hc:X.calm=true):gW X (.builtin "sorted") xJ:=by
 unfold xJ;intro pins s σ H xs us Q I r h;obtain ⟨d,kvs,cs,rfl,hq,hk,hne,hz,q⟩:=h;obtain ⟨u,rfl,rx⟩:=mO r;cases rx;obtain ⟨hm,hnd,o,hod,hex,es,ep,hdd,hsz,hat⟩:=YI I hq;have lk:kvs.length=cs.length:=by have:=congrArg List.length hk;simpa using this
 refine BP (AN (OT hm hex hdd) (show X.A.in1.handled=none from I.ok.hd hc) hod (by rw [sizeLine_eq];omega) λh1 tk acc kp hacc=>?_);obtain ⟨la,hacc⟩:=hacc;have I1:cA X pins σ H { s with heap:=h1,toks:=tk }:=I.kept kp;have key:∀(n:Nat) (l:List Value),l.length=n->∀(m:List (List Int)),m.length=n->(∀(i:Nat) v c,l[i]?=some v->m[i]?=some c->∃b,v=.ref b/\H b=some (.tup (c.map V.int)))->∃ys:List V,dA ys l/\bF H (m.map λc=>PyData.tuple (c.map .int)) ys:=by
  intro n
  induction n with
  | zero =>
   intro l hl m hm _;cases l with
   | nil=>cases m with
    | nil=>exact ⟨[],.nil,bF.nil⟩
    | cons _ _=>simp at hm
   | cons _ _=>simp at hl
  | succ n ih =>
   intro l hl m hm hk;cases l with
   | nil=>simp at hl
   | cons v l=>cases m with
    | nil=>simp at hm
    | cons c m =>
     obtain ⟨b,rfl,hb⟩:=hk 0 v c rfl rfl;obtain ⟨ys,hv,hy⟩:=ih l (by simpa using hl) m (by simpa using hm) λi v p h1 h2=>hk (i+1) v p (by simpa using h1) (by simpa using h2);have rb:∀c:List Int,bF H (c.map PyData.int) (c.map V.int):=λc=>by
      induction c with
      | nil=>exact bF.nil
      | cons x c ih=>exact bF.cons (cB.int _) ih
     exact ⟨.ref b::ys,.cons rfl hv,bF.cons (cB.tup hb (rb c)) hy⟩
 have lacc:acc.toList.length=cs.length:=by rw [Array.length_toList,la,hsz,lk]
 obtain ⟨ys,hv,hy⟩:=key cs.length acc.toList lacc cs rfl λi v c e1 e2=>by
  obtain ⟨hi,e⟩:=hacc i v (by rw [<-Array.getElem?_toList];exact e1);have hp:∃p,kvs[i]?=some p/\p.1=XX c:=by
   have:(kvs.map (·.1))[i]?=some (XX c):=by rw [hk,aI,e2];rfl
   rw [aI] at this;obtain ⟨p,h1,h2⟩:=fN.mp this;exact ⟨p,h1,h2⟩
  obtain ⟨p,hp1,hp2⟩:=hp;obtain ⟨b,k1,k2⟩:=hat i hi p hp1;rw [hp2,kyV] at k2;exact ⟨b,by rw [e,k1],k2⟩
 have hnd2:cs.Nodup:=by
  rw [hk] at hnd;exact List.Pairwise.of_map _ (λa b h e=>h (by rw [e])) hnd
 have lys:ys.length=cs.length:=by rw [hy.len,aA]
 refine ⟨h1,tk,cs,rfl,kp,DE I1 hy hne hv,Oo,λpm h' D c hg ho keep hD hget=>?_⟩;have hperm:pm.toList.Perm (List.range cs.length):=by
  have:=(Array.perm_iff_toList_perm.mp hg);rw [<-lacc];simpa using this
 have hlt:∀i∈pm.toList,i<ys.length:=λi hi=>by
  have:=hperm.mem_iff.mp hi;rw [lys];simpa using this
 have hl2:(pm.toList.map λi=>ys.getD i .non).length=cs.length:=by rw [aA,hperm.length_eq,cV]
 have hn:=I1.hok.fresh hD;have sm:aQ H (upd H D (.lst (pm.toList.map λi=>ys.getD i .non))):=aQ.upd hn;refine ⟨.ref D,upd H D (.lst (pm.toList.map λi=>ys.getD i .non)),I1.laid (t':=tk) keep hD ⟨by rw [hl2,sizeLine_eq];omega,_,c,DB hv _ hlt,hget⟩,rfl,?_⟩;have ha:=ho (lacc ▸ UL hnd2);have hsz2:=hg.size;have hpm:(pm.toList.map λi=>cs.getD i []).Perm cs:=by
  have h1:=hperm.map λi=>cs.getD i [];have e:(List.range cs.length).map (λi=>cs.getD i [])=cs:=by
   apply List.ext_getElem?;intro i;rw [aI];by_cases hi:i<cs.length
   ·rw [cR hi,aB hi,Option.map_some,bO,aB hi];rfl
   ·rw [dI (by simpa using hi),dI Oo];rfl
  rwa [e] at h1
 refine q D _ (pm.toList.map λi=>cs.getD i []) _ hpm ?_ hn bK ?_ sm
 ·rw [List.pairwise_map,List.pairwise_iff_getElem];intro i j hi hj hij;have hi':i<pm.size:=by simpa using hi
  have hj':j<pm.size:=by simpa using hj
  have e1:pm.toList[i]=pm.getD i 0:=by rw [Array.getElem_toList];exact (by simp [Array.getD,hi']:pm.getD i 0=pm[i]).symm
  have e2:pm.toList[j]=pm.getD j 0:=by rw [Array.getElem_toList];exact (by simp [Array.getD,hj']:pm.getD j 0=pm[j]).symm
  rw [e1,e2];exact ha i j hij (by rw [<-hsz2];exact hj')
 ·have rep:∀ix:List Nat,(∀i∈ix,i<cs.length)->bF H ((ix.map λi=>cs.getD i []).map λc=>PyData.tuple (c.map .int)) (ix.map λi=>ys.getD i .non):=λix=>by
   induction ix with
   | nil=>exact λ_=>bF.nil
   | cons i ix ih =>
    intro h;have hi:=h i (aO ..);have hd:(cs.map λc=>PyData.tuple (c.map .int))[i]?=some (PyData.tuple ((cs.getD i []).map .int)):=by
     rw [aI,bO,aB hi];rfl
    obtain ⟨x,hx,rx⟩:=hy.get' hd;have e2:ys.getD i .non=x:=by rw [bO,hx];rfl
    refine bF.cons ?_ (ih λj hj=>h j (aK _ hj));show cB H _ (ys.getD i .non);rw [e2];exact rx
  exact (rep pm.toList λi hi=>by rw [<-lys];exact hlt i hi).same sm
end L2
namespace HT
open PySem PySem.Spec PyProof.Rows PySem.W
section
variable{prog:Program}{w:World}{A:Around}{E:Value->Shared->Prop}{s:Shared}{it d:Addr}{es:Array DictEntry}{ep i:Nat}{od:Obj}
theorem MP{Q:Option Value->Shared->Prop}(hit:s.heap.IsValIter it d i es.size ep)(hod:s.heap.get? d=some od)(hdd:od.data=.dict es ep)(hi:i<es.size)
  (h:∀h',h'.IsValIter it d (i+1) es.size ep->Heap.SameBut it s.heap h'->Q (some es[i].val) { s with heap:=h' }):wpAny (model prog w) A (pyNext (.ref it)) Q E s:=by
 obtain ⟨⟨c0,dd0,data0,sl0⟩,ho,hc,hd⟩:=id hit;simp only at hc hd;subst hc hd;have hT:=hit.typeIs;have hn:(Value.ref d == Value.none)=false:=rfl;have hown:Builtin.Dict_items.ownsTuple "dict_valueiterator" = false:=yd;unfold pyNext;refine wpAny_bind (wpAny_attempt (wpAny_callSpecial?_slot (name:=Str.ofString "__next__") hT F.slot_dict_valueiterator_next (wpAny_call_entry F.slot_dict_valueiterator_next hT F.entry_dict_valueiterator_next ?_ (F.args_dict_valueiterator_next_1 _))))
 repeat (any_goals (first | assumption | (with_reducible refine wpAny_typeNameOfWhole_valiter hT ?_) | (with_reducible refine wpAny_isOneOf_valiter hT ?_) | (with_reducible refine wpAny_fieldsOf ho rfl ?_) | (with_reducible refine wpAny_dictEntries hod hdd ?_) | (with_reducible refine wpAny_dictEpoch hod hdd ?_) | wp_step))
 rw [if_neg (show ¬((i:Int)<0) by omega),Int.toNat_natCast,Array.getElem?_eq_getElem hi];have hit':(s.heap.update it (Obj.mapFields (·.setIfInBounds 1 (rawInt ((i:Int)+1))))).IsValIter it d (i+1) es.size ep :=
  ⟨_,Heap.get?_update_self _ ho (Obj.isFreed_of_fields (Obj.data_mapFields rfl _)),(Obj.cls_mapFields ..).trans rfl,by rw [Obj.data_mapFields rfl];simp [rawInt]⟩
 have hT':({ s with heap:=s.heap.update it (Obj.mapFields (·.setIfInBounds 1 (rawInt ((i:Int)+1)))) }:Shared).TypeIs (.ref it) "dict_valueiterator" := hit'.typeIs;have hfin:=h _ hit' (Heap.SameBut.update ..)
 repeat (any_goals (first | assumption | (with_reducible refine wpAny_typeNameOfWhole_valiter hT ?_) | (with_reducible refine wpAny_isOneOf_valiter hT ?_) | (with_reducible refine wpAny_isOneOf_valiter hT' ?_) | (with_reducible refine wpAny_setField ho rfl (by rw [hown];simp) ?_) | wp_step))
 exact ⟨_,rfl,wpAny_pure hfin⟩
theorem RY{Q:Option Value->Shared->Prop}(hh:A.handled=none)(hit:s.heap.IsValIter it d i es.size ep)(hod:s.heap.get? d=some od)(hdd:od.data=.dict es ep)(hi:es.size<=i)
  (h:∀h',Heap.ExtBut it s.heap h'->Q none { s with heap:=h' }):wpAny (model prog w) A (pyNext (.ref it)) Q E s:=by
 obtain ⟨⟨c0,dd0,data0,sl0⟩,ho,hc,hd⟩:=id hit;simp only at hc hd;subst hc hd;have hT:=hit.typeIs;have hn:(Value.ref d == Value.none)=false:=rfl;have hown:Builtin.Dict_items.ownsTuple "dict_valueiterator" = false:=yd;unfold pyNext;refine wpAny_bind (wpAny_attempt (wpAny_callSpecial?_slot (name:=Str.ofString "__next__") hT F.slot_dict_valueiterator_next (wpAny_call_entry F.slot_dict_valueiterator_next hT F.entry_dict_valueiterator_next ?_ (F.args_dict_valueiterator_next_1 _))))
 repeat (any_goals (first | assumption | (with_reducible refine wpAny_typeNameOfWhole_valiter hT ?_) | (with_reducible refine wpAny_isOneOf_valiter hT ?_) | (with_reducible refine wpAny_fieldsOf ho rfl ?_) | (with_reducible refine wpAny_dictEntries hod hdd ?_) | (with_reducible refine wpAny_dictEpoch hod hdd ?_) | wp_step))
 rw [if_neg (show ¬((i:Int)<0) by omega),Int.toNat_natCast,Array.getElem?_eq_none hi]
 repeat (any_goals (first | assumption | (with_reducible refine wpAny_typeNameOfWhole_valiter hT ?_) | (with_reducible refine wpAny_setField ho rfl (by rw [hown];simp) ?_) | wp_step))
 simp only [raiseNew];refine wpAny_bind (wpAny_handled ?_);rw [show A.in1.handled=none from hh];refine wpAny_bind (wpAny_pure (wpAny_throw ?_));refine wpAny_bind (wpAny_isInstance (T := "StopIteration") (b:=true) ⟨_,aS _ rfl,rfl⟩ isSubtype_stop ?_);exact wpAny_pure (h _ (((Heap.SameBut.update ..).extBut.push _).push _))
theorem MQ{v:Addr}{Q:Value->Shared->Prop}(hv:s.heap.IsValuesView v d)(hod:s.heap.get? d=some od)(hdd:od.data=.dict es ep)
  (hQ:Q (.ref s.heap.objs.size) { s with heap:=s.heap.push { cls:=.type "dict_valueiterator",data:=.fields #[.ref d,.int 0 0,.int es.size 0,.int ep 0] } }):wpAny (model prog w) A (pyIter (.ref v)) Q E s:=by
 obtain ⟨ov,hov,hcv,hdv⟩:=id hv;refine wpAny_pyIter_slot hv.typeIs F.slot_dict_values_iter (wpAny_call_entry F.slot_dict_values_iter hv.typeIs F.entry_dict_values_iter ?_ (F.args_dict_values_iter_1 _));have hown:Builtin.Dict_items.ownsTuple "dict_valueiterator" = false:=yd
 repeat (any_goals (first | assumption | (with_reducible refine wpAny_field hov hdv (x:=.ref d) rfl ?_) | (with_reducible refine wpAny_dictEntries hod hdd ?_) | (with_reducible refine wpAny_dictEpoch hod hdd ?_) | wp_step))
 exact ⟨_,rfl, "dict_valueiterator",_,⟨_,aS _ rfl,rfl⟩,F.slot_dict_valueiterator_next.lookup,hQ⟩
theorem PC{Q:Value->Shared->Prop}(hd:(d == sysModules)=false)(hod:s.heap.get? d=some od)(hex:od.ExactDict)
  (hQ:Q (.ref s.heap.objs.size) { s with heap:=s.heap.push { cls:=.type "dict_values",data:=.fields #[.ref d] } }):wpAny (model prog w) A (call (.builtin "dict.values") [.ref d]) Q E s:=by
 have hT:s.TypeIs (.ref d) "dict" := ⟨od,hod,hex.1⟩;refine wpAny_call_entry F.slot_dict_values hT F.entry_dict_values ?_ (F.args_dict_values_1 _);unfold Builtin.«dict.values»;refine wpAny_bind ?_;unfold Builtin.Dict.noArgs;refine wpAny_bind (wpAny_notOrdered_dict hT ?_);show wpAny _ _ (pure d) _ _ s;refine wpAny_pure ?_
 repeat (any_goals (first | assumption | wp_step))
 exact ⟨_,rfl,hQ⟩
end
end HT
namespace L2
open PySem PySem.Spec PySem.W PyProof.Rows HT
def Itv(d:Addr)(o:Obj):It :=
 ⟨λi H=>∃kvs,H d=some (.frz o (.dT kvs))/\i<kvs.length,λi H x H'=>H'=H/\∀kvs,H d=some (.frz o (.dT kvs))->∃p,kvs[i]?=some p/\x=p.2,λi H=>∃kvs,H d=some (.frz o (.dT kvs))/\kvs.length<=i⟩
theorem FM{P:Program}{w:World}{K:PySem.W.Frag}{tg:Expr}(d it:Addr){o:Obj}{es:Array DictEntry}{ep:Nat}(hdat:o.data=.dict es ep):yC P w K tg (Itv d o) [it] it (λi h=>h.IsValIter it d i es.size ep) where
 mem:=by simp
 obj:=λi h st b hb=>by
  have e:b=it:=by simpa using hb
  subst e;obtain ⟨o,e,c,d⟩:=st;exact ⟨o,e,λv z=>by rw [d] at z;cases z⟩
 keep:=λi h h' st k=>st.at λo e=>k it (by simp) o e
 item:=by
  intro X hP hw hK hc i pins s σ H E I hf st hg;subst hP hw hK;obtain ⟨kvs,hq,hi⟩:=hg;obtain ⟨hm,hod,hex,es',ep',hdd,hsz,hat⟩:=rJ I hq;rw [hdat] at hdd;cases hdd;obtain ⟨f0,f1,f2,f3,f4,f5⟩:=hf it (by simp);have hi':i<es.size:=Oo;refine MP st hod hdat hi' λh' st' sb=>?_;have I1:cA X pins σ H { s with heap:=h' }:=I.turned (t':=s.toks) (λb o hb e=>(sb.2 b hb).trans e) f0 f1 f3 f4 f5;obtain ⟨oi,e,c,dd⟩:=id st';obtain ⟨b,hb1,hb2,hb3⟩:=hat i hi' kvs[i] (by simp [hi]);exact ⟨_,rfl,zZ (s:={ s with heap:=h' }) e c dd yd ⟨kvs[i].2,H,I1,hb3,⟨rfl,λkvs' hq'=>by
   rw [hq] at hq';injection hq' with hq';injection hq' with _ hq';injection hq' with hq';subst hq';exact ⟨kvs[i],by simp [hi],rfl⟩⟩,st',λb hb=>(hf b hb).1⟩⟩
 done:=by
  intro X hP hw hK hc i pins s σ H E I hf st hg;subst hP hw hK;obtain ⟨kvs,hq,hi⟩:=hg;obtain ⟨hm,hod,hex,es',ep',hdd,hsz,hat⟩:=rJ I hq;rw [hdat] at hdd;cases hdd;obtain ⟨f0,f1,f2,f3,f4,f5⟩:=hf it (by simp);exact RY (I.ok.hd hc) st hod hdat Oo λh' eb=>⟨rfl,I.turned (t':=s.toks) (λb o hb e=>eb b o hb e) f0 f1 f3 f4 f5⟩
 self:=λ_ _ _ _ _ st h=>wpAny_pyIter_valiter st h
def iDV(tl:TE):TI:=λσ H R=>tl σ H λx H1=>∃d o kvs,x=.ref d/\H1 d=some (.frz o (.dT kvs))/\R (Itv d o) H1
section
variable{X:Cx}{tg:Expr}
theorem MM{l:Expr}{tl:TE}{apos cpos:Pos}(hl:gA X l tl)(hbase:attributeBase l "values" X.env (eval l X.env)=eval l X.env:=by rfl)(hline:(apos.endLine == cpos.line)=true:=by rfl):CP X tg (.Call (.Attribute l "values" apos) [] [] cpos) (iDV tl):=⟨by
 intro pins s σ H R I h;refine wpAny_Call_method0_late hbase hline (thn (hl.p pins s σ H _ I h) λv s1 ⟨x,H1,I1,r1,q1⟩=>?_);obtain ⟨d,o,kvs,e,hq,q⟩:=q1;subst e;cases r1;obtain ⟨hm,hod,hex,es,ep,hdd,hsz,hat⟩:=rJ I1 hq;obtain ⟨t1,t2,_⟩:=KQ I1 (.inr ⟨kvs,.inr ⟨o,hq⟩⟩:IsD H1 d);refine ⟨"dict","dict.values",PySem.F.plainAttrs_dict,PySem.F.slot_dict_values,PySem.F.type_dict_values,t1,t2,Calls.callWith_builtin rfl (PySem.evalArgs_none (PC hm hod hex ?_))⟩;have I2:cA X pins σ H1 { s1 with heap:=s1.heap.push { cls:=.type "dict_values",data:=.fields #[.ref d] } }:=I1.kept (t':=s1.toks) λb o e=>aC _ e;refine MQ (s:={ s1 with heap:=s1.heap.push { cls:=.type "dict_values",data:=.fields #[.ref d] } }) ⟨_,aS _ rfl,rfl,rfl⟩ (aC _ hod) hdd ?_;generalize hH:s1.heap.push { cls:=.type "dict_values",data:=.fields #[.ref d] }=h2 at *;refine ⟨h2.objs.size,[h2.objs.size],_,_,H1,rfl,I2.kept (t':=s1.toks) λb o e=>aC _ e,FM d _ hdd,⟨_,aS _ rfl,rfl,rfl⟩,λb hb=>?_,q⟩;have e:b=h2.objs.size:=by simpa using hb
 subst e;exact I2.fpOk (aF _) (I2.hok.fresh (aF _))⟩
end
theorem AZ.get{H:Hp}{d b:Addr}{kvs:List (List eG × V)}{k:List eG}(h:AZ H d kvs)(hb:H b=some (.tup (k.map kV))):mG H d (.ref b) (eY kvs k):=by
 obtain ⟨o,h⟩:=h;exact .inr ⟨kvs,k,b,.inr ⟨o,h⟩,rfl,hb,rfl⟩
section
variable{X:Cx}{o e:Expr}{apos cpos:Pos}{td ty:TE}
end
end L2
namespace L2
open PySem
section
variable{js:List Nat}{te:TE}{tc:TT}{σ:St}{H:Hp}{Q:VK}
end
end L2
namespace L2
open PySem PySem.Spec PyProof.Rows
section
variable{X:Cx}{pins:List (Addr × Obj)}{σ:St}{H:Hp}{s:Shared}{scope:Scope}{x x2:Str}{N':List Str}{js:List Nat}{fp:List Addr}
end
section
variable{X:Cx}{pins:List (Addr × Obj)}{σ:St}{H:Hp}{s:Shared}{scope:Scope}{x:Str}{N':List Str}{js:List Nat}{fp:List Addr}{elt iter:Expr}{px pos:Pos}{tg:Expr}{x2:Str}{te:TE}
end
section
variable{X:Cx}{scope:Scope}{x x2 y:Str}{N':List Str}{js:List Nat}{elt iter tg:Expr}{py pos spos:Pos}{te:TE}{wi:TI}{i:Nat}
end
end L2
namespace HT
open PySem PySem.Spec PyProof.Rows
section
variable{prog:Program}{w:World}{A:Around}{E:Value->Shared->Prop}{s:Shared}{d:Addr}{o:Obj}{es:Array DictEntry}{ep:Nat}
end
end HT
namespace L2
open PySem PySem.Spec PySem.W PyProof.Rows HT
theorem oI(c:List Int):(c.map (Sum.inl:Int->eG)).map kV=c.map V.int:=by rw [List.map_map];rfl
abbrev kT(c:List Int):List eG:=c.map Sum.inl
theorem kL{a b:List Int}(h:kT a=kT b):a=b:=by
 have:∀{a b:List Int},kT a=kT b->a=b:=by
  intro a
  induction a with
  | nil=>intro b h;cases b with
   | nil=>rfl
   | cons _ _=>cases h
  | cons x a ih=>intro b h;cases b with
   | nil=>cases h
   | cons y b =>
    injection h with h1 h2;injection h1 with h1;rw [h1,ih h2]
 exact this h
section
variable{X:Cx}{o e f k v:Expr}{apos cpos pos:Pos}{td ty tx tk tv:TE}
@[irreducible] def NO(p:Addr)(x y:V)(H2:Hp)(Q:VK):Prop:=∃b k,x=.ref b/\H2 b=some (.tup (k.map kV))/\H2 p=some (.dT [])/\Q (.ref p) (upd H2 p (.dT [(k,y)]))
def SD(tk tv:TE):TE:=λσ H Q=>∀p,H p=none->tk σ (upd H p (.dT [])) λx H1=>tv σ H1 λy H2=>NO p x y H2 Q
theorem XC{p b:Addr}{y:V}{H:Hp}{Q:VK}{c:List Int}(hb:H b=some (.tup (c.map V.int)))(hp:H p=some (.dT []))(q:∀H',H' p=some (.dT [(kT c,y)])->aN p H H'->Q (.ref p) H'):NO p (.ref b) y H Q:=by
 unfold NO;exact ⟨b,kT c,rfl,by rw [oI];exact hb,hp,q _ bK aN.self⟩
theorem yJ(hu:X.A.units+1<cLine)(hk:gA X k tk)(hv:gA X v tv):gA X (.Dict [some k] [v] pos) (SD tk tv):=⟨by
 intro pins s σ H Q I q;have hn:=I.hok.fresh (aF s.heap.objs.size);have I1:=I.laid (a:=s.heap.objs.size) (o:=.dT []) (h':=s.heap.push { cls:=.type "dict",data:=.dict #[] }) (t':=s.toks) (λ_ _ q=>aC _ q) (aF _) (uF s.heap I.big);refine wpAny_Dict_any rfl rfl (by simp) (show 1<=15 by decide) (pairTrees_cons_walk (thn (hk.p pins _ σ _ _ I1 (q _ hn)) λu s1 ⟨x,H1,I1,rx,q1⟩=>thn (hv.p pins s1 σ H1 _ I1 q1) λw2 s2 ⟨y,H2,I2,ry,q2⟩=>pairTrees_nil_walk ?_));unfold NO at q2;obtain ⟨b,kk,rfl,eb,e,q3⟩:=q2;cases (show u=Value.ref b from rx);obtain ⟨z,hd,xs,rel,dd⟩:=EQ I2.hok e;unfold storeAll;rw [List.forIn_cons];refine wpAny_bind (wpAny_bind (wpAny_dictSet_heap (show X.A.units<cLine by omega) (nE I2.hok eb) dd (λh' dd' hs=>wpAny_pure ?_) (by rw [<-Paired.length rel];exact z)));dsimp only;rw [List.forIn_nil];refine wpAny_pure ?_;obtain ⟨q,es,ep,hq,h2,h3,h4,_,h5⟩:=dd';refine ⟨.ref _,_,?_,rfl,q3⟩;have hl:([(kk,y)]:List (List eG × V)).length<=sizeLine:=by show 1<=sizeLine;decide
 refine sV I2 (by rw [e];exact True.intro) hs ⟨q,hq⟩ ⟨hl,hd,_,(rel.put kk eb ry).keeps λc ys ec=>?_,q,es,ep,hq,h2,h3,h4,h5⟩;rw [cS (vP ec e (λz=>nomatch z))];exact ec⟩
theorem CW(hu:X.A.units+1<cLine)(ho:gA X o td)(he:gA X e ty)(hf:gA X f tx)(base:attributeBase o "get" X.env (eval o X.env)=eval o X.env:=by rfl)
  (few:((backTo cpos (starEach [e,f] X.env)).all (λx=>!x.1)&&(backToKw cpos (keywordEach [] X.env)).all (λx=>x.1.isSome)&&decide (([e,f]:List Expr).length+([]:List Keyword).length+(if ([]:List Keyword).isEmpty then 0 else 1)<30))=true:=by rfl)
  (line:(apos.endLine == cpos.line)=true:=by rfl) (trees:backTo cpos (starEach [e,f] X.env)=[(false,eval e X.env),(false,eval f X.env)]:=by rfl):gA X (.Call (.Attribute o "get" apos) [e,f] [] cpos) (IT td ty tx):=⟨KA hu ho.p he.p hf.p ⟨base,few,line,trees⟩⟩
@[irreducible] def NL(b:Bool):R2:=λx y H Q=>∃a o,y=.ref a/\mG H a x o/\Q (.bl (xor b o.isSome)) H
theorem rind{b:Bool}{x:V}{a:Addr}{o:Option V}{H:Hp}{Q:VK}(g:mG H a x o)(q:Q (.bl (xor b o.isSome)) H):NL b x (.ref a) H Q:=by unfold NL;exact ⟨a,o,rfl,g,q⟩
theorem GH(hu:X.A.units+1<cLine):oK X (compareOp .NotIn) (NL true):=by
 intro pins s σ H x y v u Q I rx ry h;unfold NL at h;obtain ⟨a,o,rfl,g,q⟩:=h;cases (show u=Value.ref a from ry);exact PD hu I g rx λs3 I3=>⟨.bl _,H,I3,rfl,by simpa using q⟩
end
theorem ZF{H:Hp}{p b:Addr}{kvs:List (List eG × V)}{c:List Int}{v:V}{D:rX}{σ:St}(e:H p=some (.dT kvs))(eb:H b=some (.tup (c.map V.int)))(hl:kvs.length<=100000)(q:∀H',H' p=some (.dT (jV kvs (kT c) v))->aN p H H'->D.nx σ H') :
  YX D σ (.ref p) (.ref b) v H:=by
 unfold YX;exact ⟨p,_,rfl,HU.t (k:=kT c) e (by rw [oI];exact eb) (bJ hl yd),q _ bK aN.self⟩
theorem mG.ct{H:Hp}{p b:Addr}{kvs:List (List eG × V)}{c:List Int}(e:H p=some (.dT kvs))(eb:H b=some (.tup (c.map V.int))):mG H p (.ref b) (eY kvs (kT c)):=mG.t e (by rw [oI];exact eb)
theorem dgT{H:Hp}{p b:Addr}{kvs:List (List eG × V)}{c:List Int}{v:V}{Q:VK}(e:H p=some (.dT kvs))(eb:H b=some (.tup (c.map V.int)))(hv:eY kvs (kT c)=some v)(q:Q v H):WG (.ref p) (.ref b) H Q:=by
 unfold WG;exact ⟨p,v,rfl,hv ▸ mG.ct e eb,q⟩
theorem AZ.ct{H:Hp}{d b:Addr}{kvs:List (List eG × V)}{c:List Int}(h:AZ H d kvs)(hb:H b=some (.tup (c.map V.int))):mG H d (.ref b) (eY kvs (kT c)):=h.get (by rw [oI];exact hb)
theorem kK{kvs:List (List eG × V)}{k:List eG}{v:V}(h:(eY kvs k).isSome=true):(jV kvs k v).map (·.1)=kvs.map (·.1):=by
 unfold jV;rw [iT,if_pos h,List.map_map];refine cZ λp _=>?_;show (if p.1=k then (p.1,v) else p).1=p.1;split <;> rfl
end L2
namespace L2
open PySem PySem.Spec PyProof.Rows
structure fL(X:Cx)(scope:Scope)(xs:List Str)(N':List Str)(js:List Nat):Prop where
 calm:X.calm=true
 free:∀y∈scope.names,y.2=.free->X.env.kindOf y.1=some .cell
 cell:∀y∈scope.names,y.2 ≠ .cell
 kind:scope.kind=.function
 names:∀y∈scope.names,y.2=.local->scope.names.lookup y.1=some .local
 own:∀x∈xs,scope.names.lookup x=some .local
 nofl:∀y,(y,NameKind.free)∈scope.names->scope.names.lookup y=some .local->False
 len:N'.length=xs.length+js.length
 pre:∀(i:Nat) x,xs[i]?=some x->N'[i]?=some x
 nd:N'.Nodup
 slot:∀(i:Nat) (j:Nat),js[i]?=some j->∃y,N'[xs.length+i]?=some y/\X.N[j]?=some y/\(y,NameKind.free)∈scope.names
def xU:Nat->Nat->LV
 | _,0=>VH
 | i,n+1=>KU (pR i) (xU (i+1) n)
def gN(K:PySem.W.Frag)(n:Nat):TG:=VG K n (xU 0 n)
theorem uC{H:Hp}{r:St}{Q:St->Hp->Prop}:∀(vs:List V) (pre os:St),os.length=vs.length->Q (pre++(vs.map some++r)) H->xU pre.length vs.length vs (pre++(os++r)) H Q
 | [],pre,[],_,q=>⟨rfl,q⟩
 | v::vs,pre,o::os,hl,q=>by
  refine ⟨v,vs,rfl,?_⟩;show xU (pre.length+1) vs.length vs ((pre++(o::os++r)).set pre.length (some v)) H Q;have e1:(pre++(o::os++r)).set pre.length (some v)=(pre++[some v])++(os++r):=by
   rw [List.set_append_right _ _ (aF _),Nat.sub_self,List.append_assoc];rfl
  have e2:pre.length+1=(pre++[some v]).length:=by rw [bC];rfl
  rw [e1,e2];refine uC vs (pre++[some v]) os (by simpa using hl) ?_;rw [List.append_assoc];exact q
@[irreducible] def uN(K:PySem.W.Frag)(n:Nat)(J:It)(σ:St)(js:List Nat)(tc:TT)(te:TE)(H1:Hp)(Q:VK):Prop:=∀D,H1 D=none->∃W:Nat->Nat->List V->Hp->Prop,(∃m,W 0 m [] (upd H1 D (.lst []))) /\
 ∀i m ys H2,W i m ys H2->H2 D=some (.lst ys)/\((J.stop i H2/\Q (.ref D) H2)\/(J.go i H2/\ys.length<sizeLine/\∀x H3,J.yld i H2 x H3->∃a vs,x=.ref a/\gK K H3 a vs/\vs.length=n /\
  sA tc (vs.map some++slots σ js) H3 λb H4=>if b=true then wU te (vs.map some++slots σ js) H4 λy H5=>H5 D=some (.lst ys)/\∃m',m' < m/\W (i+1) m' (ys++[y]) (upd H5 D (.lst (ys++[y])))
   else H4 D=some (.lst ys)/\∃m',m' < m/\W (i+1) m' ys H4))
def BI(K:PySem.W.Frag)(n:Nat)(wi:TI)(js:List Nat)(tc:TT)(te:TE):TE:=λσ H Q=>wi σ H λJ H1=>uN K n J σ js tc te H1 Q
section
variable{X:Cx}{pins:List (Addr × Obj)}{σ:St}{H:Hp}{s:Shared}{scope:Scope}{xs:List Str}{N':List Str}{js:List Nat}{fp:List Addr}
theorem fL.cells(S:fL X scope xs N' js)(ok:X.Ok):∀y∈scope.names,y.2=.free->∃c,X.env.cells.lookup y.1=some c:=λy hy hf=>ok.has _ (.inl (S.free y hy hf))
theorem PF(S:fL X scope xs N' js)(I:cA X pins σ H s)(hf:∀b∈fp,jB X pins H b)(hb:∀b∈fp,b<s.heap.objs.size):(kD X scope s.heap.objs.size fp s H N').Ok where
 mod:=I.ok.mod
 kind:=S.kind
 glob:=I.ok.glob
 blt:=I.ok.blt
 above:=aF _
 inj:=λy z c h1 h2=>I.ok.inj y z c (gJ (S.cells I.ok) h1) (gJ (S.cells I.ok) h2)
 has:=λy hy=>by
  have hm:(y,NameKind.free)∈scope.names:=by
   rcases hy with hy | hy
   ·exact gU (env:=X.env) hy (.inl rfl) S.cell
   ·exact gU (env:=X.env) hy (.inr rfl) S.cell
  obtain ⟨c,hc⟩:=S.cells I.ok _ hm rfl;exact ⟨c,lJ (S.cells I.ok) hm hc⟩
 cab:=λ_ _ h=>by cases h
 hd:=λ_=>I.ok.hd S.calm
 frames:=I.ok.frames
 stk:=.inl rfl
 exf:=λb hb'=>⟨λe=>by have:=hb b hb';rw [e] at this;exact cE _ this,λy c h=>(hf b hb').2.2.2.2.1 y c (gJ (S.cells I.ok) h)⟩
 bs:=I.bs
 bsz:=aZ I.ok.bsz I.sz
 noex:=λb o e hb'=>by
  rcases (hf b hb').2.2.2.1 with h | h
  ·exact I.ok.noex b o e h
  ·exact absurd (aX (aV e) (aZ I.ok.bsz h)) (cE _)
 exfs:=λb hb' hs=>by
  have h2:=I.stkSub b hs;rcases bE.mp h2 with h2 | h2
  ·exact (hf b hb').2.1 h2
  ·exact (hf b hb').2.2.1 h2
 funs:=I.stack
 frf:=I.stkFree
theorem LB{h':Heap}{tk:Nat}(S:fL X scope xs N' js)(I:cA X pins σ H s)(hf:∀b∈fp,jB X pins H b)(hb:∀b∈fp,b<s.heap.objs.size)
  (hn:h'.Ns s.heap.objs.size (λ_=>none)) (hk:∀b o,s.heap.get? b=some o->h'.get? b=some o):cA (kD X scope s.heap.objs.size fp s H N') [] (List.replicate xs.length none++slots σ js) H { s with heap:=h',toks:=tk } where
 ok:=PF S I hf hb
 os:=rfl
 bare:=I.bare
 base:=Un.kept hk
 loc:=by
  refine ⟨_,hn,λi y v hi hv hvis=>?_⟩;by_cases hlt0:i<xs.length
  ·rw [List.getElem?_append_left (by rw [cY];exact hlt0),List.getElem?_replicate,if_pos hlt0] at hv;cases hv
  ·obtain ⟨i,rfl⟩:∃k,i=xs.length+k:=⟨i-xs.length,Oo⟩;rw [List.getElem?_append_right (by rw [cY];omega),cY,Nat.add_sub_cancel_left] at hv;have hv':(slots σ js)[i]?=some (some v):=hv;have hlt:i<js.length:=by
    have:=(aH.mp hv').1;unfold slots at this
    rwa [aA] at this
   have hj:js[i]?=some js[i]:=aB hlt;obtain ⟨z,h1,h2,h3⟩:=S.slot i _ hj;have hzy:z=y:=by
    have:N'[xs.length+i]?=some y:=hi;rw [h1] at this;cases this;rfl
   subst hzy;rw [vI hj] at hv';have hσ:σ[js[i]]?=some (some v):=by
    cases q:σ[js[i]]? with
    | none=>rw [q] at hv';cases hv'
    | some o=>rw [q] at hv';cases hv';rfl
   have hkc:X.env.kindOf z=some .cell:=S.free _ h3 rfl;obtain ⟨m,hm,hl⟩:=I.loc;obtain ⟨u,ru,lk⟩:=hl _ z v h2 hσ (.inr (.inl hkc));rcases lk with ⟨hk1,_⟩ | ⟨_,c,hc,hcell⟩
   ·rw [hkc] at hk1;cases hk1
   ·refine ⟨u,ru,.inr ⟨?_,c,lJ (S.cells I.ok) h3 hc,?_⟩⟩
    ·rcases hvis with hvis | hvis | hvis
     ·exfalso;have hcl:=lJ (S.cells I.ok) h3 hc;have hm2:=mB (l:=(relabel scope X.env).names) hvis;unfold relabel at hm2;obtain ⟨⟨n,k⟩,hmem,he⟩:=aP.mp hm2;dsimp only at he;by_cases hq:(k == NameKind.free&&X.env.scope.kind == .function&&X.env.kindOf n == some .cell)=true
      ·rw [if_pos hq] at he;cases he
      ·rw [if_neg hq] at he;cases he;have:=S.names _ hmem rfl;have l2:=lZ h3;obtain ⟨c',l2⟩:=l2;dsimp only at this;rw [this] at l2;have key:(relabel scope X.env).names.lookup z=some .local:=lookup_relabel_local this;have hck:scope.names.lookup z=some .local:=this;exact S.nofl z h3 hck
     ·exact .inl hvis
     ·exact .inr hvis
    ·obtain ⟨o,e,r⟩:=hcell;exact ⟨o,hk _ _ e,r⟩
 cell:=λy c h=>by
  obtain ⟨v,o,e,r⟩:=I.cell y c (gJ (S.cells I.ok) h);exact ⟨v,o,hk _ _ e,r⟩
 free:=I.hok.fresh (aF _)
 freeC:=λy c h=>I.freeC y c (gJ (S.cells I.ok) h)
 pin:=λp hp=>by cases hp
 hok:=I.hok.kept hk
 len:=by
  rw [bC,cY];unfold slots;rw [aA];exact S.len.symm
theorem GX{H2:Hp}{σ':St}{s2:Shared}{h'':Heap}(S:fL X scope xs N' js)(I:cA X pins σ H s)(hf:∀b∈fp,jB X pins H b)
  (J:cA (kD X scope s.heap.objs.size fp s H N') [] σ' H2 s2) (hs:Heap.SameBut s.heap.objs.size s2.heap h''):cA X pins σ H2 { s2 with heap:=h'' }:=by
 have hC:H2 s.heap.objs.size=none:=J.free;have ne:∀{b:Addr} {o:Obj},s.heap.get? b=some o->b≠s.heap.objs.size:=λe q=>by
  have:=aV e;rw [q] at this;exact cE _ this
 refine I.call' (s':={ s2 with heap:=h'' }) (ch:=fp) (by rw [show ({ s2 with heap:=h'' }:Shared).os=s2.os from rfl];exact J.os) ?_ (J.hok.but hC λb u hb q=>hs.extBut b u hb q) J.bare λb hb=>⟨(hf b hb).2.2.2.1,(hf b hb).2.1,(hf b hb).2.2.2.2.1,(hf b hb).2.2.2.2.2⟩;have U:=J.base;exact {
  keep:=λb o e n h1 h2=>hs.extBut b o (ne e) (U.keep b o e n h1 h2)
  slot:=λb o e n h1 h2=>by
   obtain ⟨sl,q⟩:=U.slot b o e n h1 h2;exact ⟨sl,hs.extBut b _ (ne e) q⟩
  free:=U.free
  there:=λb o e h2=>by
   obtain ⟨o',q⟩:=U.there b o e h2;exact ⟨o',hs.extBut b _ (ne e) q⟩
  tups:=U.tups
  frzs:=U.frzs
  tbls:=U.tbls }
end
section
variable{X:Cx}{pins:List (Addr × Obj)}{σ:St}{H:Hp}{s:Shared}{scope:Scope}{xs:List Str}{N':List Str}{js:List Nat}{fp:List Addr}{elt iter:Expr}{px pos:Pos}{tg:Expr}{ifs:List Expr}{tc:TT}{te:TE}
theorem AM{J:It}{it:Addr}{tn:Nat->Heap->Prop}{RR:Value->Addr->Result->Shared->Prop}{E:Value->Shared->Prop}{Q:VK}
  (S:fL X scope xs N' js) (I:cA X pins σ H s) (T:yC X.prog X.w X.K tg J fp it tn) (h0:tn 0 s.heap) (hf:∀b∈fp,jB X pins H b)
  (hg:∀C fp s₀ H₀,PG (kD X scope C fp s₀ H₀ N') tg (gN X.K xs.length)) (ht:∀C fp s₀ H₀,LW (kD X scope C fp s₀ H₀ N') ifs tc) (he:∀C fp s₀ H₀,PE (kD X scope C fp s₀ H₀ N') elt te)
  (R:∀D,H D=none->∃W:Nat->Nat->List V->Hp->Prop,(∃m,W 0 m [] (upd H D (.lst []))) /\
   ∀i m ys H2,W i m ys H2->H2 D=some (.lst ys)/\((J.stop i H2/\Q (.ref D) H2)\/(J.go i H2/\ys.length<sizeLine/\∀x H3,J.yld i H2 x H3->∃a vs,x=.ref a/\gK X.K H3 a vs/\vs.length=xs.length /\
    tc (vs.map some++slots σ js) H3 λb H4=>if b=true then te (vs.map some++slots σ js) H4 λy H5=>H5 D=some (.lst ys)/\∃m',m' < m/\W (i+1) m' (ys++[y]) (upd H5 D (.lst (ys++[y])))
     else H4 D=some (.lst ys)/\∃m',m' < m/\W (i+1) m' ys H4)))
  (hRR:∀(D:Addr) (H3:Hp) (s3:Shared) (σ':St) (H':Hp) (s':Shared),cA X pins σ H3 s3->(∀b∈fp,jB X pins H3 b)->cA (kD X scope s3.heap.objs.size fp s3 H3 N') [] σ' H' s'->Q (.ref D) H'->RR (.ref D) s3.heap.objs.size (.ok .next) s') :
  wpAny (model X.prog X.w) X.A (newList []) (λacc s₃=>wpAny (model X.prog X.w) X.A (newFunctionEnv scope X.env.globals (CH X scope) [] X.env.qual none .none (some X.env)) (λcenv s₄ =>
   codeAny (model X.prog X.w) X.A (.compStart (.ListComp elt [⟨tg,iter,ifs,0⟩] scope pos) 0 (.ref it) acc { cenv with scope:=relabel scope X.env }) (RR acc cenv.locals) s₄) E s₃) E s:=by
 have hb:∀b∈fp,b<s.heap.objs.size:=λb hb=>by
  obtain ⟨o,e,_⟩:=T.obj 0 _ h0 b hb;exact aV e
 refine wpAny_newObj_type (wpAny_newFunctionEnv S.cell (by intro y hy;simp at hy) (λh₁ hns₁ hsb₁=>?_) S.kind);have hDn:H s.heap.objs.size=none:=I.hok.fresh (aF _);obtain ⟨W,⟨m0,hw0⟩,hW⟩:=R _ hDn;have I3:cA X pins σ (upd H s.heap.objs.size (.lst [])) { s with heap:=s.heap.push { cls:=.type "list",dict:=none,data:=.seq ([]:List Value).toArray } }:=I.lnew (its:=[]) (ys:=[]) (t':=s.toks) .nil (cM _);have hf3:∀b∈fp,jB X pins (upd H s.heap.objs.size (.lst [])) b:=λb hb' =>
  ⟨by rw [cS (λe=>by have:=hb b hb';rw [e] at this;exact cE _ this)];exact (hf b hb').1,(hf b hb').2⟩
 have hb3:∀b∈fp,b<(s.heap.push { cls:=.type "list",dict:=none,data:=.seq ([]:List Value).toArray }).objs.size:=λb hb'=>by
  rw [kQ];exact Nat.lt_succ_of_lt (hb b hb')
 have hkeep:∀b o,(s.heap.push { cls:=.type "list",dict:=none,data:=.seq ([]:List Value).toArray }).get? b=some o->h₁.get? b=some o:=λb o e =>
  hsb₁.extBut b o (λq=>by have:=aV e;rw [q] at this;exact cE _ this) (aC _ e)
 have J4:=LB (h':=h₁) (tk:=s.toks+([]:List (Str × Value)).length) S I3 hf3 hb3 hns₁ hkeep;have t4:tn 0 h₁:=T.keep 0 _ _ h0 λb hb' o e=>hkeep b o (aC _ e);have loop:codeAny (model X.prog X.w) X.A (.compLoop (.ListComp elt [⟨tg,iter,ifs,0⟩] scope pos) 0 (.ref it) (.ref s.heap.objs.size) (compEnvC scope (CH X scope) (s.heap.push { cls:=.type "list",dict:=none,data:=.seq ([]:List Value).toArray }).objs.size X.env))
   (RR (.ref s.heap.objs.size) (s.heap.push { cls:=.type "list",dict:=none,data:=.seq ([]:List Value).toArray }).objs.size) { s with heap:=h₁,toks:=s.toks+([]:List (Str × Value)).length }:=by
  refine pX (λn s'=>∃(i:Nat) (ys:List V) (H2:Hp) (os:St),os.length=xs.length/\cA (kD X scope _ fp _ _ N') [] (os++slots σ js) H2 s'/\tn i s'.heap/\(∀b∈fp,H2 b=none)/\W i n ys H2) ?_ m0 ⟨0,[],_,_,cY,J4,t4,λb hb'=>(hf3 b hb').1,hw0⟩;rintro n s' ⟨i,ys,H2,os,hos,J2,t2,f2,w2⟩;obtain ⟨hD,hcase⟩:=hW i n ys H2 w2;have Fp:∀b∈fp,jB (kD X scope (s.heap.push { cls:=.type "list",dict:=none,data:=.seq ([]:List Value).toArray }).objs.size fp { s with heap:=s.heap.push { cls:=.type "list",dict:=none,data:=.seq ([]:List Value).toArray } } (upd H s.heap.objs.size (.lst [])) N') [] H2 b:=λb hb' =>
   ⟨f2 b hb',(J2.ok.exf b hb').1,J2.ok.exfs b hb',.inl hb',(J2.ok.exf b hb').2,λp hp=>by cases hp⟩
  rcases hcase with ⟨hstop,hq⟩ | ⟨hgo,hz,hturn⟩
  ·refine wpAny_mono (T.done (kD X scope _ fp _ _ N') rfl rfl rfl rfl i [] s' _ H2 ME J2 Fp t2 hstop) (λr s1 ⟨hr,J5⟩=>?_) λ_ _ f=>f;subst hr;exact hRR _ _ _ _ _ _ I3 hf3 J5 hq
  ·refine wpAny_mono (T.item (kD X scope _ fp _ _ N') rfl rfl rfl rfl i [] s' _ H2 ME J2 Fp t2 hgo) (λr s1 ⟨u,hr,hx⟩=>?_) λ_ _ f=>f;subst hr;refine wpAny_mono hx (λ_ s2 ⟨v,H3,J3,rv,hy,t3,f3⟩=>?_) λ_ _ f=>f;have Fp3:∀b∈fp,jB (kD X scope (s.heap.push { cls:=.type "list",dict:=none,data:=.seq ([]:List Value).toArray }).objs.size fp { s with heap:=s.heap.push { cls:=.type "list",dict:=none,data:=.seq ([]:List Value).toArray } } (upd H s.heap.objs.size (.lst [])) N') [] H3 b:=λb hb' =>
    ⟨f3 b hb',(J3.ok.exf b hb').1,J3.ok.exfs b hb',.inl hb',(J3.ok.exf b hb').2,λp hp=>by cases hp⟩
   have P3:=J3.pinned Fp3 (T.obj (i+1) _ t3);have keepT:∀{σ':St} {Hx:Hp} {sx:Shared},cA (kD X scope (s.heap.push { cls:=.type "list",dict:=none,data:=.seq ([]:List Value).toArray }).objs.size fp { s with heap:=s.heap.push { cls:=.type "list",dict:=none,data:=.seq ([]:List Value).toArray } } (upd H s.heap.objs.size (.lst [])) N') ([]++qW fp s2.heap) σ' Hx sx->tn (i+1) sx.heap/\∀b∈fp,Hx b=none:=λJx =>
    ⟨T.keep (i+1) _ _ t3 λb hb' ob e=>(Jx.pin (b,ob) (bH _ (bH _ (iP hb' e)))).1,λb hb'=>by
     obtain ⟨ob,e,_⟩:=T.obj (i+1) _ t3 b hb';exact (Jx.pin (b,ob) (bH _ (bH _ (iP hb' e)))).2.1⟩
   obtain ⟨a,vs,ev,hq,hl,qe⟩:=hturn v H3 hy;subst ev;refine wpAny_mono (hg _ _ _ _ _ _ (os++slots σ js) H3 (.ref a) u (λσ' H'=>σ'=vs.map some++slots σ js/\H'=H3) P3 rv ⟨a,vs,rfl,hq,hl,?_⟩) (λ_ s5 ⟨σ5,H5,J5,e5,e6⟩=>?_) λ_ _ f=>f
   ·have:=uC (H:=H3) (r:=slots σ js) (Q:=λσ' H'=>σ'=vs.map some++slots σ js/\H'=H3) vs [] os (by rw [hos,hl]) ⟨rfl,rfl⟩;rw [hl] at this;exact this
   subst e5 e6;refine wpAny_mono (ht _ _ _ _ _ _ _ _ _ J5 qe) (λok s6 ⟨H6,J6,q6⟩=>?_) λ_ _ f=>f;dsimp only at q6;by_cases hok:ok=true
   ·rw [if_pos hok] at q6 ⊢;refine wpAny_mono (he _ _ _ _ _ _ _ _ _ J6 q6) (λy s7 ⟨w',H7,J7,r7,hD7,m',hm',w7⟩=>?_) λ_ _ f=>f;refine wpAny_mono (rB (X:=kD X scope _ fp _ _ N') _ _ _ _ (.ref s.heap.objs.size) [w'] (.ref s.heap.objs.size) [y] (λ_ H8=>H8=upd H7 s.heap.objs.size (.lst (ys++[w']))) J7 rfl (.cons r7 .nil) ⟨_,_,_,rfl,rfl,hD7,hz,rfl⟩) (λ_ s8 ⟨_,H8,J8,_,e8⟩=>?_) λ_ _ f=>f;subst e8;obtain ⟨k1,k2⟩:=keepT J8;exact ⟨m',hm',i+1,ys++[w'],_,vs.map some,by rw [aA,hl],J8.unpinned,k1,k2,w7⟩
   ·rw [if_neg hok] at q6 ⊢;obtain ⟨_,m',hm',w7⟩:=q6;obtain ⟨k1,k2⟩:=keepT J6;exact ⟨m',hm',i+1,ys,_,vs.map some,by rw [aA,hl],J6.unpinned,k1,k2,w7⟩
 refine codeAny_compStart_list loop (T.self X.A 0 _ _ _ t4 loop)
theorem zD{wi:TI}(S:fL X scope xs N' js)(hi:PI X tg iter wi)(hg:∀C fp s₀ H₀,PG (kD X scope C fp s₀ H₀ N') tg (gN X.K xs.length))(ht:∀C fp s₀ H₀,LW (kD X scope C fp s₀ H₀ N') ifs tc)(he:∀C fp s₀ H₀,PE (kD X scope C fp s₀ H₀ N') elt te)
  (hs:∀x,foldedSetIterable iter X.env x=pure x:=by intro _;rfl):PE X (.ListComp elt [⟨tg,iter,ifs,0⟩] scope pos) (BI X.K xs.length wi js tc te):=by
 intro pins s σ H Q I h;rw [eval_ListComp];refine wpAny_comprehension_free (use:=none) rfl hs (kM (S.cells I.ok)) S.kind S.names (wpAny_mono (hi pins s σ H _ I h) (λv s1 h1=>?_) λ_ _ e=>e);refine wpAny_mono h1 (λitv s2 ⟨it,fp,tn,J,H2,e,I2,T,t0,hf,R⟩=>?_) λ_ _ e=>e;subst e;refine AM (te:=wU te) (tc:=sA tc) S I2 T t0 hf hg (λC fp s₀ H₀=>(ht C fp s₀ H₀).mono) (λC fp s₀ H₀=>(he C fp s₀ H₀).mono) (by unfold uN at R;exact R) ?_;intro D H3 s3 σ' H' s' I3 hf3 J3 q;obtain ⟨m,hm,_⟩:=J3.loc;exact ⟨m,hm,λh' hs'=>⟨.ref D,H',GX S I3 hf3 J3 hs',rfl,q⟩⟩
end
section
variable{X:Cx}{scope:Scope}{x1 x2 x3 y:Str}{N':List Str}{js:List Nat}{elt iter tg:Expr}{ifs:List Expr}{py pos spos:Pos}{tc:TT}{te:TE}{wi:TI}{i:Nat}
theorem yI{xs:List Str}{k:Nat}{x:Str}{p:Pos}(S:fL X scope xs N' js)(h:xs[k]?=some x)(C:Addr)(fp:List Addr)(s₀:Shared)(H₀:Hp):QB (kD X scope C fp s₀ H₀ N') (.Name x p) (pR k) :=
 have l:=S.own x (aM h)
 cW S.nd (S.pre k x h) (.inl (lookup_relabel_local l)) (.inr (lookup_relabel_local l))
theorem RW{p1 p2 pt:Pos}{kk:Nat}(S:fL X scope [x1,x2] N' js)(C:Addr)(fp:List Addr)(s₀:Shared)(H₀:Hp):QB (kD X scope C fp s₀ H₀ N') (.Tuple [.Name x1 p1,.Name x2 p2] kk pt) (gN X.K 2) :=
 oB rfl (eW (yI S rfl C fp s₀ H₀) (eW (yI S rfl C fp s₀ H₀) lN))
theorem IJ{p1 p2 p3 pt:Pos}{kk:Nat}(S:fL X scope [x1,x2,x3] N' js)(C:Addr)(fp:List Addr)(s₀:Shared)(H₀:Hp):QB (kD X scope C fp s₀ H₀ N') (.Tuple [.Name x1 p1,.Name x2 p2,.Name x3 p3] kk pt) (gN X.K 3) :=
 oB rfl (eW (yI S rfl C fp s₀ H₀) (eW (yI S rfl C fp s₀ H₀) (eW (yI S rfl C fp s₀ H₀) lN)))
theorem FK{p1 p2 pt:Pos}{kk:Nat}(S:fL X scope [x1,x2] N' js)(hi:CP X (.Tuple [.Name x1 p1,.Name x2 p2] kk pt) iter wi)(ht:∀C fp s₀ H₀,HQ (kD X scope C fp s₀ H₀ N') ifs tc)(he:∀C fp s₀ H₀,gA (kD X scope C fp s₀ H₀ N') elt te)
  (hs:∀x,foldedSetIterable iter X.env x=pure x:=by intro _;rfl):gA X (.ListComp elt [⟨.Tuple [.Name x1 p1,.Name x2 p2] kk pt,iter,ifs,0⟩] scope pos) (BI X.K 2 wi js tc te) :=
 ⟨zD S hi.p (λC fp s₀ H₀=>(RW S C fp s₀ H₀).p) (λC fp s₀ H₀=>(ht C fp s₀ H₀).p) (λC fp s₀ H₀=>(he C fp s₀ H₀).p) hs⟩
theorem FJ{p1 p2 p3 pt:Pos}{kk:Nat}(S:fL X scope [x1,x2,x3] N' js)(hi:CP X (.Tuple [.Name x1 p1,.Name x2 p2,.Name x3 p3] kk pt) iter wi)(ht:∀C fp s₀ H₀,HQ (kD X scope C fp s₀ H₀ N') ifs tc)(he:∀C fp s₀ H₀,gA (kD X scope C fp s₀ H₀ N') elt te)
  (hs:∀x,foldedSetIterable iter X.env x=pure x:=by intro _;rfl):gA X (.ListComp elt [⟨.Tuple [.Name x1 p1,.Name x2 p2,.Name x3 p3] kk pt,iter,ifs,0⟩] scope pos) (BI X.K 3 wi js tc te) :=
 ⟨zD S hi.p (λC fp s₀ H₀=>(IJ S C fp s₀ H₀).p) (λC fp s₀ H₀=>(ht C fp s₀ H₀).p) (λC fp s₀ H₀=>(he C fp s₀ H₀).p) hs⟩
end
def LE(psc scope:Scope)(N:List Str)(xs N':List Str)(js:List Nat):Bool :=
 (scope.names.all λy=>!(y.2 == .free) || psc.names.lookup y.1 == some .cell)&&(scope.names.all λy=>!(y.2 == .cell))&&scope.kind == .function &&
 (scope.names.all λy=>!(y.2 == .local) || scope.names.lookup y.1 == some .local)&&(xs.all λx=>scope.names.lookup x == some .local) &&
 (scope.names.all λy=>!(y.2 == .free) || !(scope.names.lookup y.1 == some .local))&&N'.length == xs.length+js.length&&N'.take xs.length == xs&&decide N'.Nodup &&
 ((List.range js.length).all λi=>match js[i]?,N'[xs.length+i]? with
  | some j,some y=>N[j]? == some y&&scope.names.contains (y,NameKind.free)
  | _,_=>false)
theorem fL.of{X:Cx}{psc scope:Scope}{N:List Str}{xs N':List Str}{js:List Nat}(h:LE psc scope N xs N' js=true)(hX:X.env.scope=psc)(hN:X.N=N)(hc:X.calm=true):fL X scope xs N' js:=by
 unfold LE at h;simp only [cN] at h;obtain ⟨⟨⟨⟨⟨⟨⟨⟨⟨h1,h2⟩,h3⟩,h4⟩,h5⟩,h6⟩,h7⟩,h8⟩,h9⟩,h10⟩:=h;rw [List.all_eq_true] at h1 h2 h4 h5 h6 h10;refine ⟨hc,λy hy e=>?_,λy hy e=>?_,by simpa using h3,λy hy e=>?_,λx hx=>by simpa using h5 x hx,λy hy e=>?_,by simpa using h7,λi x hx=>?_,of_decide_eq_true h9,λi j hj=>?_⟩
 ·have:=h1 y hy;rw [e] at this;show X.env.scope.names.lookup y.1=_;rw [hX];simpa using this
 ·have:=h2 y hy;rw [e] at this;simp at this
 ·have:=h4 y hy;rw [e] at this;simpa using this
 ·have:=h6 _ hy;rw [e] at this;simp at this
 ·have e8:N'.take xs.length=xs:=by simpa using h8
  have hi:i<xs.length:=(aH.mp hx).1;rw [<-hx]
  conv=>rhs;rw [<-e8]
  rw [List.getElem?_take,if_pos hi]
 ·have hi:i<js.length:=(aH.mp hj).1;have:=h10 i (cU.mpr hi);rw [hj] at this;cases q:N'[xs.length+i]? with
  | none=>rw [q] at this;simp at this
  | some y =>
   rw [q] at this;simp only [cN] at this;exact ⟨y,rfl,by rw [hN];simpa using this.1,List.contains_iff_mem.mp this.2⟩
theorem vM{α β:Type}{R:α->β->Prop}:∀{l:List α}{m:List β}{i:Nat}{b:β},Paired R l m->m[i]?=some b->∃a,l[i]?=some a/\R a b
 | _,_,_,_,.nil,h=>by simp at h
 | _,_,0,b,.cons h t,e=>⟨_,rfl,by cases (show _=b by simpa using e);exact h⟩
 | _,_,i+1,b,.cons h t,e=>by
  obtain ⟨a,h1,h2⟩:=vM t (i:=i) (by simpa using e);exact ⟨a,by simpa using h1,h2⟩
section
variable{js:List Nat}{te:TE}{tc:TT}{σ:St}{H:Hp}{Q:VK}
theorem HF{K:PySem.W.Frag}{n:Nat}{J:It}{α:Type}{as:List α}(p:α->Bool)(Src:α->V->Prop)(R:α->V->Hp->Prop)(hR:∀c y H1 H2,cQ H1 H2->R c y H1->R c y H2)(hz:as.length<=100000)
  (hg:∀i H',aQ H H'->i<as.length->J.go i H'/\∀x H3,J.yld i H' x H3->H3=H'/\∃c,as[i]?=some c/\Src c x) (hst:∀H',aQ H H'->J.stop as.length H')
  (hs:∀x c H',c∈as->Src c x->aQ H H'->∃a vs,x=.ref a/\gK K H' a vs/\vs.length=n/\(∀Q':Bool->Hp->Prop,(∀H5,aQ H' H5->Q' (p c) H5)->tc (vs.map some++slots σ js) H' Q') /\
   ∀H5 (Q':VK),aQ H' H5->p c=true->(∀y H6,aQ H5 H6->R c y H6->Q' y H6)->te (vs.map some++slots σ js) H5 Q')
  (hd:∀D ys H',H D=none->H' D=some (.lst ys)->aQ H H'->Paired (λc y=>R c y H') (as.filter p) ys->Q (.ref D) H'):uN K n J σ js tc te H Q:=by
 unfold uN;intro D hD;have mono:∀{H1 H2:Hp} {l:List α} {ys:List V},cQ H1 H2->Paired (λc y=>R c y H1) l ys->Paired (λc y=>R c y H2) l ys:=by
  intro H1 H2 l ys s h
  induction h with
  | nil=>exact .nil
  | cons h t ih=>exact .cons (hR _ _ _ _ s h) ih
 have snoc:∀{H1:Hp} {l:List α} {ys:List V} {c:α} {y:V},Paired (λc y=>R c y H1) l ys->R c y H1->Paired (λc y=>R c y H1) (l++[c]) (ys++[y]):=by
  intro H1 l ys c y h r
  induction h with
  | nil=>exact .cons r .nil
  | cons h t ih=>exact .cons h ih
 refine ⟨λi m ys H'=>m=as.length-i/\i<=as.length/\H' D=some (.lst ys)/\aQ H H'/\ys.length<=i/\Paired (λc y=>R c y H') ((as.take i).filter p) ys,⟨as.length,by simp,cM _,bK,aQ.upd hD,aF _,.nil⟩,?_⟩;rintro i m ys H2 ⟨rfl,hi,hD2,s2,hy,pr⟩;refine ⟨hD2,?_⟩;by_cases hlt:i<as.length
 ·obtain ⟨hgo,hyl⟩:=hg i H2 s2 hlt;refine .inr ⟨hgo,bJ (m:=100000) Oo yd,λx H3 hy3=>?_⟩;obtain ⟨rfl,c,hc,rc⟩:=hyl x H3 hy3;have hti:as.take (i+1)=as.take i++[c]:=by rw [fY,hc];rfl
  obtain ⟨a,vs,e,hq,hl,ht,he⟩:=hs x c H3 (aM hc) rc s2;refine ⟨a,vs,e,hq,hl,λb H4=>b=p c/\aQ H3 H4,ht _ λH5 s5=>⟨rfl,s5⟩,?_⟩;rintro b H4 ⟨rfl,s4⟩;by_cases hp:p c=true
  ·rw [if_pos hp];refine ⟨λy H5=>aQ H4 H5/\R c y H5,he H4 _ s4 hp λy H6 s6 r=>⟨s6,r⟩,?_⟩;rintro y H5 ⟨s5,r⟩;have e5:=s5 _ _ (s4 _ _ hD2);refine ⟨e5,_,?_,rfl,hlt,bK,aQ.thru hD ((s2.trans s4).trans s5) aN.self,?_,?_⟩
   ·omega
   ·rw [bC,List.length_singleton];omega
   ·rw [hti,List.filter_append,show List.filter p [c]=[c] by simp [hp]];have t6:cQ H5 (upd H5 D (.lst (ys++[y]))):=aN.t aN.self e5;exact mono t6 (snoc (mono (s4.trans s5).t pr) r)
  ·rw [if_neg hp];refine ⟨s4 _ _ hD2,_,?_,rfl,hlt,s4 _ _ hD2,s2.trans s4,Oo,?_⟩
   ·omega
   ·rw [hti,List.filter_append,show List.filter p [c]=[] by simp [hp],List.append_nil];exact mono s4.t pr
 ·have e:i=as.length:=Oo;subst e;refine .inl ⟨hst H2 s2,hd D ys H2 hD hD2 s2 ?_⟩;rw [bG] at pr;exact pr
theorem HD{K:PySem.W.Frag}{n:Nat}{a0:Addr}{xs:List V}{α:Type}{as:List α}(p:α->Bool)(Src:α->V->Prop)(R:α->V->Hp->Prop)(hR:∀c y H1 H2,cQ H1 H2->R c y H1->R c y H2)(hz:as.length<=100000)(ha:H a0=some (.lst xs))(pr:Paired Src as xs)
  (hs:∀x c H',c∈as->Src c x->aQ H H'->∃a vs,x=.ref a/\gK K H' a vs/\vs.length=n/\(∀Q':Bool->Hp->Prop,(∀H5,aQ H' H5->Q' (p c) H5)->tc (vs.map some++slots σ js) H' Q') /\
   ∀H5 (Q':VK),aQ H' H5->p c=true->(∀y H6,aQ H5 H6->R c y H6->Q' y H6)->te (vs.map some++slots σ js) H5 Q')
  (hd:∀D ys H',H D=none->H' D=some (.lst ys)->aQ H H'->Paired (λc y=>R c y H') (as.filter p) ys->Q (.ref D) H'):uN K n (MG K a0) σ js tc te H Q:=by
 have hl:xs.length=as.length:=pr.length.symm;refine HF p Src R hR hz (λi H' s hi=>⟨⟨xs,xs[i]'Oo,fE.of (s _ _ ha),by simp⟩,λx H3 y=>⟨y.1,?_⟩⟩) (λH' s=>⟨xs,fE.of (s _ _ ha),Oo⟩) hs hd;have hx:=y.2 xs (fE.of (s _ _ ha));obtain ⟨c,h1,h2⟩:=vM pr hx;exact ⟨c,h1,h2⟩
end
end L2
namespace L2
open PySem
section
variable{js:List Nat}{te:TE}{σ:St}{H:Hp}{Q:VK}
theorem HC{K:PySem.W.Frag}{b1 b2:Bool}{l1 l2:Addr}{xs ys:List V}(R:Nat->V->Hp->Prop)(hR:∀i y H1 H2,cQ H1 H2->R i y H1->R i y H2)(hz:xs.length<=100000)(h1:H l1=some (yE b1 xs))(h2:H l2=some (yE b2 ys))(hl:xs.length=ys.length)
  (hs:∀i x y H' (Q':VK),xs[i]?=some x->ys[i]?=some y->aQ H H'->(∀z H6,aQ H' H6->R i z H6->Q' z H6)->te (some x::some y::slots σ js) H' Q')
  (hd:∀D zs H',H D=none->H' D=some (.lst zs)->aQ H H'->zs.length=xs.length->(∀(i:Nat) (z:V),zs[i]?=some z->R i z H')->Q (.ref D) H'):uN K 2 (WL b1 b2 l1 l2) σ js oT te H Q:=by
 unfold uN;intro D hD;refine ⟨λi m zs H'=>m=xs.length-i/\i<=xs.length/\zs.length=i/\H' D=some (.lst zs)/\aQ H H'/\∀(i:Nat) (z:V),zs[i]?=some z->R i z H',⟨xs.length,by simp,cM _,rfl,bK,aQ.upd hD,λi z h=>by simp at h⟩,?_⟩;rintro i m zs H2 ⟨rfl,hi,hy,hD2,s2,hr⟩;refine ⟨hD2,?_⟩;by_cases hlt:i<xs.length
 ·have hx:xs[i]?=some xs[i]:=aB Oo;have hy':ys[i]?=some (ys[i]'Oo):=aB Oo;refine .inr ⟨⟨xs,ys,_,_,s2 _ _ h1,s2 _ _ h2,hx,hy'⟩,bJ (m:=100000) Oo yd,λv H3 y=>?_⟩;obtain ⟨q,x,y,rfl,hq,rfl,hh⟩:=y;obtain ⟨g1,g2⟩:=hh xs ys (s2 _ _ h1) (s2 _ _ h2);have s3:=aQ.upd (o:=.tup [x,y]) hq;have e3:(upd H2 q (.tup [x,y])) q=some (.tup [x,y]):=bK;generalize upd H2 q (.tup [x,y])=H3 at s3 e3;refine ⟨q,[x,y],rfl,gK.of e3,rfl,λb H4=>b=true/\H4=H3,⟨rfl,rfl⟩,?_⟩;rintro b H4 ⟨rfl,rfl⟩;rw [if_pos rfl];refine ⟨λz H5=>aQ H4 H5/\R i z H5,hs i x y H4 _ g1 g2 (s2.trans s3) λz H6 s6 r=>⟨s6,r⟩,?_⟩;rintro z H5 ⟨s5,r⟩;have e5:=s5 _ _ (s3 _ _ hD2);have t6:cQ H5 (upd H5 D (.lst (zs++[z]))):=aN.t aN.self e5;refine ⟨e5,xs.length-(i+1),Oo,rfl,hlt,by rw [bC,hy];rfl,bK,aQ.thru hD ((s2.trans s3).trans s5) aN.self,?_⟩;exact pC (R:=λj z=>R j z _) (λj w hj=>hR j w _ _ ((s3.trans s5).t.trans t6) (hr j w hj)) (by rw [hy];exact hR i z _ _ t6 r)
 ·have e:i=xs.length:=Oo;subst e;exact .inl ⟨⟨xs,ys,s2 _ _ h1,s2 _ _ h2,.inl (aF _)⟩,hd D zs H2 hD hD2 s2 hy hr⟩
end
theorem Paired.toRepL{H:Hp}{α:Type}{g:α->PyData}:∀{as:List α}{xs:List V},Paired (λa x=>cB H (g a) x) as xs->bF H (as.map g) xs
 | _,_,.nil=>bF.nil
 | _,_,.cons h t=>bF.cons h (Paired.toRepL t)
section
variable{X:Cx}{scope:Scope}{x1 x2 x3 y:Str}{N':List Str}{js:List Nat}{elt iter tg:Expr}{ifs:List Expr}{py pos spos:Pos}{tc:TT}{te:TE}{wi wj:TI}{i:Nat}
def iOr(wi wj:TI):TI:=λσ H R=>wi σ H R\/wj σ H R
theorem QH(h1:CP X tg iter wi)(h2:CP X tg iter wj):CP X tg iter (iOr wi wj):=⟨λpins s σ H R I h=>h.elim (h1.p pins s σ H R I) (h2.p pins s σ H R I)⟩
end
end L2
namespace L2
open PySem PySem.Spec PyProof.Rows
section
variable{X:Cx}
end
section
variable{X:Cx}
end
end L2
namespace L2
open PySem PySem.Spec PySem.W PyProof.Rows HT
end L2
namespace L2
open PySem PySem.Spec PyProof.Rows
section
variable{prog:Program}{w:World}{A:Around}{E:Value->Shared->Prop}{s:Shared}
end
end L2
namespace Mf
section
variable(F:Nat)(G:List Int->Int)
end
section
variable{F:Nat}{G:List Int->Int}{ks:List (List Int)}
end
end Mf
namespace Mf
section
variable{F:Nat}{G:List Int->Int}{ks:List (List Int)}
end
end Mf
namespace L2
open PySem PySem.W PySem.Spec PySem.Calls PyProof.Rows
section
variable{X:Cx}
end
end L2
namespace Mf
def rv(f:Fr):Rat:=(f.1:Rat)/(f.2:Rat)
theorem xS{d:Int}(h:0<d):(0:Rat)<(d:Rat):=by exact_mod_cast h
theorem iX{d:Int}(h:0<d):(d:Rat)≠0:=by have:=xS h;grind
theorem pE{f:Fr}(h:0<f.2):rv f*(f.2:Rat)=(f.1:Rat):=by
 have:=iX h;unfold rv;grind
theorem sC{n d:Int}(h:0<d):rv (lw n d)=(n:Rat)/(d:Rat):=by
 have e:=iW (n:=n) (d:=d);have p:=(fM (n:=n) h).pos;have h1:=iX h;have h2:=iX p;have e':((lw n d).1:Rat)*(d:Rat)=(n:Rat)*((lw n d).2:Rat):=by exact_mod_cast e
 unfold rv;generalize ((lw n d).1:Rat)=a at *;generalize ((lw n d).2:Rat)=b at *;grind
theorem tQ{f g:Fr}(hf:0<f.2)(hg:0<g.2):rv (lK f g)=rv f+rv g:=by
 unfold lK;rw [sC (Int.mul_pos hf hg)];have h1:=iX hf;have h2:=iX hg;unfold rv;rw [Rat.intCast_add,Rat.intCast_mul,Rat.intCast_mul,Rat.intCast_mul];grind
theorem lV{f g:Fr}(hf:0<f.2)(hg:0<g.2):rv (lX f g)=rv f*rv g:=by
 unfold lX;rw [sC (Int.mul_pos hf hg)];have h1:=iX hf;have h2:=iX hg;unfold rv;rw [Rat.intCast_mul,Rat.intCast_mul];grind
theorem TF(f:Fr):rv (-f.1,f.2)=- rv f:=by
 unfold rv;rw [show (((-f.1,f.2):Fr).1:Rat)=-(f.1:Rat) by rw [<-Rat.intCast_neg]];grind
theorem fS{f g:Fr}(hf:cT f)(hg:cT g)(e:rv f=rv g):f=g:=by
 have h1:=iX hf.pos;have h2:=iX hg.pos;have e':(f.1:Rat)*(g.2:Rat)=(g.1:Rat)*(f.2:Rat):=by
  have a:=pE hf.pos;have b:=pE hg.pos;rw [<-a,<-b,e];grind
 have q:=zR hf hg (by exact_mod_cast e');exact Prod.ext q.1 q.2
theorem JL{f g:Fr}(hf:0<f.2)(hg:0<g.2):f.1*g.2<g.1*f.2↔rv f<rv g:=by
 have h1:=xS hf;have h2:=xS hg;have a:=pE hf;have b:=pE hg;have p:(0:Rat)<(f.2:Rat)*(g.2:Rat):=Rat.mul_pos h1 h2;have c1:((f.1*g.2:Int):Rat)=rv f*((f.2:Rat)*(g.2:Rat)):=by rw [Rat.intCast_mul,<-a];grind
 have c2:((g.1*f.2:Int):Rat)=rv g*((f.2:Rat)*(g.2:Rat)):=by rw [Rat.intCast_mul,<-b];grind
 rw [<-Rat.intCast_lt_intCast,c1,c2];constructor
 ·intro h;exact Rat.lt_of_mul_lt_mul_right h (Rat.le_of_lt p)
 ·intro h;exact Rat.mul_lt_mul_of_pos_right h p
theorem lU:rv (0,1)=0:=by unfold rv;grind
theorem tP:rv (1,1)=1:=by unfold rv;grind
def mR(l:List Rat):Rat:=l.foldr (· + ·) 0
theorem oV:mR []=0:=rfl
theorem kS(x:Rat)(l:List Rat):mR (x::l)=x+mR l:=rfl
theorem oW:∀(a b:List Rat),mR (a++b)=mR a+mR b
 | [],b=>by rw [oV,List.nil_append];grind
 | x::a,b=>by rw [List.cons_append,kS,kS,oW a b];grind
theorem JI(l:List Fr):(∀f∈l,cT f)->rv (oC l)=mR (l.map rv):=by
 induction l using jI with
 | h0=>intro _;exact lU
 | hs l a ih =>
  intro h;have hl:∀f∈l,cT f:=λf hf=>h f (bZ _ hf);rw [kR,tQ (yN l hl).pos (h a (by simp)).pos,ih hl,bN,oW,bI,List.map_nil,kS,oV];grind
def Fn(N B:Nat)(f:Fr):Prop:=cT f/\∃x:Int,rv f*(N:Rat)=(x:Rat)/\x.natAbs<=B*N
theorem Fn.low{N B:Nat}{f:Fr}(h:Fn N B f):cT f:=h.1
theorem Fn.le{N B C:Nat}{f:Fr}(h:Fn N B f)(hB:B<=C):Fn N C f:=by
 obtain ⟨l,x,h1,h2⟩:=h;exact ⟨l,x,h1,aZ h2 (cC _ hB)⟩
theorem qF{f g:Fr}(h:cT f)(h':cT g):cT (lK f g):=fM (Int.mul_pos h.pos h'.pos)
theorem Fn.add{N B C:Nat}{f g:Fr}(h:Fn N B f)(h':Fn N C g):Fn N (B+C) (lK f g):=by
 obtain ⟨l,x,h1,h2⟩:=h;obtain ⟨l',y,h3,h4⟩:=h';refine ⟨qF l l',x+y,?_,?_⟩
 ·rw [tQ l.pos l'.pos,Rat.intCast_add,<-h1,<-h3];grind
 ·rw [Nat.add_mul];omega
theorem Fn.up{N B:Nat}{f:Fr}(h:Fn N B f)(M:Nat):Fn (N*M) B f:=by
 obtain ⟨l,x,h1,h2⟩:=h;refine ⟨l,x*(M:Int),?_,?_⟩
 ·rw [Rat.intCast_mul,<-h1,Rat.natCast_mul];have:((M:Int):Rat)=(M:Rat):=rfl;rw [this];grind
 ·rw [fU,<-Nat.mul_assoc];exact cC _ h2
theorem Fn.dvd{N M B:Nat}{f:Fr}(h:Fn N B f)(d:N ∣ M):Fn M B f:=by
 obtain ⟨e,rfl⟩:=d;exact h.up e
theorem nD(N:Nat):((N:Int):Rat)=(N:Rat):=rfl
theorem KN:cT (0,1):=⟨yd,yd⟩
theorem GM:cT (1,1):=⟨yd,yd⟩
theorem Fn.zero(N:Nat):Fn N 0 (0,1):=⟨KN,0,by rw [lU];grind,by simp⟩
theorem Fn.one(N:Nat):Fn N 1 (1,1):=⟨GM,N,by rw [tP,nD];grind,by simp⟩
theorem Fn.eq{N B:Nat}{f:Fr}(h:Fn N B f)(hN:0<N):∃x:Int,f=lw x (N:Int)/\x.natAbs<=B*N:=by
 obtain ⟨l,x,h1,h2⟩:=h;have hp:(0:Int)<(N:Int):=Oo;refine ⟨x,fS l (fM hp) ?_,h2⟩;rw [sC hp,<-h1,nD];have:=iX hp;rw [nD] at this;grind
theorem Fn.of{n d:Int}{B:Nat}(h:0<d)(hB:n.natAbs<=B*d.natAbs):Fn d.natAbs B (lw n d):=by
 refine ⟨fM h,n,?_,hB⟩;have e:(d.natAbs:Int)=d:=Oo;rw [sC h,<-nD,e];have:=iX h;grind
theorem Fn.num{N B:Nat}{f:Fr}(h:Fn N B f)(hN:0<N):f.1.natAbs<=B*N/\f.2.natAbs<=N:=by
 obtain ⟨x,rfl,h2⟩:=h.eq hN;have q:=EB (n:=x) (d:=(N:Int)) Oo;have p:=(fM (n:=x) (d:=(N:Int)) Oo).pos;omega
theorem Fn.tot{N B:Nat}:∀(fs:List Fr),(∀f∈fs,Fn N B f)->Fn N (fs.length*B) (oC fs):=by
 intro fs
 induction fs using jI with
 | h0=>intro _;exact (Fn.zero N).le (cM _)
 | hs l a ih =>
  intro h;rw [kR,bC,List.length_singleton,Nat.add_mul,Nat.one_mul];exact (ih λf hf=>h f (bZ _ hf)).add (h a (bH _ (bR.mpr rfl)))
end Mf
namespace Mf
def eZ(n:Nat)(f:Nat->Rat):Rat:=mR ((List.range n).map f)
theorem fD(f:Nat->Rat):eZ 0 f=0:=rfl
theorem dJ(n:Nat)(f:Nat->Rat):eZ (n+1) f=eZ n f+f n:=by
 unfold eZ;rw [List.range_succ,bN,oW,bI,List.map_nil,kS,oV];grind
theorem fQ{n:Nat}{f g:Nat->Rat}(h:∀i,i<n->f i=g i):eZ n f=eZ n g:=by
 induction n with
 | zero=>rfl
 | succ n ih=>rw [dJ,dJ,ih λi hi=>h i Oo,h n Oo]
theorem IY(n:Nat)(f g:Nat->Rat):eZ n (λi=>f i+g i)=eZ n f+eZ n g:=by
 induction n with
 | zero=>rw [fD,fD,fD];grind
 | succ n ih=>rw [dJ,dJ,dJ,ih];grind
theorem mQ(n:Nat)(a:Rat)(f:Nat->Rat):eZ n (λi=>a*f i)=a*eZ n f:=by
 induction n with
 | zero=>rw [fD,fD];grind
 | succ n ih=>rw [dJ,dJ,ih];grind
theorem vC{n:Nat}{f g:Nat->Rat}(h:∀i,i<n->f i<=g i):eZ n f<=eZ n g:=by
 induction n with
 | zero=>rw [fD,fD];exact Rat.le_refl
 | succ n ih =>
  have h1:=ih λi hi=>h i Oo;have h2:=h n Oo;rw [dJ,dJ];grind
theorem oU(n:Nat):eZ n (λ_=>0)=0:=by
 induction n with
 | zero=>rfl
 | succ n ih=>rw [dJ,ih];grind
theorem DI{n:Nat}{f:Nat->Rat}(h:∀i,i<n->0<=f i):0<=eZ n f:=by
 have:=vC (n:=n) (f:=λ_=>0) (g:=f) h
 rwa [oU] at this
theorem yO{n:Nat}(f:Nat->Rat){w:Nat}(h:w<n):eZ n f-f w=eZ n (λi=>if i=w then 0 else f i):=by
 induction n with
 | zero=>omega
 | succ n ih =>
  rw [dJ,dJ];by_cases e:w=n
  ·subst e;rw [if_pos rfl,fQ (g:=f) λi hi=>if_neg Oo];grind
  ·rw [if_neg (λq=>e q.symm),<-ih Oo];grind
def bS(c:List Nat)(i:Nat):List Nat:=c.set i (c.getD i 0+1)
section
variable{W F:Nat}{q:Nat->List Nat->Rat}{mix ps ps' cs:Nat->Rat}
end
end Mf
namespace Mf
def Qn(N B:Nat)(x:Rat):Prop:=∃z:Int,x*(N:Rat)=(z:Rat)/\z.natAbs<=B*N
theorem Fn.q{N B:Nat}{f:Fr}(h:Fn N B f):Qn N B (rv f):=h.2
theorem Qn.f{N B:Nat}{f:Fr}(l:cT f)(h:Qn N B (rv f)):Fn N B f:=⟨l,h⟩
def cG(x:Rat):Fr:=(x.num,(x.den:Int))
theorem aY(x:Rat):cT (cG x):=by
 refine ⟨?_,?_⟩
 ·show (0:Int)<(x.den:Int);have:=x.den_pos;omega
 ·show Int.gcd x.num (x.den:Int)=1;rw [Int.gcd_eq_natAbs_gcd_natAbs,Int.natAbs_natCast];exact x.reduced
theorem cP(x:Rat):rv (cG x)=x:=by
 unfold rv cG;show (x.num:Rat)/((x.den:Int):Rat)=x;rw [<-Rat.divInt_eq_div,Rat.num_divInt_den]
theorem Qn.fq{N B:Nat}{x:Rat}(h:Qn N B x):Fn N B (cG x):=⟨aY x,by rw [cP];exact h⟩
theorem Qn.le{N B C:Nat}{x:Rat}(h:Qn N B x)(hB:B<=C):Qn N C x:=by
 obtain ⟨z,h1,h2⟩:=h;exact ⟨z,h1,aZ h2 (cC _ hB)⟩
theorem Qn.add{N B C:Nat}{x y:Rat}(h:Qn N B x)(h':Qn N C y):Qn N (B+C) (x+y):=by
 obtain ⟨z,h1,h2⟩:=h;obtain ⟨u,h3,h4⟩:=h';refine ⟨z+u,?_,?_⟩
 ·rw [Rat.intCast_add,<-h1,<-h3];grind
 ·rw [Nat.add_mul];omega
theorem Qn.neg{N B:Nat}{x:Rat}(h:Qn N B x):Qn N B (-x):=by
 obtain ⟨z,h1,h2⟩:=h;refine ⟨-z,?_,by rw [Int.natAbs_neg];exact h2⟩;rw [Rat.intCast_neg,<-h1];grind
theorem Qn.sub{N B C:Nat}{x y:Rat}(h:Qn N B x)(h':Qn N C y):Qn N (B+C) (x-y):=by
 have:=h.add h'.neg
 rwa [<-Rat.sub_eq_add_neg] at this
theorem Qn.mul{N M B C:Nat}{x y:Rat}(h:Qn N B x)(h':Qn M C y):Qn (N*M) (B*C) (x*y):=by
 obtain ⟨z,h1,h2⟩:=h;obtain ⟨u,h3,h4⟩:=h';refine ⟨z*u,?_,?_⟩
 ·rw [Rat.intCast_mul,<-h1,<-h3,Rat.natCast_mul];grind
 ·rw [fU];have:=Nat.mul_le_mul h2 h4;rw [Nat.mul_mul_mul_comm] at this;exact this
theorem Qn.dvd{N M B:Nat}{x:Rat}(h:Qn N B x)(d:N ∣ M):Qn M B x:=by
 obtain ⟨e,rfl⟩:=d;obtain ⟨z,h1,h2⟩:=h;refine ⟨z*(e:Int),?_,?_⟩
 ·rw [Rat.intCast_mul,<-h1,Rat.natCast_mul,nD];grind
 ·rw [fU,<-Nat.mul_assoc];exact cC _ h2
theorem Qn.zero(N B:Nat):Qn N B 0:=⟨0,by grind,by simp⟩
theorem Qn.sumR{N B:Nat}{f:Nat->Rat}:∀{n:Nat},(∀i,i<n->Qn N B (f i))->Qn N (n*B) (eZ n f)
 | 0,_=>by rw [fD];exact Qn.zero _ _
 | n+1,h=>by
  rw [dJ,Nat.add_mul,Nat.one_mul];exact (Qn.sumR λi hi=>h i Oo).add (h n Oo)
theorem JJ{f:Fr}(h:cT f)(n:Nat):rv (qT f n)=rv f^n:=by
 have hp:=iX h.pos
 induction n with
 | zero=>unfold qT rv;grind
 | succ n ih =>
  have e:rv (qT f (n+1))=rv (qT f n)*rv f:=by
   have h1:=iX (jW h n).pos;unfold qT rv at *;simp only [Int.pow_succ,Rat.intCast_mul] at *;generalize ((f.1^n:Int):Rat)=u at *;generalize ((f.2^n:Int):Rat)=v at *;grind
  rw [e,ih,Rat.pow_succ]
theorem Qn.pow{N:Nat}{x:Rat}(h:Qn N 1 x):∀n:Nat,Qn (N^n) 1 (x^n)
 | 0=>⟨1,by rw [Rat.pow_zero,Nat.pow_zero];grind,by simp⟩
 | n+1=>by
  rw [Rat.pow_succ,Nat.pow_succ];exact (Qn.pow h n).mul h
theorem RU{N:Nat}(l:List (Fr × Nat)):(∀z∈l,Fn N 1 z.1)->Qn (N^(l.map (·.2)).sum) 1 (rv (nS l)):=by
 induction l using jI with
 | h0=>intro _;exact ⟨1,by show rv (1,1)*_=_;rw [tP];simp,by simp⟩
 | hs l a ih =>
  intro h;have hl:∀z∈l,Fn N 1 z.1:=λz hz=>h z (bZ _ hz);have ha:=h a (by simp);rw [qI,lV (oQ l λz hz=>(hl z hz).low).pos (jW ha.low a.2).pos,JJ ha.low,bN,List.sum_append,Nat.pow_add];have:=(ih hl).mul (ha.q.pow a.2);simpa using this
theorem JK{f:Fr}(h:cT f)(h0:0<=f.1):0<=rv f:=by
 have h1:=xS h.pos;have e:=pE h.pos;have h2:(0:Rat)<=(f.1:Rat):=by exact_mod_cast h0
 have:rv f=(f.1:Rat)*(f.2:Rat)⁻¹:=by unfold rv;exact Rat.div_def _ _
 rw [this];exact fC h2 (Rat.le_of_lt (Rat.inv_pos.mpr h1))
theorem RV(l:List (Fr × Nat)):(∀z∈l,cT z.1/\0<=z.1.1)->0<=rv (nS l):=by
 intro h;have hl:∀z∈l,cT z.1:=λz hz=>(h z hz).1;refine JK (oQ l hl) ?_;rw [wO l hl];have h1:=yH l λz hz=>(h z hz).2;exact Int.ediv_nonneg h1 (Int.natCast_nonneg _)
theorem FE{α:Type}(l:List α)(m:List Nat):((l.zip m).map (·.2)).sum<=m.sum:=by
 induction l generalizing m with
 | nil=>simp
 | cons a l ih =>
  cases m with
  | nil=>simp
  | cons b m =>
   have:=ih m;simp only [List.zip_cons_cons,bI,List.sum_cons];omega
def wq(fs:List Fr)(c:List Nat):Rat:=rv (nS (fs.zip c))
theorem II{N M:Nat}{fs:List Fr}{c:List Nat}(h:∀f∈fs,Fn N 1 f)(hc:c.sum<=M):Qn (N^M) 1 (wq fs c):=by
 have h1:=RU (fs.zip c) (λz hz=>h z.1 (List.of_mem_zip (a:=z.1) (b:=z.2) hz).1);have h2:=FE fs c;exact h1.dvd (Nat.pow_dvd_pow _ Oo)
theorem QG{fs:List Fr}{c:List Nat}(h:∀f∈fs,cT f/\0<=f.1):0<=wq fs c :=
 RV _ λz hz=>h z.1 (List.of_mem_zip (a:=z.1) (b:=z.2) hz).1
def YZ(ss:List (List Fr))(v:Nat)(c:List Nat):Rat:=wq (ss.getD v []) c
def fO(ps:List Fr)(v:Nat):Rat:=rv (ps.getD v (0,1))
theorem rH{α:Type}{l:List α}{j:Nat}{a:α}(h:j<l.length):l.getD j a∈l:=by
 rw [bO,aB h];exact List.getElem_mem h
section
variable{F W M:Nat}{ss:List (List Fr)}{mix ps cs:List Fr}{Ns Nm Np Nc B:Nat}
theorem kA{c:List Nat}{j:Nat}(h:j<c.length):(bS c j).sum=c.sum+1:=by
 unfold bS;have h1:c[j]?=some (c.getD j 0):=by rw [bO,aB h];rfl
 have:=jH c j (c.getD j 0+1) _ h1;omega
theorem LO(c:List Nat)(j:Nat):(bS c j).length=c.length:=by unfold bS;rw [List.length_set]
end
def rise(F M:Nat):List (List Nat):=(List.range (M+1)).flatMap (cta F)
theorem sU:∀{F m:Nat}{c:List Nat},1<=F->c.length=F->c.sum=m->c∈cta F m
 | 0,m,c,h,_,_=>Oo
 | 1,m,c,_,hl,hs=>by
  obtain ⟨x,rfl⟩:∃x,c=[x]:=by
   match c,hl with
   | [x],_=>exact ⟨x,rfl⟩
  have:x=m:=by simpa using hs
  subst this;simp [cta]
 | F+2,m,c,_,hl,hs=>by
  cases c with
  | nil=>simp at hl
  | cons x c =>
   rw [List.sum_cons] at hs;unfold cta;refine List.mem_flatMap.mpr ⟨x,cU.mpr Oo,aP.mpr ⟨c,sU Oo (by simpa using hl) Oo,rfl⟩⟩
theorem KK{F M:Nat}{c:List Nat}(hF:1<=F):c∈rise F M↔c.length=F/\c.sum<=M:=by
 unfold rise;rw [List.mem_flatMap];constructor
 ·rintro ⟨m,hm,hc⟩;have:=cU.mp hm;obtain ⟨h1,h2⟩:=fT hc;exact ⟨h1,Oo⟩
 ·rintro ⟨h1,h2⟩;exact ⟨c.sum,cU.mpr Oo,sU hF h1 rfl⟩
theorem sD(F:Nat):∀M:Nat,(rise F M).Pairwise λa b=>a.sum<=b.sum
 | 0=>by
  unfold rise;rw [List.range_succ,List.range_zero,List.nil_append,List.flatMap_singleton];refine List.pairwise_iff_forall_sublist.mpr λ{a b} h=>?_;have ha:a∈cta F 0:=h.subset (by simp);have:=(fT ha).2;omega
 | M+1=>by
  have ih:=sD F M;unfold rise at *;rw [List.range_succ,List.flatMap_append,List.flatMap_singleton];refine List.pairwise_append.mpr ⟨ih,?_,λa ha b hb=>?_⟩
  ·refine List.pairwise_iff_forall_sublist.mpr λ{a b} h=>?_;have ha:a∈cta F (M+1):=h.subset (by simp);have hb:b∈cta F (M+1):=h.subset (by simp);have h1:=(fT ha).2;have h2:=(fT hb).2;omega
  ·obtain ⟨m,hm,ha⟩:=List.mem_flatMap.mp ha;have:=cU.mp hm;have h1:=(fT ha).2;have h2:=(fT hb).2;omega
end Mf
namespace Mf
theorem AK:∀F:Nat,1<=F->cta F 0=[List.replicate F 0]
 | 1,_=>rfl
 | F+2,_=>by
  unfold cta;rw [List.range_succ,List.range_zero,List.nil_append,List.flatMap_singleton,Nat.sub_zero,AK (F+1) Oo]
  rfl
theorem LD{F m:Nat}(hF:1<=F){d:List Nat}:d∈cta F (m+1) ↔ ∃c∈cta F m,∃j,j<F/\d=bS c j:=by
 constructor
 ·intro h;obtain ⟨h1,h2⟩:=fT h;obtain ⟨j,hj,hp⟩:∃j,j<d.length/\0<d.getD j 0:=by
   refine bU λq=>?_;have z:d=List.replicate d.length 0:=by
    refine List.eq_replicate_iff.mpr ⟨rfl,λx hx=>?_⟩;obtain ⟨j,hj⟩:=cI.mp hx;have hl:=(aH.mp hj).1;have:d.getD j 0=x:=by rw [bO,hj];rfl
    refine bU λhx0=>q ⟨j,hl,Oo⟩
   have:d.sum=0:=by rw [z];simp
   omega
  have e1:d[j]?=some (d.getD j 0):=by rw [bO,aB hj];rfl
  have s1:=jH d j (d.getD j 0-1) _ e1;refine ⟨d.set j (d.getD j 0-1),sU hF (by rw [List.length_set];exact h1) Oo,j,Oo,?_⟩;unfold bS;rw [bO (l:=d.set j _),List.getElem?_set_self hj,List.set_set];show d=d.set j (d.getD j 0-1+1);rw [show d.getD j 0-1+1=d.getD j 0 by omega];refine (List.ext_getElem? λi=>?_);rw [List.getElem?_set];by_cases e:j=i
  ·subst e;rw [if_pos rfl,if_pos hj];exact e1
  ·rw [if_neg e]
 ·rintro ⟨c,hc,j,hj,rfl⟩;obtain ⟨h1,h2⟩:=fT hc;exact sU hF (by rw [LO];exact h1) (by rw [kA Oo];omega)
theorem DP:∀F,F<=4->∀M,M<=5->(rise F M).Nodup:=Kk
end Mf
namespace Mf
abbrev cJ:=List Nat × List Fr
def s0(e:cJ):Rat:=fO e.2 0
def jX(F:Nat)(c d:List Nat):Rat:=eZ F λf=>if bS c f=d then 1 else 0
def bV(F:Nat)(es:List cJ):List Nat->Rat:=es.foldl (λg e=>λd=>g d+g e.1*s0 e*jX F e.1 d) (λd=>if d=List.replicate F 0 then 1 else 0)
theorem jM(F:Nat)(d:List Nat):bV F [] d=if d=List.replicate F 0 then 1 else 0:=rfl
theorem gH(F:Nat)(l:List cJ)(e:cJ)(d:List Nat):bV F (l++[e]) d=bV F l d+bV F l e.1*s0 e*jX F e.1 d:=by unfold bV;rw [List.foldl_append];rfl
def dH{α:Type}(l:List α)(f:α->Rat):Rat:=mR (l.map f)
theorem eK{α:Type}(f:α->Rat):dH [] f=0:=rfl
theorem cD{α:Type}(a:α)(l:List α)(f:α->Rat):dH (a::l) f=f a+dH l f:=rfl
theorem yQ{α:Type}(a b:List α)(f:α->Rat):dH (a++b) f=dH a f+dH b f:=by unfold dH;rw [bN,oW]
theorem nK{α:Type}(l:List α)(a:α)(f:α->Rat):dH (l++[a]) f=dH l f+f a:=by rw [yQ,cD,eK];grind
theorem fR{α:Type}{l:List α}{f g:α->Rat}(h:∀a∈l,f a=g a):dH l f=dH l g:=by unfold dH;rw [cZ h]
theorem IZ{α:Type}(l:List α)(f g:α->Rat):dH l (λa=>f a+g a)=dH l f+dH l g:=by
 induction l with
 | nil=>rw [eK,eK,eK];grind
 | cons a l ih=>rw [cD,cD,cD,ih];grind
theorem yP{α:Type}(l:List α)(x:Rat)(f:α->Rat):dH l (λa=>x*f a)=x*dH l f:=by
 induction l with
 | nil=>rw [eK,eK];grind
 | cons a l ih=>rw [cD,cD,ih];grind
theorem qJ{α:Type}(l:List α):dH l (λ_=>0)=0:=by
 induction l with
 | nil=>rfl
 | cons a l ih=>rw [cD,ih];grind
theorem FS{α:Type}{l:List α}{f g:α->Rat}(h:∀a∈l,f a<=g a):dH l f<=dH l g:=by
 induction l with
 | nil=>exact Rat.le_refl
 | cons a l ih =>
  have h1:=h a (aO ..);have h2:=ih λx hx=>h x (aK _ hx);rw [cD,cD];grind
theorem sP{α:Type}{l:List α}{f:α->Rat}(h:∀a∈l,0<=f a):0<=dH l f:=by
 have:=FS (l:=l) (f:=λ_=>0) (g:=f) h
 rwa [qJ] at this
theorem FR{α:Type}(l:List α)(n:Nat)(f:α->Nat->Rat):dH l (λa=>eZ n (f a))=eZ n λi=>dH l λa=>f a i:=by
 induction l with
 | nil=>show 0=eZ n (λ_=>0);rw [oU]
 | cons a l ih =>
  rw [cD,ih,<-IY];exact fQ λi _=>rfl
theorem qK{es:List cJ}(nd:(es.map (·.1)).Nodup){b:List Nat}(hb:b∈es.map (·.1))(Φ:List Nat->Rat):dH es (λx=>(if b=x.1 then 1 else 0)*Φ x.1)=Φ b:=by
 induction es with
 | nil=>cases hb
 | cons a es ih =>
  rw [bI,List.nodup_cons] at nd;rw [cD];by_cases e:b=a.1
  ·rw [if_pos e,e,fR (g:=λ_=>0) λx hx=>?_,qJ]
   ·grind
   ·rw [if_neg λq=>nd.1 (by rw [q];exact aP.mpr ⟨x,hx,rfl⟩)];grind
  ·rw [if_neg e,ih nd.2 (by rw [bI] at hb;exact (bE.mp hb).resolve_left e)];grind
structure uL(F:Nat)(es:List cJ):Prop where
 root:∃e r,es=e::r/\e.1=List.replicate F 0
 len:∀e∈es,e.1.length=F
 nd:(es.map (·.1)).Nodup
 srt:es.Pairwise λa b=>a.1.sum<=b.1.sum
 fwd:∀e∈es,s0 e≠0->∀f,f<F->bS e.1 f∈es.map (·.1)
 bwd:∀d∈es.map (·.1),d≠List.replicate F 0->∃e∈es,s0 e≠0/\∃f,f<F/\bS e.1 f=d
 nn:∀e∈es,0<=s0 e
section
variable{F:Nat}{es:List cJ}
theorem pO{c d:List Nat}(hc:c.length=F)(h:d.sum≠c.sum+1):jX F c d=0:=by
 unfold jX;rw [fQ (g:=λ_=>0) λf hf=>if_neg λq=>h ?_,oU];rw [<-q,kA Oo]
theorem uL.at(R:uL F es){i:Nat}{e:cJ}(h:es[i]?=some e):bV F (es.take i) e.1=bV F es e.1:=by
 have key:∀k,i+k<=es.length->bV F (es.take (i+k)) e.1=bV F (es.take i) e.1:=by
  intro k
  induction k with
  | zero=>intro _;rfl
  | succ k ih =>
   intro hk;obtain ⟨x,hx⟩:∃x,es[i+k]?=some x:=⟨_,aB Oo⟩;have et:es.take (i+k+1)=es.take (i+k)++[x]:=by rw [fY,hx];rfl
   rw [<-Nat.add_assoc,et,gH,ih Oo,pO (R.len x (aM hx)) ?_]
   ·grind
   ·obtain ⟨l1,e1⟩:=aH.mp h;obtain ⟨l2,e2⟩:=aH.mp hx;have:e.1.sum<=x.1.sum:=by
     by_cases q:k=0
     ·subst q;have:e=x:=by rw [<-e1,<-e2];rfl
      rw [this];exact aF _
     ·have:=(List.pairwise_iff_getElem.mp R.srt) i (i+k) l1 l2 Oo
      rwa [e1,e2] at this
    omega
 have hi:=(aH.mp h).1;have:=key (es.length-i) Oo;rw [show i+(es.length-i)=es.length by omega,bG] at this;exact this.symm
theorem uL.cons(R:uL F es)(Φ:List Nat->Rat):∀n,n<=es.length->dH es (λx=>bV F (es.take n) x.1*Φ x.1)=Φ (List.replicate F 0)+dH (es.take n) λe=>bV F es e.1*s0 e*eZ F λf=>Φ (bS e.1 f):=by
 intro n
 induction n with
 | zero =>
  intro _;rw [List.take_zero,eK];obtain ⟨e,r,he,hz⟩:=R.root;have:=qK R.nd (b:=List.replicate F 0) (by rw [he,<-hz];exact aO ..) Φ;rw [fR (g:=λx=>(if List.replicate F 0=x.1 then 1 else 0)*Φ x.1) λx _=>?_,this]
  ·grind
  ·rw [jM];by_cases q:x.1=List.replicate F 0
   ·rw [if_pos q,if_pos q.symm]
   ·rw [if_neg q,if_neg λz=>q z.symm]
 | succ n ih =>
  intro hn;obtain ⟨e,he⟩:∃x,es[n]?=some x:=⟨_,aB Oo⟩;have et:es.take (n+1)=es.take n++[e]:=by rw [fY,he];rfl
  have hm:=aM he;rw [et,nK,<-Rat.add_assoc,<-ih Oo];rw [fR (g:=λx=>bV F (es.take n) x.1*Φ x.1+bV F es e.1*s0 e*(jX F e.1 x.1*Φ x.1)) λx _=>by rw [gH,R.at he];grind];rw [IZ,yP];by_cases z:s0 e=0
  ·rw [z];grind
  ·congr 2;have:(λx:cJ=>jX F e.1 x.1*Φ x.1)=λx=>eZ F λf=>(if bS e.1 f=x.1 then 1 else 0)*Φ x.1:=by
    funext x
    unfold jX;rw [Rat.mul_comm,<-mQ];exact fQ λi _=>Rat.mul_comm _ _
   rw [this,FR];exact fQ λf hf=>qK R.nd (R.fwd e hm z f hf) Φ
theorem uL.all(R:uL F es)(Φ:List Nat->Rat):dH es (λx=>bV F es x.1*Φ x.1)=Φ (List.replicate F 0)+dH es λe=>bV F es e.1*s0 e*eZ F λf=>Φ (bS e.1 f):=by
 have:=R.cons Φ es.length (aF _)
 rwa [bG] at this
theorem KR(F:Nat)(c d:List Nat):0<=jX F c d:=DI λf _=>by split <;> grind
theorem uL.fnn(R:uL F es):∀n,n<=es.length->∀d,0<=bV F (es.take n) d:=by
 intro n
 induction n with
 | zero=>intro _ d;rw [List.take_zero,jM];split <;> grind
 | succ n ih =>
  intro hn d;obtain ⟨e,he⟩:∃x,es[n]?=some x:=⟨_,aB Oo⟩;have et:es.take (n+1)=es.take n++[e]:=by rw [fY,he];rfl
  rw [et,gH];have h1:=ih Oo d;have h2:=ih Oo e.1;have h3:=fC (fC h2 (R.nn e (aM he))) (KR F e.1 d);grind
theorem uL.nnf(R:uL F es)(d:List Nat):0<=bV F es d:=by
 have:=R.fnn es.length (aF _) d
 rwa [bG] at this
theorem uL.pos(R:uL F es):∀(k:Nat) (d:List Nat),d∈es.map (·.1)->d.sum<=k->0<bV F es d:=by
 have eqd:∀d∈es.map (·.1),bV F es d=(if d=List.replicate F 0 then 1 else 0)+dH es λe=>bV F es e.1*s0 e*jX F e.1 d:=λd hd=>by
  have h:=R.all λx=>if d=x then 1 else 0
  have h1:=qK R.nd hd (bV F es);have e1:dH es (λx=>bV F es x.1*(if d=x.1 then 1 else 0))=bV F es d:=by rw [<-h1];exact fR λx _=>Rat.mul_comm _ _
  rw [<-e1,h];congr 1;exact fR λe _=>by
   congr 1;unfold jX;exact fQ λf _=>by
    by_cases q:d=bS e.1 f
    ·rw [if_pos q,if_pos q.symm]
    ·rw [if_neg q,if_neg λz=>q z.symm]
 have tn:∀d,∀e∈es,0<=bV F es e.1*s0 e*jX F e.1 d:=λd e he=>fC (fC (R.nnf _) (R.nn e he)) (KR F e.1 d);intro k
 induction k with
 | zero =>
  intro d hd hs;have hz:d=List.replicate F 0:=by
   refine bU λq=>?_;obtain ⟨e,he,_,f,hf,rfl⟩:=R.bwd d hd q;rw [kA (by rw [R.len e he];exact hf)] at hs;omega
  rw [eqd d hd,if_pos hz];have:=sP (tn d);grind
 | succ k ih =>
  intro d hd hs;by_cases hz:d=List.replicate F 0
  ·rw [eqd d hd,if_pos hz];have:=sP (tn d);grind
  ·obtain ⟨e,he,h0,f,hf,rfl⟩:=R.bwd d hd hz;have bs:=kA (c:=e.1) (j:=f) (by rw [R.len e he];exact hf);have hA:=ih e.1 (aP.mpr ⟨e,he,rfl⟩) Oo;have hs0:0<s0 e:=by have:=R.nn e he;grind
   have hh:1<=jX F e.1 (bS e.1 f):=by
    unfold jX;have h1:=vC (n:=F) (f:=λi=>if i=f then 1 else 0) (g:=λi=>if bS e.1 i=bS e.1 f then 1 else 0) λi _=>by
     by_cases q:i=f
     ·subst q;rw [if_pos rfl,if_pos rfl];exact Rat.le_refl
     ·rw [if_neg q];split <;> grind
    have h2:=yO (n:=F) (λi=>if i=f then (1:Rat) else 0) hf;have h3:eZ F (λi=>if i=f then 0 else if i=f then (1:Rat) else 0)=0:=by
     rw [fQ (g:=λ_=>0) λi _=>?_,oU];by_cases q:i=f
     ·rw [if_pos q]
     ·rw [if_neg q,if_neg q]
    rw [if_pos rfl,h3] at h2;grind
   have one:0<bV F es e.1*s0 e*jX F e.1 (bS e.1 f):=Rat.mul_pos (Rat.mul_pos hA hs0) (by grind);rw [eqd _ hd,if_neg hz];have:bV F es e.1*s0 e*jX F e.1 (bS e.1 f)<=dH es λe'=>bV F es e'.1*s0 e' * jX F e'.1 (bS e.1 f):=by
    obtain ⟨l1,l2,rfl⟩:=List.append_of_mem he;rw [yQ,cD];have n1:=sP (l:=l1) λx hx=>tn (bS e.1 f) x (bZ _ hx);have n2:=sP (l:=l2) λx hx=>tn (bS e.1 f) x (bH _ (aK _ hx));grind
   grind
theorem uL.posf(R:uL F es){e:cJ}(h:e∈es):0<bV F es e.1:=R.pos _ e.1 (aP.mpr ⟨e,h,rfl⟩) (aF _)
theorem Qn.one'(N:Nat):Qn N 1 1:=⟨N,by rw [nD];grind,by simp⟩
theorem uL.qn(R:uL F es){N:Nat}(hN:∀e∈es,Qn N 1 (s0 e))(f4:F<=4):∀n,n<=es.length->∀d,Qn (N^d.sum) (5^n) (bV F (es.take n) d):=by
 intro n
 induction n with
 | zero =>
  intro _ d;rw [List.take_zero,jM];split
  ·exact Qn.one' _
  ·exact Qn.zero _ _
 | succ n ih =>
  intro hn d;obtain ⟨e,he⟩:∃x,es[n]?=some x:=⟨_,aB Oo⟩;have et:es.take (n+1)=es.take n++[e]:=by rw [fY,he];rfl
  rw [et,gH];have h1:=ih Oo d;have hm:=aM he;have p5:5^(n+1)=5*5^n:=by rw [Nat.pow_succ];omega
  by_cases hs:d.sum=e.1.sum+1
  ·have h2:=(ih Oo e.1).mul (hN e hm);have h3:Qn 1 4 (jX F e.1 d):=by
    have:=Qn.sumR (N:=1) (B:=1) (n:=F) (f:=λf=>if bS e.1 f=d then 1 else 0) λf _=>by
     split
     ·exact Qn.one' _
     ·exact Qn.zero _ _
    exact this.le Oo
   have h4:=h2.mul h3;have h5:N^e.1.sum*N=N^d.sum:=by rw [hs,Nat.pow_succ]
   rw [Nat.mul_one,h5] at h4;exact (h1.add h4).le Oo
  ·rw [pO (R.len e hm) hs];have:bV F (es.take n) d+bV F (es.take n) e.1*s0 e*0=bV F (es.take n) d:=by grind
   rw [this];exact h1.le Oo
end
def mJ(zs:List (Fr × Nat)):Rat:=zs.foldr (λz p=>rv z.1^z.2*p) 1
theorem DL:∀(zs:List (Fr × Nat)) (p:Fr),cT p->(∀z∈zs,cT z.1)->rv (zs.foldl (λp q=>lX p (qT q.1 q.2)) p)=rv p*mJ zs
 | [],p,_,_=>by show rv p=rv p*1;grind
 | z::zs,p,hp,h=>by
  have hz:=h z (aO ..);have hw:=jW hz z.2;rw [List.foldl_cons,DL zs _ (iV hp hw) λy hy=>h y (aK _ hy),lV hp.pos hw.pos,JJ hz];show _=rv p*(rv z.1^z.2*mJ zs);grind
theorem oO{fs:List Fr}(h:∀f∈fs,cT f)(c:List Nat):wq fs c=mJ (fs.zip c):=by
 unfold wq nS;rw [DL _ _ GM λz hz=>h z.1 (List.of_mem_zip (a:=z.1) (b:=z.2) hz).1];show rv (1,1)*_=_;rw [tP];grind
theorem qR:∀(fs:List Fr) (c:List Nat) (j:Nat),j<fs.length->fs.length=c.length->mJ (fs.zip (bS c j))=mJ (fs.zip c)*fO fs j
 | [],c,j,h,_=>by simp at h
 | f::fs,[],j,_,h=>by simp at h
 | f::fs,n::c,0,_,_=>by
  show rv f^(n+1)*mJ (fs.zip c)=(rv f^n*mJ (fs.zip c))*rv f;rw [Rat.pow_succ];grind
 | f::fs,n::c,j+1,hj,hl=>by
  have ih:=qR fs c j (by simpa using hj) (by simpa using hl);have e:bS (n::c) (j+1)=n::bS c j:=by unfold bS;rw [List.set_cons_succ];rfl
  have ev:fO (f::fs) (j+1)=fO fs j:=rfl;rw [e,ev,List.zip_cons_cons,List.zip_cons_cons];show rv f^n*mJ (fs.zip (bS c j))=(rv f^n*mJ (fs.zip c))*fO fs j;rw [ih];grind
theorem vL:∀(fs:List Fr) (n:Nat),mJ (fs.zip (List.replicate n 0))=1
 | [],n=>by rfl
 | f::fs,0=>by rfl
 | f::fs,n+1=>by
  rw [List.replicate_succ,List.zip_cons_cons];show rv f^0*mJ (fs.zip (List.replicate n 0))=1;rw [vL fs n,Rat.pow_zero];grind
theorem DH(fs:List Fr):mR (fs.map rv)=eZ fs.length (fO fs):=by
 unfold eZ;congr 1;refine List.ext_getElem? λi=>?_;rw [aI,aI];by_cases hi:i<fs.length
 ·rw [cR hi,aB hi];show some _=some (fO fs i);unfold fO;rw [bO,aB hi];rfl
 ·rw [dI Oo,dI (by rw [cV];omega)];rfl
theorem RT{fs:List Fr}(h:∀f∈fs,cT f)(h1:mR (fs.map rv)=1){c:List Nat}(hc:c.length=fs.length):wq fs c=eZ fs.length λf=>wq fs (bS c f):=by
 rw [oO h];rw [fQ (g:=λf=>mJ (fs.zip c)*fO fs f) λf hf=>by rw [oO h,qR fs c f hf hc.symm]];rw [mQ,<-DH,h1];grind
theorem CV{fs:List Fr}(h:∀f∈fs,cT f)(n:Nat):wq fs (List.replicate n 0)=1:=by rw [oO h,vL]
section
variable{F W M:Nat}{es:List cJ}{q:Nat->List Nat->Rat}{mix ps cs:Nat->Rat}
def kF(F:Nat)(es:List cJ)(q:List Nat->Rat)(w:Nat):Rat:=dH es λe=>bV F es e.1*q e.1*fO e.2 (1+w)
end
end Mf
namespace Mf
section
variable{F W:Nat}{es:List cJ}{q:Nat->List Nat->Rat}{mix ps cs:Nat->Rat}
end
end Mf
namespace L2
open PySem
section
variable{M:Model}{A:Around}{E:Value->Shared->Prop}{s:Shared}{env:Env}{outer:List Env}{base:Heap}{L a:Addr}{cls:Value}{od:Option Addr}
end
end L2
namespace L2
open PySem PySem.Spec PyProof.Rows
section
variable{P:Program}{w:World}{H H1 H2:Hp}{h h1 h2 base:Heap}{fs fs2 ex:List Addr}{a:Addr}{o:HO}
end
section
variable{P:Program}{w:World}{K:PySem.W.Frag}{mg:Str->Option Value}{base:Heap}{N:List Str}{qual:Str}{scope:Scope}{f:Addr}{cd:Value}{A:Around}{outer:List Env}{s:Shared}{H:Hp}{E:XK}
end
section
variable{X:Cx}{k:Nat}{f C:Addr}{fd:FuncData}{ps:List Str}{sp:Sp}{Ex:St->XK}{x:Str}{p pos np cpos:Pos}{e:Expr}{es:List Expr}{t:TA}
end
section
variable{X:Cx}{C:Addr}{Ex:St->XK}{x:Str}{pos np cpos:Pos}{e:Expr}{es:List Expr}{t:TA}
end
end L2
namespace L2
open PySem PySem.W PySem.Spec PySem.Calls PyProof.Rows
section
variable{prog:Program}{w:World}{A:Around}{E:Value->Shared->Prop}{s:Shared}{K:Frag}{x C:Addr}{ox:Obj}{od:Option Obj}{name:Str}
end
end L2
namespace L2
open PySem PySem.Spec PyProof.Rows
section
variable{X:Cx}{pins:List (Addr × Obj)}{σ:St}{H:Hp}{s:Shared}
end
section
variable{M:Model}{A:Around}{E:Value->Shared->Prop}{K:PySem.W.Frag}{s:Shared}{a C C2:Addr}{ox:Obj}{od:Option Obj}
end
section
variable{X:Cx}{x n:Str}{np hpos pos:Pos}{b₀:Stmt}{body suite:List Stmt}{i:Nat}{C2:Addr}{tb:(St->XK)->TS}{th:TS}
end
end L2
namespace L2
open PySem PySem.W PySem.Spec PySem.Calls PyProof.Rows
section
variable{prog:Program}{w:World}{A:Around}{E:Value->Shared->Prop}{h:Heap}{g:Array GenState}{d:Drawn}{t:Nat}{os:OsState}
variable{nm q:Str}{C N:Addr}{bs bm bmB:List Value}{hdct:Bool}{sn:List Str}{sub:List Value}{ab:Bool}{col:Option Bool}{dd:Option Addr}{k0 k1 k2 k3 k5:Option Value}{B newId initId:String}
end
section
variable{prog:Program}{w:World}{A:Around}{E:Value->Shared->Prop}{s:Shared}{K:Frag}{C f:Addr}{rest:List Value}
end
end L2
namespace L2
open PySem PySem.W PySem.Spec PySem.Calls PyProof.Rows Builtin Builtin.ObjectAttr
section
variable{prog:Program}{w:World}{A:Around}{E:Value->Shared->Prop}{s:Shared}{K:Frag}{x C:Addr}{R:Result->Shared->Prop}
end
section
variable{X:Cx}{pins:List (Addr × Obj)}{σ:St}{H:Hp}{s:Shared}{a C d:Addr}{fs:List (Str × V)}{f:Str}{v:V}{A:Around}{E:Value->Shared->Prop}
end
section
variable{X:Cx}{k:Nat}{f C:Addr}{fd:FuncData}{ps:List Str}{sp:Sp}{x g:Str}{p pos np apos pos':Pos}{e o value:Expr}{es:List Expr}{t:TA}{ta tv:TE}
end
end L2
namespace L2
open PySem PySem.W PySem.Spec PySem.Calls PyProof.Rows
end L2
namespace L2
open PySem PySem.W PySem.Spec PySem.Calls PyProof.Rows Builtin Builtin.ObjectAttr
section
variable{P:Program}{w:World}{H:Hp}{h:Heap}{a C:Addr}{od:Option Addr}
end
section
variable{prog:Program}{w:World}{A:Around}{E:Value->Shared->Prop}{s:Shared}{K:Frag}{x C:Addr}
end
section
variable{X:Cx}{pins:List (Addr × Obj)}{σ:St}{H:Hp}{s:Shared}{a C d:Addr}{fs:List (Str × V)}{f:Str}{v:V}{A:Around}{E:Value->Shared->Prop}
end
section
variable{X:Cx}{k:Nat}{f C:Addr}{fd:FuncData}{ps:List Str}{sp:Sp}{x g:Str}{p pos np apos pos':Pos}{e o value:Expr}{es:List Expr}{t:TA}{ta tv:TE}
end
section
variable{M:Model}{A:Around}{E:Value->Shared->Prop}{env:Env}{K:Frag}{C:Addr}
end
section
variable{X:Cx}{k:Nat}{f C:Addr}{fd:FuncData}{ps:List Str}{sp:Sp}{Ex:St->XK}{x:Str}{pos np cpos:Pos}{e:Expr}{es:List Expr}{t:TA}
end
end L2
namespace L2
open PySem PySem.Spec PySem.W PyProof.Rows HT
end L2
namespace L2
open PySem PySem.Spec PyProof.Rows
section
variable{X:Cx}
end
section
variable{σ:St}{js:List Nat}{te:TE}{H:Hp}{Q:VK}
end
end L2
namespace Kw
open PySem L2 Mf
def top(i:Nat):Stmt:=PySem.Challenge.pw_earlystop_k75_together_and_worst.main.body.getD i (.Pass ⟨0,0,0,0⟩)
structure Cl where
 ONE:Addr
 NOUGHT:Addr
 tok_LOOKS_ON:Tok
structure kO(K:PySem.W.Frag)(mg:Str->Option Value)(c:Cl):Prop where
 b_list:mg "list" = none
 b_len:mg "len" = none
 b_abs:mg "abs" = none
 b_range:mg "range" = none
 b_sum:mg "sum" = none
 b_int:mg "int" = none
 b_sorted:mg "sorted" = none
 b_dict:mg "dict" = none
 b_isinstance:mg "isinstance" = none
 b_tuple:mg "tuple" = none
 b_zip:mg "zip" = none
 b_repr:mg "repr" = none
 g_ONE:mg "ONE" = some (.ref c.ONE)
 g_NOUGHT:mg "NOUGHT" = some (.ref c.NOUGHT)
 g_LOOKS_ON:mg "LOOKS_ON" = some (.int 0 c.tok_LOOKS_ON)
 o_ONE:oJ K c.ONE [1,1]=true
 o_NOUGHT:oJ K c.NOUGHT [0,1]=true
abbrev ZQ:Stmt:=(top 39)
theorem cQ8:bW ["_law_n","_law_d","_law_one","_law_other"] ["_law_n","_law_d"] (aT ZQ):=⟨rfl,rfl,rfl,Kk,rfl,Kk,Kk⟩
abbrev ZS:Stmt:=(top 37)
theorem cQ6:bW ["_law_script"] ["_law_script"] (aT ZS):=⟨rfl,rfl,rfl,Kk,rfl,Kk,Kk⟩
abbrev ZT:Stmt:=(top 38)
theorem WH:bW ["_law_feed_here","_law_many","_law_found","_law_cell","_law_stirred"] ["_law_feed_here","_law_many"] (aT ZT):=⟨rfl,rfl,rfl,Kk,rfl,Kk,Kk⟩
abbrev GB:Stmt:=(top 40)
theorem PY:bW ["_law_feed_here","_law_many","_law_most","_law_parts"] ["_law_feed_here","_law_many"] (aT GB):=⟨rfl,rfl,rfl,Kk,rfl,Kk,Kk⟩
abbrev NG:Stmt:=(top 41)
theorem HL:bW ["_law_feed_here","_law_pool","_law_turn","_law_faces","_law_ways"] ["_law_feed_here"] (aT NG):=⟨rfl,rfl,rfl,Kk,rfl,Kk,Kk⟩
theorem XZ{b:Bool}{A B:Prop}(h:b=true)(k:A):if b=true then A else B:=by rw [h,if_pos rfl];exact k
theorem pL{b:Bool}{A B:Prop}(h:b=false)(k:B):if b=true then A else B:=by rw [h,if_neg yd];exact k
abbrev eQ(f:Fr):PyData:=.tuple [.int f.1,.int f.2]
theorem mE{H:Hp}{f:Fr}{v:V}(h:cB H (eQ f) v):∃a,v=.ref a/\H a=some (.tup [.int f.1,.int f.2]):=by
 unfold cB bF bF bF at h;obtain ⟨a,_,rfl,h1,x,_,rfl,r1,y,_,rfl,r2,rfl⟩:=h;cases (show x=V.int f.1 from r1);cases (show y=V.int f.2 from r2);exact ⟨a,rfl,h1⟩
theorem dU{H:Hp}{f:Fr}{a:Addr}(h:H a=some (.tup [.int f.1,.int f.2])):cB H (eQ f) (.ref a):=cB.tup h (bF.cons (cB.int _) (bF.cons (cB.int _) bF.nil))
theorem cF(f:Fr):eN (eQ f)=true:=rfl
def fP(K:PySem.W.Frag)(H:Hp)(f:Fr)(x:V):Prop:=∃a,x=.ref a/\gK K H a [.int f.1,.int f.2]
theorem fP.of{K:PySem.W.Frag}{H:Hp}{f:Fr}{x:V}(h:cB H (eQ f) x):fP K H f x:=by
 obtain ⟨a,e,h⟩:=mE h;exact ⟨a,e,gK.of h⟩
theorem fP.new{K:PySem.W.Frag}{H:Hp}{f:Fr}{a:Addr}(h:H a=some (.tup [.int f.1,.int f.2])):fP K H f (.ref a):=⟨a,rfl,gK.of h⟩
theorem fP.same{K:PySem.W.Frag}{H H':Hp}{f:Fr}{x:V}(s:aQ H H')(h:fP K H f x):fP K H' f x:=by
 obtain ⟨a,e,h⟩:=h;exact ⟨a,e,h.keep s⟩
def iZ(k:Nat)(f:Fr):Prop:=f.1.natAbs<2^k/\f.2.natAbs<2^k
@[irreducible] def vH:Sp:=λvs H Q _=>∃n d:Int,vs=[.int n,.int d]/\0<d/\Q (.int (Int.gcd n d)) H
theorem sQ{H:Hp}{Q:VK}{E:XK}{n d:Int}(h:0<d)(q:Q (.int (Int.gcd n d)) H):vH [.int n,.int d] H Q E:=by unfold vH;exact ⟨n,d,rfl,h,q⟩
def nH(H:Hp)(Q:VK)(f:Fr):Prop:=∀q H',H q=none->H' q=some (.tup [.int f.1,.int f.2])->aQ H H'->Q (.ref q) H'
@[irreducible] def lR(K:PySem.W.Frag):Sp:=λvs H Q _=>∃x y f g,vs=[x,y]/\fP K H f x/\fP K H g y/\cT f/\cT g/\iZ 4000 f/\iZ 4000 g/\nH H Q (lK f g)
theorem qL{K:PySem.W.Frag}{H:Hp}{Q:VK}{E:XK}{x y:V}{f g:Fr}(h1:fP K H f x)(h2:fP K H g y)(l1:cT f)(l2:cT g)(z1:iZ 4000 f)(z2:iZ 4000 g)(q:nH H Q (lK f g)):lR K [x,y] H Q E:=by unfold lR;exact ⟨x,y,f,g,rfl,h1,h2,l1,l2,z1,z2,q⟩
@[irreducible] def lT(K:PySem.W.Frag):Sp:=λvs H Q _=>∃x y f g,vs=[x,y]/\fP K H f x/\fP K H g y/\iZ 4000 f/\iZ 4000 g/\Q (.bl (decide (f.1*g.2<g.1*f.2))) H
theorem vG{K:PySem.W.Frag}{H:Hp}{Q:VK}{E:XK}{x y:V}{f g:Fr}(h1:fP K H f x)(h2:fP K H g y)(z1:iZ 4000 f)(z2:iZ 4000 g)(q:Q (.bl (decide (f.1*g.2<g.1*f.2))) H):lT K [x,y] H Q E:=by unfold lT;exact ⟨x,y,f,g,rfl,h1,h2,z1,z2,q⟩
@[irreducible] def iO:Sp:=λvs H Q _=>∃n d:Int,vs=[.int n,.int d]/\0<d/\d.natAbs<2^9000/\nH H Q (lw n d)
theorem gS{H:Hp}{Q:VK}{E:XK}{n d:Int}(h:0<d)(z:d.natAbs<2^9000)(q:nH H Q (lw n d)):iO [.int n,.int d] H Q E:=by unfold iO;exact ⟨n,d,rfl,h,z,q⟩
theorem VF{n d:Int}(h:0<d):(Int.gcd n d:Int)<=d:=Int.le_of_dvd h (Int.gcd_dvd_right n d)
theorem uB{n d:Int}{k:Nat}(h:0<d)(z:d.natAbs<2^k):(Int.gcd n d:Int).natAbs<2^k:=by
 have:=VF (n:=n) h;have:=hU (n:=n) h;omega
theorem pW{n d:Int}(h:0<d)(z:d.natAbs<2^9000):MB n d:=⟨h,uK z⟩
theorem iE{i:Int}{n m:Nat}(h:i.natAbs<2^n)(k:n<=m:=by decide):i.natAbs<2^m:=aX h (bB yd k)
theorem oD{i j:Int}{n:Nat}(h:i.natAbs<2^n)(hj:0<j):(i/j).natAbs<2^n:=bJ (by
 have:=Int.natAbs_ediv_le_natAbs i j;exact this) h
theorem tF{i j:Int}{n m:Nat}(h1:i.natAbs<2^n)(h2:j.natAbs<2^m):(i*j).natAbs<2^(n+m):=by
 rw [fU,Nat.pow_add];exact Nat.mul_lt_mul'' h1 h2
abbrev xE(fs:List Fr):PyData:=.tuple (fs.map eQ)
theorem pS:∀fs:List Fr,dO (fs.map eQ)=true
 | []=>rfl
 | f::fs=>by show (eN (eQ f)&&dO (fs.map eQ))=true;rw [pS fs];rfl
theorem tN(fs:List Fr):eN (xE fs)=true:=pS fs
section
theorem oQ8(F:jA K "_law_low" "_law_low" ZQ f fd)(T:kO K mg c):eJ P w K mg base dR 1 f fd ["_law_n","_law_d"] iO:=by
 refine F.oky cQ8 λvs H Q E h=>?_;unfold iO at h;obtain ⟨n,d,rfl,hd,hz,q⟩:=h;refine ⟨rfl,λcdv A outer s hr=>?_⟩;refine ⟨_,(aL (IG (i:=2) (j:=3) rfl cQ8.nd rfl rfl yd rfl rfl (aJ (eU CG (by rfl) T.b_abs Kk (aJ (aG 0) aE)) (aJ (aG 1) aE)) rfl)
  (aL (oN PassesOwn.never (fW vN (aG 3) aD (nomark _)) (bA (IG (i:=2) (j:=3) rfl cQ8.nd rfl rfl yd rfl rfl (aJ (aG 3) (aJ (bT kJ (aG 2) (aG 3)) aE)) rfl)))
  (bA (cH (dZ (aJ (bT gE (aG 0) (aG 2)) (aJ (bT gE (aG 1) (aG 2)) aE))))))),?_⟩
 refine ⟨_,rfl,?_⟩;refine ZY ?_;refine ⟨_,rfl,?_⟩;refine ⟨_,_,rfl,?_⟩;refine sO (λm σ H'=>∃(u v:Int),σ=[some (.int n),some (.int d),some (.int u),some (.int v)]/\0<=v/\Int.gcd u v=Int.gcd n d/\(v=0->0<u)/\H'=H/\m=v.toNat)
  (λσ H'=>σ=[some (.int n),some (.int d),some (.int (Int.gcd n d)),some (.int 0)]/\H'=H)
  _ ⟨(n.natAbs:Int),d,rfl,Oo,by rw [Int.gcd_eq_natAbs_gcd_natAbs,Int.gcd_eq_natAbs_gcd_natAbs,Int.natAbs_natCast],Oo,rfl,rfl⟩ ?_ ?_
 ·rintro m σ H2 ⟨u,v,rfl,hb,hg,h0,rfl,rfl⟩;refine ⟨_,rfl,rfl,_,rfl,?_⟩;refine QZ (λe=>?_) (λe=>?_)
  ·have hb':0<v:=by
    rcases Int.lt_or_eq_of_le hb with h | h
    ·exact h
    ·exact absurd (congrArg V.int h.symm) e
   refine ⟨_,rfl,_,rfl,_,rfl,_,_,rfl,rfl,hb',_,_,rfl,?_⟩;have e1:=Int.emod_lt_of_pos u hb';have e2:=Int.emod_nonneg u (b:=v) Oo;exact ⟨_,Oo,v,u % v,rfl,e2,by rw [AA,hg],λ_=>hb',rfl,rfl⟩
  ·have hb0:v=0:=by injection e
   subst hb0;have hu:=h0 rfl;have e1:=EM hu;rw [hg] at e1;rw [e1];exact ⟨rfl,rfl⟩
 ·rintro σ H2 ⟨rfl,rfl⟩;have hg:=hU (n:=n) hd;have zg:MB n (Int.gcd n d:Int):=pW hg (uB hd hz);refine ⟨_,rfl,_,rfl,_,_,rfl,rfl,zg,?_⟩;refine ⟨_,rfl,_,rfl,_,_,rfl,rfl,zg,?_⟩;refine qH (by show 2<=64;decide) λp H3 hp e3 s3=>?_;exact q p H3 hp e3 s3
end
theorem qQ{H:Hp}{fs:List Fr}{v:V}(h:cB H (xE fs) v):∃a xs,v=.ref a/\H a=some (.tup xs)/\bF H (fs.map eQ) xs:=by
 unfold cB at h;exact h
abbrev wD(w:Str × List Fr):PyData:=.tuple [.str w.1,xE w.2]
abbrev uQ(fs:List Str)(ws:List (Str × List Fr)):PyData:=.tuple [.tuple (fs.map .str),.tuple (ws.map wD)]
theorem vE:∀fs:List Str,dO (fs.map PyData.str)=true
 | []=>rfl
 | f::fs=>by show (eN (.str f)&&dO (fs.map PyData.str))=true;rw [vE fs];rfl
theorem DA(w:Str × List Fr):eN (wD w)=true:=by
 show (eN (.str w.1)&&(eN (xE w.2)&&true))=true;rw [tN];rfl
theorem CT:∀ws:List (Str × List Fr),dO (ws.map wD)=true
 | []=>rfl
 | w::ws=>by show (eN (wD w)&&dO (ws.map wD))=true;rw [DA w,CT ws];rfl
theorem mP(fs:List Str)(ws:List (Str × List Fr)):eN (uQ fs ws)=true:=by
 show (eN (.tuple (fs.map .str))&&(eN (.tuple (ws.map wD))&&true))=true;rw [show eN (.tuple (fs.map PyData.str))=dO (fs.map PyData.str) from rfl,vE,show eN (.tuple (ws.map wD))=dO (ws.map wD) from rfl,CT];rfl
theorem wG{H:Hp}:∀fs:List Str,bF H (fs.map PyData.str) (fs.map V.str)
 | []=>bF.nil
 | f::fs=>bF.cons (cB.str f) (wG fs)
theorem fX{H:Hp}{ds:List PyData}{v:V}(h:cB H (.tuple ds) v):∃a xs,v=.ref a/\H a=some (.tup xs)/\bF H ds xs:=by unfold cB at h;exact h
theorem kB{H:Hp}{d e:PyData}{xs:List V}(h:bF H [d,e] xs):∃x y,xs=[x,y]/\cB H d x/\cB H e y:=by
 unfold bF bF bF at h;obtain ⟨x,_,rfl,h1,y,_,rfl,h2,rfl⟩:=h;exact ⟨x,y,rfl,h1,h2⟩
theorem dQ{α:Type}{H:Hp}{g:α->PyData}{fs:List α}{vs:List V}(h:bF H (fs.map g) vs){i:Nat}{v:V}(e:vs[i]?=some v):∃f,fs[i]?=some f/\cB H (g f) v:=by
 obtain ⟨d,h1,h2⟩:=h.get e;rw [aI] at h1;cases q:fs[i]? with
 | none=>rw [q] at h1;cases h1
 | some f=>rw [q] at h1;cases h1;exact ⟨f,rfl,h2⟩
theorem iD{α:Type}{H:Hp}{g:α->PyData}{fs:List α}{vs:List V}(h:bF H (fs.map g) vs){i:Nat}{f:α}(e:fs[i]?=some f):∃v,vs[i]?=some v/\cB H (g f) v :=
 h.get' (by rw [aI,e];rfl)
theorem eF{α:Type}{H:Hp}{g:α->PyData}{fs:List α}{vs:List V}(h:bF H (fs.map g) vs):vs.length=fs.length:=by rw [h.len,aA]
theorem eO{α:Type}{l:List α}{i:Nat}{x:α}(h:l[i]?=some x):l.take (i+1)=l.take i++[x]:=by
 rw [fY,h];rfl
structure bY(H:Hp)(p L:Addr):Prop where
 ex:∃(ns:List Int) (i r k:Int),H p=some (.lst [.ref L,.int i,.int r,.int k])/\H L=some (.lst (ns.map V.int))/\0<=i/\0<=r/\0<=k/\k<=ns.length/\ns.length<=63/\L≠p
theorem bY.there{H:Hp}{p L:Addr}(F:bY H p L):∃o,H p=some o:=by obtain ⟨ns,i,r,k,h,_⟩:=F.ex;exact ⟨_,h⟩
theorem bY.lst{H:Hp}{p L:Addr}(F:bY H p L):∃xs,H p=some (.lst xs):=by obtain ⟨ns,i,r,k,h,_⟩:=F.ex;exact ⟨_,h⟩
theorem bY.ne{H:Hp}{p L q:Addr}(F:bY H p L)(hq:H q=none):q≠p:=λe=>by
 subst e;obtain ⟨o,h⟩:=F.there;rw [h] at hq;cases hq
theorem bY.neL{H:Hp}{p L q:Addr}(F:bY H p L)(hq:H q=none):q≠L:=λe=>by
 subst e;obtain ⟨ns,i,r,k,h,h2,_⟩:=F.ex;rw [h2] at hq;cases hq
@[irreducible] def pA(K:PySem.W.Frag):Sp:=λvs H Q _=>∃(a:Addr) (ns:List Int),vs=[.ref a]/\fE K H a (ns.map V.int)/\ns.length<=63/\∀p L H',bY H' p L->aQ H H'->H p=none->H L=none->Q (.ref p) H'
@[irreducible] def iH:Sp:=λvs H Q _=>∃(p L:Addr) (m:Int),vs=[.ref p,.int m]/\bY H p L/\0<m/\bits m<=9000/\∀x H',0<=x->x<m->bY H' p L->aN p H H'->Q (.int x) H'
theorem dB{H:Hp}{Q:VK}{E:XK}{p L:Addr}{m:Int}(F:bY H p L)(h:0<m)(hb:bits m<=9000)(k:∀x H',0<=x->x<m->bY H' p L->aN p H H'->Q (.int x) H'):iH [.ref p,.int m] H Q E:=by
 unfold iH;exact ⟨p,L,m,rfl,F,h,hb,k⟩
theorem bitsle{i:Int}{n:Nat}(h:i.natAbs<2^n):bits i<=n:=PySem.intBits_le_iff.mpr h
theorem bY.same{H H':Hp}{p L:Addr}(F:bY H p L)(s:aQ H H'):bY H' p L:=by
 obtain ⟨ns,i,r,k,h1,h2,h3⟩:=F.ex;exact ⟨ns,i,r,k,s _ _ h1,s _ _ h2,h3⟩
theorem bY.but{H H':Hp}{p L D:Addr}(F:bY H p L)(s:aN D H H')(n1:D≠p)(n2:D≠L):bY H' p L:=by
 obtain ⟨ns,i,r,k,h1,h2,h3⟩:=F.ex;exact ⟨ns,i,r,k,s.at (Ne.symm n1) h1,s.at (Ne.symm n2) h2,h3⟩
theorem FW{K:PySem.W.Frag}{H:Hp}{Q:VK}{E:XK}{a:Addr}{ns:List Int}(h:fE K H a (ns.map V.int))(hl:ns.length<=63)(k:∀p L H',bY H' p L->aQ H H'->H p=none->H L=none->Q (.ref p) H'):pA K [.ref a] H Q E:=by
 unfold pA;exact ⟨a,ns,rfl,h,hl,k⟩
@[irreducible] def qM(K:PySem.W.Frag):Sp:=λvs H Q _=>∃(a:Addr) (ns:List Int),vs=[.ref a]/\fE K H a (ns.map V.int)/\ns.length<=63/\∀H',Q (.bl true) H'
theorem JC{K:PySem.W.Frag}{H:Hp}{a:Addr}{ns:List Int}(h:fE K H a (ns.map V.int))(hl:ns.length<=63):qM K [.ref a] H (λv _=>v=.bl true) (λ_ _ _=>False):=by
 unfold qM;exact ⟨a,ns,rfl,h,hl,λ_=>rfl⟩
section
theorem oQ6(F:jA K "_law_feed" "_law_feed" ZS f fd)(T:kO K mg c):eJ P w K mg base dR 1 f fd ["_law_script"] (pA K):=by
 refine F.oky cQ6 λvs H Q E h=>?_;unfold pA at h;obtain ⟨a,ns,rfl,hS,hl,k⟩:=h;refine ⟨rfl,λcdv A outer s hr=>?_⟩;refine ⟨_,(bA (cH (eR (aJ (jF xW (by rfl) T.b_list Kk (aJ (gP DJ (aG 0) iS (iR aD)) aE)) (aJ aD (aJ aD (aJ aD aE))))))),?_⟩;refine ⟨_,rfl,_,rfl,a,_,rfl,hS,λq1 h1=>?_⟩;refine ⟨q1,_,rfl,.inl (fE.of bK),λq2 h2=>?_⟩;refine sT (by show 4<=64;decide) λq3 H3 h3 e3 s3=>?_;have n21:q2≠q1:=λe=>by subst e;rw [bK] at h2;cases h2
 have e1:nU (ns.map V.int) none (some 63)=ns.map V.int:=by
  unfold nU;have:HT.gO (ns.map V.int).length (ns.map V.int).length (some 63)=(ns.map V.int).length:=by
   rw [show ((63:Int))=((63:Nat):Int) from rfl,HT.xF,aA];omega
  rw [this,HT.tO,List.drop_zero,Nat.sub_zero];exact List.take_of_length_le (aF _)
 have s3':=s3;rw [e1] at s3;have hq2:=s3 q2 _ bK;refine k q3 q2 H3 ⟨ns,0,0,0,e3,hq2,Int.le_refl _,Int.le_refl _,Int.le_refl _,Oo,hl,λe=>?_⟩ (((aQ.upd h1).trans (aQ.upd h2)).trans s3') ?_ ?_
 ·subst e;rw [bK] at h3;cases h3
 ·exact ((aQ.upd h1).trans (aQ.upd h2)).free h3
 ·exact (aQ.upd h1).free h2
theorem oQ4(F:jA K "_law_draw" "_law_draw" ZT f fd)(T:kO K mg c):eJ P w K mg base dR 1 f fd ["_law_feed_here","_law_many"] iH:=by
 refine F.oky WH λvs H Q E h=>?_;unfold iH at h;obtain ⟨p,L,m,rfl,F,hm,hb,k⟩:=h;refine ⟨rfl,λcdv A outer s hr=>?_⟩;obtain ⟨ns,i,r,j,hp,hL,h0,h1,h2,h3,h4,hne⟩:=F.ex;refine ⟨_,(aL (kH (bT eS (aW aR (aG 0) aD (λ_ _=>rfl)) aD) (kI (aG 0) aD gT))
  (aL (oN PassesOwn.never (MK (IE (fW zJ (aW aR (aG 0) aD (λ_ _=>rfl)) aD (nomark _)) (CS (fW QV (aW aR (aG 0) aD (λ_ _=>rfl)) (eU gI (by rfl) T.b_len Kk (aJ (aW aR (aG 0) aD (λ_ _=>rfl)) aE)) (nomark _))))) (aL (wL (mI (fW XV (eU CG (by rfl) T.b_abs Kk (aJ (aW aR (aW aR (aG 0) aD (λ_ _=>rfl)) (aW aR (aG 0) aD (λ_ _=>rfl)) (λ_ _=>rfl)) aE)) (bT UM aD aD) (nomark _)) (bA (kH (eU CG (by rfl) T.b_abs Kk (aJ (aW aR (aW aR (aG 0) aD (λ_ _=>rfl)) (aW aR (aG 0) aD (λ_ _=>rfl)) (λ_ _=>rfl)) aE)) (kI (aG 0) aD gT))) gX))
  (bA (kH (bT eS (aW aR (aG 0) aD (λ_ _=>rfl)) aD) (kI (aG 0) aD gT)))))
  (aL (mI (fW zI (aW aR (aG 0) aD (λ_ _=>rfl)) aD (nomark _)) (aL (bL (i:=2) WH.nd rfl (Or.inl rfl) (bT kJ (aW aR (aG 0) aD (λ_ _=>rfl)) (aG 1)))
  (aL (kH (bT gE (aW aR (aG 0) aD (λ_ _=>rfl)) (aG 1)) (kI (aG 0) aD gT))
  (bA (cH (aG 2))))) gX)
  (aL (bL (i:=3) WH.nd rfl (Or.inl rfl) aD)
  (aL (wL (mI (fW zI (eU gI (by rfl) T.b_len Kk (aJ (aW aR (aG 0) aD (λ_ _=>rfl)) aE)) aD (nomark _)) (bA (bL (i:=3) WH.nd rfl (Or.inl rfl) (aW aR (aW aR (aG 0) aD (λ_ _=>rfl)) (bT kJ (aW aR (aG 0) aD (λ_ _=>rfl)) (eU gI (by rfl) T.b_len Kk (aJ (aW aR (aG 0) aD (λ_ _=>rfl)) aE))) (λ_ _=>rfl)))) gX))
  (aL (bL (i:=4) WH.nd rfl (Or.inl rfl) (bT kJ (bT eS (bT eS (bT dC (bT kJ (aG 3) aD) aD) (bT dC aD (aW aR (aG 0) aD (λ_ _=>rfl)))) aD) aD))
  (aL (bL (i:=4) WH.nd rfl (Or.inl rfl) (bT kJ (bT dC (aG 4) (bT eS (aG 4) aD)) aD))
  (bA (cH (bT kJ (bT kJ (bT dC (aG 4) aD) aD) (aG 1))))))))))),?_⟩
 refine ⟨_,rfl,?_⟩;refine kC hp rfl ?_;refine ⟨_,_,rfl,rfl,?_⟩;refine ⟨_,rfl,?_⟩;refine JA hp rfl λH1 hp1' s1=>?_;have hp1:H1 p=some (.lst [.ref L,.int (i+1),.int r,.int j]):=hp1';clear hp1';refine sO (λn σ H'=>∃r j:Int,σ=[some (.ref p),some (.int m),none,none,none]/\H' p=some (.lst [.ref L,.int (i+1),.int r,.int j])/\0<=r/\0<=j/\j<=ns.length/\aN p H H'/\n=((ns.length:Int)-j).toNat)
  (λσ H'=>∃r j:Int,σ=[some (.ref p),some (.int m),none,none,none]/\H' p=some (.lst [.ref L,.int (i+1),.int r,.int j])/\0<=r/\0<=j/\j<=ns.length/\aN p H H')
  _ ⟨r,j,rfl,hp1,h1,h2,h3,s1,rfl⟩ ?_ ?_
 all_goals clear hp h1 h2 h3 hp1 s1
 ·rintro n σ H2 ⟨r,j,rfl,hp2,h1,h2,h3,s2,rfl⟩;have hL2:=s2.at hne hL;refine ⟨_,rfl,?_⟩;refine kC hp2 rfl ?_;refine ⟨rfl,_,rfl,?_⟩;refine tZ (λe0=>?_) (λe0=>?_)
  ·refine ⟨_,rfl,?_⟩;refine kC hp2 rfl ?_;refine ⟨_,rfl,?_⟩;refine kC hp2 rfl ?_;refine TK hL2 ?_;refine ⟨_,_,rfl,rfl,_,rfl,?_⟩;refine tZ (λe1=>?_) (λe1=>?_)
   ·rw [aA] at e1;have hj:∃z,ns[j.toNat]?=some z:=⟨_,aB Oo⟩;obtain ⟨z,hz⟩:=hj;have hat:yF (ns.map V.int) j=some (.int z):=by
     have:=cK (xs:=ns.map V.int) (j:=j.toNat) (v:=V.int z) (by rw [aI,hz];rfl)
     rwa [Int.toNat_of_nonneg h2] at this
    refine ⟨_,λ_ _ h=>h,?_⟩;refine ⟨_,rfl,?_⟩;refine kC hp2 rfl ?_;refine ⟨_,rfl,?_⟩;refine kC hp2 rfl ?_;refine kC hL2 hat ?_;refine ZY ?_;refine ⟨_,_,rfl,rfl,⟨yd,yd,yd⟩,_,_,rfl,rfl,_,rfl,?_⟩;refine tZ (λe2=>?_) (λe2=>?_)
    ·refine ⟨_,rfl,?_⟩;refine kC hp2 rfl ?_;refine ⟨_,rfl,?_⟩;refine kC hp2 rfl ?_;refine kC hL2 hat ?_;refine ZY ?_;refine ⟨_,rfl,?_⟩;refine JA hp2 rfl λH3 hp3' s3=>?_;have hp3:H3 p=some (.lst [.ref L,.int (i+1),.int (z.natAbs:Int),.int j]):=hp3';refine ⟨_,rfl,?_⟩;refine kC hp3 rfl ?_;refine ⟨_,_,rfl,rfl,?_⟩;refine ⟨_,rfl,?_⟩;refine JA hp3 rfl λH4 hp4' s4=>?_;exact ⟨_,Oo,_,j+1,rfl,hp4',Oo,Oo,Oo,(s2.trans s3).trans s4,rfl⟩
    ·refine ⟨_,rfl,?_⟩;refine kC hp2 rfl ?_;refine ⟨_,_,rfl,rfl,?_⟩;refine ⟨_,rfl,?_⟩;refine JA hp2 rfl λH4 hp4' s4=>?_;exact ⟨_,Oo,_,j+1,rfl,hp4',h1,Oo,Oo,s2.trans s4,rfl⟩
   ·rw [aA] at e1;exact ⟨r,j,rfl,hp2,h1,h2,h3,s2⟩
  ·refine aAN ?_;exact ⟨r,j,rfl,hp2,h1,h2,h3,s2⟩
 ·rintro σ H2 ⟨r,j,rfl,hp2,h1,h2,h3,s2⟩;have hL2:=s2.at hne hL;refine ⟨_,rfl,?_⟩;refine kC hp2 rfl ?_;refine ⟨_,_,rfl,rfl,_,rfl,?_⟩;refine tZ (λe0=>?_) (λe0=>?_)
  ·refine ⟨_,rfl,?_⟩;refine kC hp2 rfl ?_;refine ⟨_,rfl,_,_,rfl,rfl,hm,?_⟩;refine ⟨_,rfl,?_⟩;refine kC hp2 rfl ?_;refine ⟨_,rfl,_,_,rfl,rfl,⟨hm,hb⟩,?_⟩;refine ⟨_,rfl,?_⟩;refine JA hp2 rfl λH3 hp3 s3=>?_;refine ⟨_,rfl,?_⟩;exact k _ H3 (Int.emod_nonneg _ Oo) (Int.emod_lt_of_pos _ hm) ⟨ns,i+1,r/m,j,hp3,s3.at hne hL2,Oo,Int.ediv_nonneg h1 Oo,h2,h3,h4,hne⟩ (s2.trans s3)
  ·refine ⟨λσ H3=>∃c:Int,σ=[some (.ref p),some (.int m),none,some (.int c),none]/\H3=H2,?_,?_⟩
   ·rintro σ H3 ⟨c,rfl,rfl⟩;have hc:=Int.emod_nonneg c (b:=2147483647) yd;have hc':=Int.emod_lt_of_pos c (b:=2147483647) yd;refine ⟨_,rfl,_,_,rfl,rfl,(by show (0:Int)<2147483647;decide),_,_,rfl,rfl,IntMulOk.of_right Kk,?_⟩;refine ⟨_,rfl,?_⟩;refine kC hp2 rfl ?_;refine ⟨_,_,rfl,rfl,IntMulOk.of_left Kk,_,_,rfl,rfl,_,_,rfl,rfl,_,_,rfl,rfl,(by show (0:Int)<2147483629;decide),?_⟩;generalize hz:(c % 2147483647*48271+7919*(i+1)+12345) % 2147483629=z;have z0:0<=z:=by rw [<-hz];exact Int.emod_nonneg _ yd
    have z1:z<2147483629:=by rw [<-hz];exact Int.emod_lt_of_pos _ yd
    refine ⟨_,rfl,_,rfl,_,_,rfl,rfl,_,_,rfl,rfl,IntMulOk.of_left (PySem.intBits_le_64 Oo Oo),_,_,rfl,rfl,(by show (0:Int)<2147483587;decide),?_⟩;generalize hy:z*(z+40692) % 2147483587=y;have y0:0<=y:=by rw [<-hy];exact Int.emod_nonneg _ yd
    have y1:y<2147483587:=by rw [<-hy];exact Int.emod_lt_of_pos _ yd
    refine ⟨_,rfl,_,_,rfl,rfl,IntMulOk.of_left (PySem.intBits_le_64 Oo Oo),_,_,rfl,rfl,(by show (0:Int)<2147483563;decide),?_⟩;refine ⟨_,rfl,_,_,rfl,rfl,hm,?_⟩;exact k _ H3 (Int.emod_nonneg _ Oo) (Int.emod_lt_of_pos _ hm) ⟨ns,i+1,r,j,hp2,hL2,Oo,h1,h2,h3,h4,hne⟩ s2
   ·refine ⟨_,rfl,?_⟩;refine kC hp2 rfl ?_;refine TK hL2 ?_;refine ⟨_,_,rfl,rfl,_,rfl,?_⟩;refine tZ (λe1=>?_) (λe1=>?_)
    ·rw [aA] at e1;refine ⟨_,rfl,?_⟩;refine kC hp2 rfl ?_;refine ⟨_,rfl,?_⟩;refine kC hp2 rfl ?_;refine ⟨_,rfl,?_⟩;refine kC hp2 rfl ?_;refine TK hL2 ?_;rw [aA];refine ⟨_,_,rfl,rfl,e1,?_⟩;have g0:=Int.emod_nonneg (i+1) (b:=(ns.length:Int)) Oo;have g1:=Int.emod_lt_of_pos (i+1) e1;have hj:∃z,ns[((i+1) % (ns.length:Int)).toNat]?=some z:=⟨_,aB Oo⟩;obtain ⟨z,hz⟩:=hj;have hat:yF (ns.map V.int) ((i+1) % (ns.length:Int))=some (.int z):=by
      have:=cK (xs:=ns.map V.int) (j:=((i+1) % (ns.length:Int)).toNat) (v:=V.int z) (by rw [aI,hz];rfl)
      rwa [Int.toNat_of_nonneg g0] at this
     refine kC hL2 hat ?_;exact ⟨z,rfl,rfl⟩
    ·exact ⟨0,rfl,rfl⟩
end
structure CM(n:Nat)(fs:List Fr):Prop where
 len:fs.length=n
 low:∀f∈fs,cT f
 pos:∀f∈fs,0<=f.1
 le:∀f∈fs,f.1<=f.2
 dn:∀f∈fs,f.2<=1000
 one:oC fs=(1,1)
def pool:List Str:=["a","ab","ways","onto","abc","sayer","ruler","b","prices","worthy","nones","zzzzzzzz"]
def rot(t:Nat):List Str:=pool.drop t++pool.take t
structure yD(t o F W:Nat)(fs:List Str)(ws:List (Str × List Fr)):Prop where
 ht:t<12
 ho:o=0\/o=2\/o=5
 hF:F=2\/F=3\/F=4
 hW:W=2\/W=3\/W=4
 hfs:fs=(rot t).take F
 hns:ws.map (·.1)=((rot t).drop o).take W
 sh:∀w∈ws,CM F w.2
theorem xG{t:Nat}(h:t<12):(rot t).length=12:=by
 unfold rot;rw [bC,List.length_drop,bP];show 12-t+min t 12=12;omega
theorem yD.lenF{t o F W:Nat}{fs:List Str}{ws:List (Str × List Fr)}(h:yD t o F W fs ws):fs.length=F:=by
 rw [h.hfs,bP,xG h.ht];have:=h.hF;omega
theorem yD.lenW{t o F W:Nat}{fs:List Str}{ws:List (Str × List Fr)}(h:yD t o F W fs ws):ws.length=W:=by
 have e:=congrArg List.length h.hns;rw [aA,bP,List.length_drop,xG h.ht] at e;have:=h.hW;have:=h.ho;omega
theorem bY.like(p L:Addr):qG p L (λH=>bY H p L) :=
 ⟨λD H1 H2 n1 n2 s F=>F.but s n1 n2,λH1 H2 s F=>F.same s,λH' F=>F.lst,λH' D F h=>⟨F.ne h,F.neL h⟩⟩
theorem wI{H:Hp}:∀fs:List Int,bF H (fs.map PyData.int) (fs.map V.int)
 | []=>bF.nil
 | f::fs=>bF.cons (cB.int f) (wI fs)
@[irreducible] def kX:Sp:=λvs H Q _=>∃(p L:Addr) (m:Nat),vs=[.ref p,.int (m:Int)]/\bY H p L/\0<m/\m<=4/\∀v fs H',bY H' p L->aN p H H'->cB H' (xE fs) v->CM m fs->Q v H'
theorem yT{H:Hp}{Q:VK}{E:XK}{p L:Addr}{m:Nat}(F:bY H p L)(h0:0<m)(h1:m<=4)(k:∀v fs H',bY H' p L->aN p H H'->cB H' (xE fs) v->CM m fs->Q v H'):kX [.ref p,.int (m:Int)] H Q E:=by unfold kX;exact ⟨p,L,m,rfl,F,h0,h1,k⟩
@[irreducible] def mU:Sp:=λvs H Q _=>∃(p L:Addr),vs=[.ref p]/\bY H p L/\∀v t o F W fs ws H',bY H' p L->aN p H H'->cB H' (uQ fs ws) v->yD t o F W fs ws->Q v H'
theorem BL{H:Hp}{Q:VK}{E:XK}{p L:Addr}(F:bY H p L)(k:∀v t o F W fs ws H',bY H' p L->aN p H H'->cB H' (uQ fs ws) v->yD t o F W fs ws->Q v H'):mU [.ref p] H Q E:=by unfold mU;exact ⟨p,L,rfl,F,k⟩
theorem lQ:∀{ns:List Int},(∀n∈ns,0<=n)->0<=ns.sum
 | [],_=>yd
 | n::ns,h=>by
  have:=lQ λm hm=>h m (aK _ hm);have:=h n (by simp);rw [List.sum_cons];omega
theorem nJ{n:Int}:∀{ns:List Int},(∀n∈ns,0<=n)->n∈ns->n<=ns.sum
 | m::ns,h,hn=>by
  have h1:=lQ λm hm=>h m (aK _ hm);have h2:=h m (by simp);rw [List.sum_cons];rcases bE.mp hn with rfl | hn
  ·omega
  ·have:=nJ (λm hm=>h m (aK _ hm)) hn;omega
theorem IW{B:Nat}:∀{ns:List Int},(∀n∈ns,n<=B)->ns.sum<=B*ns.length
 | [],_=>by simp
 | n::ns,h=>by
  have h1:=IW λm hm=>h m (aK _ hm);have h2:=h n (by simp);rw [List.sum_cons,dG];have:(B:Int)*((ns.length+1:Nat):Int)=B*ns.length+B:=by rw [Int.natCast_add,Int.mul_add];simp
  omega
theorem KC{ns:List Int}(h0:∀n∈ns,0<=n)(h1:∀n∈ns,n<=200)(hp:∃n∈ns,0<n)(hl:ns.length<=4):0<ns.sum/\ns.sum<=800/\CM ns.length (ns.map λn=>lw n ns.sum):=by
 obtain ⟨n,hn,pn⟩:=hp;have a1:=nJ h0 hn;have a2:=IW (B:=200) h1;have hS:0<ns.sum:=Oo;refine ⟨hS,Oo,by rw [aA],λf hf=>?_,λf hf=>?_,λf hf=>?_,λf hf=>?_,?_⟩
 ·obtain ⟨m,hm,rfl⟩:=aP.mp hf;exact fM hS
 ·obtain ⟨m,hm,rfl⟩:=aP.mp hf;exact Int.ediv_nonneg (h0 m hm) Oo
 ·obtain ⟨m,hm,rfl⟩:=aP.mp hf;have c:=iW (n:=m) (d:=ns.sum);have p:=(fM (n:=m) hS).pos;have b:=nJ h0 hm;refine Int.le_of_mul_le_mul_right (a:=ns.sum) ?_ hS;rw [c,Int.mul_comm];exact Int.mul_le_mul_of_nonneg_left b Oo
 ·obtain ⟨m,hm,rfl⟩:=aP.mp hf;have:=(EB (n:=m) hS).1;omega
 ·rw [FP hS,UU hS]
section
theorem aAC(F:jA K "_law_shares" "_law_shares" GB f fd)(T:kO K mg c)
  (FQ4:gB dR P w K mg base 1 "_law_draw" ["_law_feed_here","_law_many"] iH) (FQ8:gB dR P w K mg base 1 "_law_low" ["_law_n","_law_d"] iO):eJ P w K mg base dR 2 f fd ["_law_feed_here","_law_many"] kX:=by
 refine F.oky PY λvs H Q E h=>?_;unfold kX at h;obtain ⟨p,L,m,rfl,F,m0,m4,k⟩:=h;refine ⟨rfl,λcdv A outer s hr=>?_⟩;have bm:bits (m:Int)<=9000:=uK (n:=9000) (aX (show (m:Int).natAbs<2^6 by show (m:Int).natAbs<64;omega) (bB yd yd));refine ⟨_,(aL (bL (i:=2) PY.nd rfl (Or.inr rfl) (aW aR (eR (aJ aD (aJ aD (aJ aD aE)))) (bQ FQ4 (hr.mono yd) (aJ (aG 0) (aJ aD aE))) (λ_ _=>rfl)))
  (aL (bL (i:=3) PY.nd rfl (Or.inr rfl) (fG (dM.of (psc:=aT GB) (N:=["_law_feed_here","_law_many","_law_most","_law_parts"]) (N':=["_law_k","_law_feed_here","_law_most"]) (js:=[0,2]) Kk rfl rfl rfl) (dX rfl T.b_range (aJ (aG 1) aE)) (λ_ _ _ _=>eI) (λ_ _ _ _=>(bT dC (bQ FQ4 (hr.mono yd) (aJ (aG 1) (aJ (aG 2) aE))) (bQ FQ4 (hr.mono yd) (aJ (aG 1) (aJ aD aE)))))))
  (aL (bL (i:=3) PY.nd rfl (Or.inr rfl) (fG (dM.of (psc:=aT GB) (N:=["_law_feed_here","_law_many","_law_most","_law_parts"]) (N':=["_law_part","_law_most"]) (js:=[2]) Kk rfl rfl rfl) (fF (aG 3)) (λ_ _ _ _=>eI) (λ_ _ _ _=>(bT kJ (aG 0) (bT eS (aG 1) aD)))))
  (aL (kH (bT eS aD (bQ FQ4 (hr.mono yd) (aJ (aG 0) (aJ (aG 2) aE)))) (kI (aG 3) (bQ FQ4 (hr.mono yd) (aJ (aG 0) (aJ (aG 1) aE))) gT))
  (bA (cH (jF dL (by rfl) T.b_tuple Kk (aJ (fG (dM.of (psc:=aT GB) (N:=["_law_feed_here","_law_many","_law_most","_law_parts"]) (N':=["_law_part","_law_parts"]) (js:=[3]) Kk rfl rfl rfl) (fF (aG 3)) (λ_ _ _ _=>eI) (λ_ _ _ _=>(bQ FQ8 (hr.mono yd) (aJ (aG 0) (aJ (eU (EY K rfl) (by rfl) T.b_sum Kk (aJ (aG 1) aE)) aE))))) aE)))))))),?_⟩
 refine sT (by show 3<=64;decide) λq1 H1 hq1 e1 s1=>?_;refine ⟨_,rfl,?_⟩;refine dB (F.same s1) yd Kk λx H2 x0 x1 F2 s2=>?_;obtain ⟨v,hat,hmem,_⟩:=sX (xs:=[V.int 6,V.int 6,V.int 200]) x0 x1;refine kC (s2.at (F.ne hq1) e1) hat ?_;have hv:∃M:Int,v=.int M/\0<M/\M<=200/\bits M<=9000:=by
  simp only [bE,List.not_mem_nil,or_false] at hmem;rcases hmem with rfl | rfl | rfl <;> exact ⟨_,rfl,yd,yd,Kk⟩
 obtain ⟨M,rfl,M0,M1,bM⟩:=hv;have S2:=s1.but.trans s2;refine ⟨_,rfl,_,rfl,Oo,Oo,?_⟩;refine AL (bY.like p L) F2 (λ_ y _=>∃n,y=.int n/\0<=n) (λ_ _ _ _ _ h=>h) Oo (λi H' Q' hi F' s' k'=>?_) (λD ys H3 hD hD3 F3 s3 hy hr3=>?_)
 ·refine ⟨_,rfl,_,rfl,?_⟩;refine dB F' M0 bM λa H4 a0 a1 F4 s4=>?_;refine ⟨_,rfl,?_⟩;refine dB F4 yd Kk λb H5 b0 b1 F5 s5=>?_;refine ⟨_,_,rfl,rfl,IntMulOk.of_left (PySem.intBits_le_64 Oo Oo),?_⟩;exact k' _ H5 F5 (s4.trans s5) ⟨_,rfl,Int.mul_nonneg a0 b0⟩
 ·obtain ⟨ns,rfl,hn⟩:=pM (P:=λ_ n=>0<=n) hr3;have npD:=F2.ne hD;refine ⟨_,rfl,D,rfl,⟨_,fE.of hD3⟩,?_⟩;refine nQ (λ_ y _=>∃n,y=.int n/\0<=n/\n<=200) (λ_ _ _ _ _ h=>h) (by rw [hy];omega) hD3 (λi x H' Q' hx s' k'=>?_) (λD2 ys H4 hD2 hD4 s4 hy4 hr4=>?_)
  ·rw [aI] at hx;obtain ⟨n,hn',rfl⟩:=(show ∃n,ns[i]?=some n/\V.int n=x by
    cases q:ns[i]? with
    | none=>rw [q] at hx;cases hx
    | some n=>rw [q] at hx;cases hx;exact ⟨n,rfl,rfl⟩)
   refine ⟨_,rfl,_,rfl,_,_,rfl,rfl,_,_,rfl,rfl,(by show 0<M+1;omega),?_⟩;have c0:=Int.emod_nonneg n (b:=M+1) Oo;have c1:=Int.emod_lt_of_pos n (b:=M+1) Oo;exact k' _ H' (aQ.refl _) ⟨_,rfl,c0,Oo⟩
  ·obtain ⟨ms,rfl,hm⟩:=pM (P:=λ_ n=>0<=n/\n<=200) hr4;have F4:=F3.same s4;have lms:ms.length=m:=by
    rw [aA] at hy4 hy;rw [aA] at hy4;omega
   have np2:=F3.ne hD2;refine ⟨_,rfl,_,rfl,?_⟩;refine dB F4 M0 bM λa H5 a0 a1 F5 s5=>?_;refine ⟨_,_,rfl,rfl,?_⟩;refine ⟨_,rfl,_,rfl,_,rfl,?_⟩;refine dB F5 Oo bm λb H6 b0 b1 F6 s6=>?_;have hD6:=s6.at np2 (s5.at np2 hD4);have hj:vS (ms.map V.int).length b=some b.toNat:=by
    unfold vS;rw [if_pos b0,if_pos (by rw [aA];omega)]
   refine JA hD6 hj λH7 e7 s7=>?_;rw [<-List.map_set] at e7;have nL2:=F3.neL hD2;have F7:=F6.but s7 np2 nL2;have hb:b.toNat<ms.length:=Oo;obtain ⟨hS,hS8,okS⟩:=KC (ns:=ms.set b.toNat (1+a))
    (λn hn=>by
     rcases List.mem_or_eq_of_mem_set hn with h | rfl
     ·obtain ⟨i,hi⟩:=cI.mp h;exact (hm i n hi).1
     ·omega)
    (λn hn=>by
     rcases List.mem_or_eq_of_mem_set hn with h | rfl
     ·obtain ⟨i,hi⟩:=cI.mp h;exact (hm i n hi).2
     ·omega)
    ⟨1+a,cI.mpr ⟨b.toNat,by rw [List.getElem?_set_self hb]⟩,Oo⟩ (by rw [List.length_set];omega)
   have lt:(ms.set b.toNat (1+a)).length=m:=by rw [List.length_set];exact lms
   generalize ms.set b.toNat (1+a)=zs at *;have SF:aN p H H7:=by
    refine aN.thru ?_ (((S2.trans s3).trans s4.but).trans (s5.trans s6)) s7;exact aN.free (p:=p) (S2.trans s3) F3.there hD2
   refine ⟨_,rfl,D2,rfl,⟨_,fE.of e7⟩,?_⟩;refine nQ (λi y H'=>∃n,zs[i]?=some n/\cB H' (eQ (lw n zs.sum)) y) (λi y H1 H2 s ⟨n,h1,h2⟩=>⟨n,h1,h2.flat s (cF _)⟩) (by rw [aA];omega) e7 (λi x H' Q' hx s' k'=>?_) (λD3 ys H8 hD3 hD8 s8 hy8 hr8=>?_)
   ·rw [aI] at hx;obtain ⟨n,hn',rfl⟩:=(show ∃n,zs[i]?=some n/\V.int n=x by
     cases q:zs[i]? with
     | none=>rw [q] at hx;cases hx
     | some n=>rw [q] at hx;cases hx;exact ⟨n,rfl,rfl⟩)
    refine ⟨_,rfl,_,rfl,?_⟩;refine ZW (fE.of (s' _ _ e7)) ?_;refine gS hS (aX (show zs.sum.natAbs<2^10 by show zs.sum.natAbs<1024;omega) (bB yd yd)) ?_;intro q9 H9 hq9 e9 s9;exact k' _ H9 s9 ⟨n,hn',dU e9⟩
   ·refine ⟨D3,ys,rfl,.inl ⟨fE.of hD8,λl hl=>?_⟩⟩;have sl:=aQ.upd (o:=.tup ys) hl;have el:(upd H8 l (.tup ys)) l=some (.tup ys):=bK;generalize upd H8 l (.tup ys)=H9 at sl el;refine k _ (zs.map λn=>lw n zs.sum) H9 ((F7.same s8).same sl) (SF.trans (s8.trans sl).but) (cB.tup el ?_) (lt ▸ okS);refine bF.ofIdx (by rw [hy8,aA,aA,aA]) λi y hi=>?_;obtain ⟨n,h1,h2⟩:=hr8 i y hi;exact ⟨eQ (lw n zs.sum),by rw [aI,aI,h1];rfl,h2.same sl⟩
theorem oH{x:Int}(h:0<=x):∃t:Nat,x=(t:Int):=⟨x.toNat,Oo⟩
theorem aAB(F:jA K "_law_trial" "_law_trial" NG f fd)(T:kO K mg c)
  (FQ4:gB dR P w K mg base 1 "_law_draw" ["_law_feed_here","_law_many"] iH) (FQ13:gB dR P w K mg base 2 "_law_shares" ["_law_feed_here","_law_many"] kX):eJ P w K mg base dR 3 f fd ["_law_feed_here"] mU:=by
 refine F.oky HL λvs H Q E h=>?_;unfold mU at h;obtain ⟨p,L,rfl,F,k⟩:=h;refine ⟨rfl,λcdv A outer s hr=>?_⟩;refine ⟨_,(aL (bL (i:=1) HL.nd rfl (Or.inl rfl) (eR (aJ jD (aJ jD (aJ jD (aJ jD (aJ jD (aJ jD (aJ jD (aJ jD (aJ jD (aJ jD (aJ jD (aJ jD aE))))))))))))))
  (aL (bL (i:=2) HL.nd rfl (Or.inl rfl) (bQ FQ4 (hr.mono yd) (aJ (aG 0) (aJ aD aE))))
  (aL (bL (i:=1) HL.nd rfl (Or.inl rfl) (bT UQ (gP (nB K) (aG 1) (iR (aG 2)) iS) (gP (nB K) (aG 1) iS (iR (aG 2)))))
  (aL (bL (i:=3) HL.nd rfl (Or.inr rfl) (gP (nB K) (aG 1) iS (iR (aW aR (eR (aJ aD (aJ aD (aJ aD (aJ aD aE))))) (bQ FQ4 (hr.mono yd) (aJ (aG 0) (aJ aD aE))) (λ_ _=>rfl)))))
  (aL (bL (i:=4) HL.nd rfl (Or.inl rfl) (gP (nB K) (gP (nB K) (aG 1) (iR (aW aR (eR (aJ aD (aJ aD (aJ aD aE)))) (bQ FQ4 (hr.mono yd) (aJ (aG 0) (aJ aD aE))) (λ_ _=>rfl))) iS) iS (iR (aW aR (eR (aJ aD (aJ aD (aJ aD (aJ aD aE))))) (bQ FQ4 (hr.mono yd) (aJ (aG 0) (aJ aD aE))) (λ_ _=>rfl)))))
  (bA (cH (dZ (aJ (jF dL (by rfl) T.b_tuple Kk (aJ (aG 3) aE)) (aJ (jF dL (by rfl) T.b_tuple Kk (aJ (fG (dM.of (psc:=aT NG) (N:=["_law_feed_here","_law_pool","_law_turn","_law_faces","_law_ways"]) (N':=["_law_name","_law_feed_here","_law_faces"]) (js:=[0,3]) Kk rfl rfl rfl) (fF (aG 4)) (λ_ _ _ _=>eI) (λ_ _ _ _=>(dZ (aJ (aG 0) (aJ (bQ FQ13 (hr.mono yd) (aJ (aG 1) (aJ (eU (PM K) (by rfl) T.b_len Kk (aJ (aG 2) aE)) aE))) aE))))) aE)) aE)))))))))),?_⟩
 refine sT (by show 12<=64;decide) λq1 H1 hq1 e1 s1=>?_;have e1':H1 q1=some (.lst (pool.map V.str)):=e1;refine ⟨_,rfl,?_⟩;refine dB (F.same s1) yd Kk λx H2 x0 x1 F2 s2=>?_;obtain ⟨t,rfl⟩:=oH x0;have e2:=s2.at (F.ne hq1) e1';have S2:aN p H H2:=s1.but.trans s2;refine ⟨_,rfl,_,rfl,_,rfl,?_⟩;refine WZ e2 (ys:=(pool.drop t).map V.str) (by rw [xV,List.map_drop]) λq3 H3 hq3 e3 s3=>?_;refine ⟨_,rfl,_,rfl,_,rfl,?_⟩;refine WZ (s3 _ _ e2) (ys:=(pool.take t).map V.str) (by rw [sW,List.map_take]) λq4 H4 hq4 e4 s4=>?_;have hp12:pool.length=12:=rfl;refine aAR (s4 _ _ e3) e4 (by rw [aA,aA,List.length_drop,bP];omega) λq5 H5 hq5 e5 s5=>?_;have e5':H5 q5=some (.lst ((rot t).map V.str)):=by rw [e5];unfold rot;rw [bN]
 have ht:t<12:=Oo;have S5:aN p H H5:=S2.trans ((s3.trans s4).trans s5).but;have F5:=((F2.same s3).same s4).same s5;have n5:q5≠p:=((F2.same s3).same s4).ne hq5;clear e1 e1' e2 e3 e4 e5 s3 s4 s5 hq3 hq4 hq1 s1 s2;refine ⟨_,rfl,?_⟩;refine sT (by show 4<=64;decide) λq6 H6 hq6 e6 s6=>?_;refine ⟨_,rfl,?_⟩;refine dB (F5.same s6) yd Kk λy H7 y0 y1 F7 s7=>?_;obtain ⟨v,hat,hmem,_⟩:=sX (xs:=[V.int 2,V.int 2,V.int 3,V.int 4]) y0 y1;refine kC (s7.at (F5.ne hq6) e6) hat ?_;have hv:∃n:Nat,v=.int (n:Int)/\(n=2\/n=3\/n=4):=by
  simp only [bE,List.not_mem_nil,or_false] at hmem;rcases hmem with rfl | rfl | rfl | rfl
  ·exact ⟨2,rfl,yd⟩
  ·exact ⟨2,rfl,yd⟩
  ·exact ⟨3,rfl,yd⟩
  ·exact ⟨4,rfl,yd⟩
 obtain ⟨nF,rfl,hF⟩:=hv;have e7:=s7.at n5 (s6 _ _ e5');refine ⟨_,rfl,?_⟩;refine WZ e7 (ys:=((rot t).take nF).map V.str) (by rw [sW,List.map_take]) λq8 H8 hq8 e8 s8=>?_;have S8:aN p H H8:=((S5.trans s6.but).trans s7).trans s8.but;have F8:=F7.same s8;have n8:q8≠p:=F7.ne hq8;have e8p:=s8 _ _ e7;clear e6 hq6 s6 s7 hat hmem e7 e5';refine ⟨_,rfl,?_⟩;refine sT (by show 3<=64;decide) λq9 H9 hq9 e9 s9=>?_;refine ⟨_,rfl,?_⟩;refine dB (F8.same s9) yd Kk λz H10 z0 z1 F10 s10=>?_;obtain ⟨v,hat,hmem,_⟩:=sX (xs:=[V.int 0,V.int 2,V.int 5]) z0 z1;refine kC (s10.at (F8.ne hq9) e9) hat ?_;have hv:∃n:Nat,v=.int (n:Int)/\(n=0\/n=2\/n=5):=by
  simp only [bE,List.not_mem_nil,or_false] at hmem;rcases hmem with rfl | rfl | rfl
  ·exact ⟨0,rfl,yd⟩
  ·exact ⟨2,rfl,yd⟩
  ·exact ⟨5,rfl,yd⟩
 obtain ⟨o,rfl,ho⟩:=hv;refine ⟨_,rfl,?_⟩;refine WZ (s10.at n5 (s9 _ _ e8p)) (ys:=((rot t).drop o).map V.str) (by rw [xV,List.map_drop]) λq11 H11 hq11 e11 s11=>?_;have F11:=F10.same s11;have n11:q11≠p:=F10.ne hq11;have e11f:=s11 _ _ (s10.at n8 (s9 _ _ e8));have S11:aN p H H11:=((S8.trans s9.but).trans s10).trans s11.but;clear e9 hq9 s9 s10 hat hmem;refine sT (by show 4<=64;decide) λq12 H12 hq12 e12 s12=>?_;refine ⟨_,rfl,?_⟩;refine dB (F11.same s12) yd Kk λy H13 y0 y1 F13 s13=>?_;obtain ⟨v,hat,hmem,_⟩:=sX (xs:=[V.int 2,V.int 2,V.int 3,V.int 4]) y0 y1;refine kC (s13.at (F11.ne hq12) e12) hat ?_;have hv:∃n:Nat,v=.int (n:Int)/\(n=2\/n=3\/n=4):=by
  simp only [bE,List.not_mem_nil,or_false] at hmem;rcases hmem with rfl | rfl | rfl | rfl
  ·exact ⟨2,rfl,yd⟩
  ·exact ⟨2,rfl,yd⟩
  ·exact ⟨3,rfl,yd⟩
  ·exact ⟨4,rfl,yd⟩
 obtain ⟨nW,rfl,hW⟩:=hv;refine ⟨_,rfl,?_⟩;refine WZ (s13.at n11 (s12 _ _ e11)) (ys:=(((rot t).drop o).take nW).map V.str) (by rw [sW,List.map_take]) λq14 H14 hq14 e14 s14=>?_;have F14:=F13.same s14;have n14:q14≠p:=F13.ne hq14;have e14f:=s14 _ _ (s13.at n8 (s12 _ _ e11f));have S14:aN p H H14:=((S11.trans s12.but).trans s13).trans s14.but;clear e12 hq12 s12 s13 hat hmem e11 e11f;have lr:=xG ht;refine ⟨_,rfl,q8,_,rfl,.inl ⟨fE.of e14f,λl hl=>?_⟩⟩;have sl:=aQ.upd (o:=.tup (((rot t).take nF).map V.str)) hl;have el:(upd H14 l (.tup (((rot t).take nF).map V.str))) l=some (.tup (((rot t).take nF).map V.str)):=bK;generalize upd H14 l (.tup (((rot t).take nF).map V.str))=H15 at sl el;have F15:=F14.same sl;refine ⟨_,rfl,q14,rfl,⟨_,fE.of (sl _ _ e14)⟩,?_⟩;refine LF (bY.like p L) F15 (λi y H'=>∃w:Str × List Fr,(((rot t).drop o).take nW)[i]?=some w.1/\CM nF w.2/\cB H' (wD w) y) (λi y H1 H2 s ⟨w,h1,h2,h3⟩=>⟨w,h1,h2,h3.flat s (DA _)⟩) (by rw [aA,bP];omega) n14 (sl _ _ e14) (λi x H' Q' hx F' s' k'=>?_) (λD ys H16 hD hD16 F16 s16 hy16 hr16=>?_)
 ·rw [aI] at hx;obtain ⟨nm,hn',rfl⟩:=(show ∃n,(((rot t).drop o).take nW)[i]?=some n/\V.str n=x by
   cases q:(((rot t).drop o).take nW)[i]? with
   | none=>rw [q] at hx;cases hx
   | some n=>rw [q] at hx;cases hx;exact ⟨n,rfl,rfl⟩)
  refine ⟨_,rfl,_,rfl,_,rfl,?_⟩;refine TK (s'.at n8 (sl _ _ e14f)) ?_;have lf:(((rot t).take nF).map V.str).length=nF:=by rw [aA,bP];omega
  rw [lf];refine yT F' Oo Oo λv fs H17 F17 s17 r17 ok17=>?_;refine qH (by show 2<=64;decide) λq18 H18 hq18 e18 s18=>?_;exact k' _ H18 (F17.same s18) (s17.trans s18.but) ⟨(nm,fs),hn',ok17,cB.tup e18 (bF.cons (cB.str _) (bF.cons (r17.same s18) bF.nil))⟩
 ·refine ⟨D,ys,rfl,.inl ⟨fE.of hD16,λl2 hl2=>?_⟩⟩;have sl2:=aQ.upd (o:=.tup ys) hl2;have el2:(upd H16 l2 (.tup ys)) l2=some (.tup ys):=bK;generalize upd H16 l2 (.tup ys)=H17 at sl2 el2;have elf:H17 l=some (.tup (((rot t).take nF).map V.str)):=sl2 _ _ (s16.at (F14.ne hl) el);refine qH (by show 2<=64;decide) λq18 H18 hq18 e18 s18=>?_;have hws:∀(n:Nat) (ys:List V),ys.length=n->(∀(i:Nat) y,ys[i]?=some y->∃w:Str × List Fr,(((rot t).drop o).take nW)[i]?=some w.1/\CM nF w.2/\cB H16 (wD w) y) ->
    ∃ws:List (Str × List Fr),ws.length=n/\bF H16 (ws.map wD) ys/\(∀(i:Nat) w,ws[i]?=some w->(((rot t).drop o).take nW)[i]?=some w.1)/\∀w∈ws,CM nF w.2:=by
   generalize ((rot t).drop o).take nW=nl;intro n
   induction n generalizing nl with
   | zero =>
    intro ys hl _;cases ys with
    | nil=>exact ⟨[],rfl,bF.nil,λi w h=>by simp at h,λw h=>by cases h⟩
    | cons _ _=>simp at hl
   | succ n ih =>
    intro ys hl h;cases ys with
    | nil=>simp at hl
    | cons y ys =>
     obtain ⟨w,h1,h2,h3⟩:=h 0 y rfl;obtain ⟨ws,i1,i2,i3,i4⟩:=ih nl.tail ys (by simpa using hl) λi z hz=>by
      obtain ⟨w,h1,h2,h3⟩:=h (i+1) z (by simpa using hz);exact ⟨w,by rw [List.getElem?_tail];exact h1,h2,h3⟩
     refine ⟨w::ws,by simp [i1],bF.cons h3 i2,λi v hv=>?_,λv hv=>?_⟩
     ·cases i with
      | zero=>cases (show w=v by simpa using hv);exact h1
      | succ i =>
       have:=i3 i v (by simpa using hv);rw [List.getElem?_tail] at this;exact this
     ·rcases bE.mp hv with rfl | hv
      ·exact h2
      ·exact i4 v hv
  obtain ⟨ws,w1,w2,w3,w4⟩:=hws _ ys rfl hr16;have lnl:(((rot t).drop o).take nW).length=nW:=by
   rw [bP,List.length_drop,lr];omega
  have lws:ws.length=nW:=by rw [w1,hy16,aA,lnl]
  refine k _ t o nF nW ((rot t).take nF) ws H18 ((F16.same sl2).same s18) ?_ ?_ ⟨ht,ho,hF,hW,rfl,?_,w4⟩
  ·exact (S14.trans sl.but).trans (s16.trans (sl2.trans s18).but)
  ·exact cB.tup e18 (bF.cons (cB.tup (s18 _ _ elf) (wG _)) (bF.cons (cB.tup (s18 _ _ el2) (w2.same (sl2.trans s18))) bF.nil))
  ·apply List.ext_getElem?;intro i;rw [aI];cases q:ws[i]? with
   | none =>
    have:nW<=i:=by rw [<-lws];exact List.getElem?_eq_none_iff.mp q
    rw [dI Oo];rfl
   | some w=>rw [w3 i w q];rfl
end
abbrev SZ:Stmt:=(top 1)
theorem HJ:bW ["number","above_nought","divided","divisor","rest"] ["number","above_nought"] (aT SZ):=⟨rfl,rfl,rfl,Kk,rfl,Kk,Kk⟩
abbrev SS:Stmt:=(top 3)
theorem HI:bW ["one","other","common","one_part","other_part","upper","left"] ["one","other"] (aT SS):=⟨rfl,rfl,rfl,Kk,rfl,Kk,Kk⟩
abbrev SV:Stmt:=(top 4)
theorem aA2:bW ["one","other"] ["one","other"] (aT SV):=⟨rfl,rfl,rfl,Kk,rfl,Kk,Kk⟩
abbrev SN:Stmt:=(top 5)
theorem VR:bW ["one","other","first","second"] ["one","other"] (aT SN):=⟨rfl,rfl,rfl,Kk,rfl,Kk,Kk⟩
abbrev SM:Stmt:=(top 7)
theorem PQ:bW ["some","whole","one"] ["some"] (aT SM):=⟨rfl,rfl,rfl,Kk,rfl,Kk,Kk⟩
abbrev SK:Stmt:=(top 12)
theorem aAT:bW ["trial"] ["trial"] (aT SK):=⟨rfl,rfl,rfl,Kk,rfl,Kk,Kk⟩
abbrev SL:Stmt:=(top 13)
theorem aAU:bW ["trial","way"] ["trial","way"] (aT SL):=⟨rfl,rfl,rfl,Kk,rfl,Kk,Kk⟩
abbrev SJ:Stmt:=(top 15)
theorem LN:bW ["trial","way","counts","product","share","count"] ["trial","way","counts"] (aT SJ):=⟨rfl,rfl,rfl,Kk,rfl,Kk,Kk⟩
abbrev SR:Stmt:=(top 16)
theorem HH:bW ["share","count","upper","lower","step"] ["share","count"] (aT SR):=⟨rfl,rfl,rfl,Kk,rfl,Kk,Kk⟩
abbrev ST:Stmt:=(top 18)
theorem aAZ:bW ["counts","face"] ["counts","face"] (aT ST):=⟨rfl,rfl,rfl,Kk,rfl,Kk,Kk⟩
abbrev NB:Stmt:=(top 19)
theorem aAY:bW ["counts"] ["counts"] (aT NB):=⟨rfl,rfl,rfl,Kk,rfl,Kk,Kk⟩
theorem nH.of{H H1:Hp}{Q:VK}{f:Fr}(s:aQ H H1)(q:nH H Q f):nH H1 Q f:=λp H' hp e s'=>q p H' (s.free hp) e (s.trans s')
@[irreducible] def gQ(K:PySem.W.Frag):Sp:=λvs H Q _=>∃x y f g,vs=[x,y]/\fP K H f x/\fP K H g y/\cT f/\cT g/\iZ 4000 f/\iZ 4000 g/\nH H Q (lX f g)
theorem jP{K:PySem.W.Frag}{H:Hp}{Q:VK}{E:XK}{x y:V}{f g:Fr}(h1:fP K H f x)(h2:fP K H g y)(l1:cT f)(l2:cT g)(z1:iZ 4000 f)(z2:iZ 4000 g)(q:nH H Q (lX f g)):gQ K [x,y] H Q E:=by unfold gQ;exact ⟨x,y,f,g,rfl,h1,h2,l1,l2,z1,z2,q⟩
def xM(f:Fr):Fr:=(-f.1,f.2)
theorem tR{f:Fr}(h:cT f):cT (xM f):=⟨h.pos,by show Int.gcd (-f.1) f.2=1;rw [Int.neg_gcd];exact h.low⟩
@[irreducible] def iG(K:PySem.W.Frag):Sp:=λvs H Q _=>∃x y f g,vs=[x,y]/\fP K H f x/\fP K H g y/\cT f/\cT g/\iZ 4000 f/\iZ 4000 g/\nH H Q (lK f (xM g))
theorem lS{K:PySem.W.Frag}{H:Hp}{Q:VK}{E:XK}{x y:V}{f g:Fr}(h1:fP K H f x)(h2:fP K H g y)(l1:cT f)(l2:cT g)(z1:iZ 4000 f)(z2:iZ 4000 g)(q:nH H Q (lK f (xM g))):iG K [x,y] H Q E:=by unfold iG;exact ⟨x,y,f,g,rfl,h1,h2,l1,l2,z1,z2,q⟩
theorem aAx(F:jA K "common_divisor" "common_divisor" SZ f fd)(T:kO K mg c):eJ P w K mg base dR 1 f fd ["number","above_nought"] vH:=by
 refine F.oky HJ λvs H Q E h=>?_;unfold vH at h;obtain ⟨n,d,rfl,hd,q⟩:=h;refine ⟨rfl,λcdv A outer s hr=>?_⟩;refine ⟨_,(aL (bL (i:=2) HJ.nd rfl (Or.inl rfl) (aG 0))
  (aL (bL (i:=3) HJ.nd rfl (Or.inl rfl) (aG 1))
  (aL (oN PassesOwn.never (fW vN (aG 3) aD (nomark _)) (aL (bL (i:=4) HJ.nd rfl (Or.inl rfl) (bT kJ (aG 2) (aG 3)))
  (aL (bL (i:=2) HJ.nd rfl (Or.inl rfl) (aG 3))
  (bA (bL (i:=3) HJ.nd rfl (Or.inl rfl) (aG 4))))))
  (bA (cH (aG 2)))))),?_⟩
 refine ⟨_,rfl,_,rfl,?_⟩;refine sO (λm σ H'=>∃(a b:Int) (c:Option V),σ=[some (.int n),some (.int d),some (.int a),some (.int b),c]/\0<=b/\Int.gcd a b=Int.gcd n d/\(b=0->0<a)/\H'=H/\m=b.toNat)
  (λσ H'=>∃(c:Option V),σ=[some (.int n),some (.int d),some (.int (Int.gcd n d)),some (.int 0),c]/\H'=H)
  _ ⟨n,d,none,rfl,Oo,rfl,Oo,rfl,rfl⟩ ?_ ?_
 ·rintro m σ H2 ⟨a,b,c,rfl,hb,hg,h0,rfl,rfl⟩;refine ⟨_,rfl,rfl,_,rfl,?_⟩;refine QZ (λe=>?_) (λe=>?_)
  ·have hb':0<b:=by
    rcases Int.lt_or_eq_of_le hb with h | h
    ·exact h
    ·exact absurd (congrArg V.int h.symm) e
   refine ⟨_,rfl,_,rfl,_,_,rfl,rfl,hb',_,rfl,_,rfl,?_⟩;have e1:=Int.emod_lt_of_pos a hb';have e2:=Int.emod_nonneg a (b:=b) Oo;exact ⟨_,Oo,b,a % b,_,rfl,e2,by rw [AA,hg],λ_=>hb',rfl,rfl⟩
  ·have hb0:b=0:=by injection e
   subst hb0;have ha:=h0 rfl;have e1:=EM ha;rw [hg] at e1;rw [e1];exact ⟨c,rfl,rfl⟩
 ·rintro σ H2 ⟨c,rfl,rfl⟩;exact ⟨_,rfl,q⟩
theorem aAm(F:jA K "plus" "plus" SS f fd)(T:kO K mg c)
  (FQ18:gB dR P w K mg base 1 "common_divisor" ["number","above_nought"] vH):eJ P w K mg base dR 2 f fd ["one","other"] (lR K):=by
 refine F.oky HI λvs H Q E h=>?_;unfold lR at h;obtain ⟨x,y,⟨a,b⟩,⟨c,d⟩,rfl,h1,h2,l1,l2,z1,z2,q⟩:=h;refine ⟨rfl,λcdv A outer s hr=>?_⟩;obtain ⟨p1,rfl,e1⟩:=h1;obtain ⟨p2,rfl,e2⟩:=h2;have pb:0<b:=l1.pos;have pd:0<d:=l2.pos;obtain ⟨za,zb⟩:=z1;obtain ⟨zc,zd⟩:=z2;dsimp only at za zb zc zd e1 e2;have hG:=hU (n:=b) pd;have zG:=uB (n:=b) pd zd;have zb':=oD zb hG;have zd':=oD zd hG;have u1:=tF za zd';have u2:=tF zc zb';have hL:=hU (n:=a*(d/(Int.gcd b d:Int))+c*(b/(Int.gcd b d:Int))) hG;have zL:=uB (n:=a*(d/(Int.gcd b d:Int))+c*(b/(Int.gcd b d:Int))) hG zG;have eq:lK (a,b) (c,d)=_:=NY l1 l2;refine ⟨_,(aL (bL (i:=2) HI.nd rfl (Or.inl rfl) (bQ FQ18 (hr.mono yd) (aJ (aW aR (aG 0) aD (λ_ _=>rfl)) (aJ (aW aR (aG 1) aD (λ_ _=>rfl)) aE))))
  (aL (bL (i:=3) HI.nd rfl (Or.inl rfl) (bT gE (aW aR (aG 0) aD (λ_ _=>rfl)) (aG 2)))
  (aL (bL (i:=4) HI.nd rfl (Or.inl rfl) (bT gE (aW aR (aG 1) aD (λ_ _=>rfl)) (aG 2)))
  (aL (bL (i:=5) HI.nd rfl (Or.inl rfl) (bT eS (bT dC (aW aR (aG 0) aD (λ_ _=>rfl)) (aG 4)) (bT dC (aW aR (aG 1) aD (λ_ _=>rfl)) (aG 3))))
  (aL (bL (i:=6) HI.nd rfl (Or.inl rfl) (bQ FQ18 (hr.mono yd) (aJ (aG 5) (aJ (aG 2) aE))))
  (bA (cH (dZ (aJ (bT gE (aG 5) (aG 6)) (aJ (bT dC (aG 3) (bT gE (aW aR (aG 1) aD (λ_ _=>rfl)) (aG 6))) aE)))))))))),?_⟩
 refine ⟨_,rfl,?_⟩;refine nM e1 rfl ?_;refine ⟨_,rfl,?_⟩;refine nM e2 rfl ?_;refine sQ pd ?_;refine ⟨_,rfl,?_⟩;refine nM e1 rfl ?_;refine ⟨_,rfl,_,_,rfl,rfl,pW hG (iE zG),?_⟩;refine ⟨_,rfl,?_⟩;refine nM e2 rfl ?_;refine ⟨_,rfl,_,_,rfl,rfl,pW hG (iE zG),?_⟩;refine ⟨_,rfl,?_⟩;refine nM e1 rfl ?_;refine ⟨_,rfl,_,_,rfl,rfl,lH za zd',?_⟩;refine ⟨_,rfl,?_⟩;refine nM e2 rfl ?_;refine ⟨_,rfl,_,_,rfl,rfl,lH zc zb',_,_,rfl,rfl,?_⟩;refine ⟨_,rfl,_,rfl,?_⟩;refine sQ hG ?_;refine ⟨_,rfl,_,rfl,_,_,rfl,rfl,pW hL (iE zL),?_⟩;refine ⟨_,rfl,_,rfl,?_⟩;refine nM e2 rfl ?_;refine ⟨_,rfl,_,_,rfl,rfl,pW hL (iE zL),_,_,rfl,rfl,lH zb' (oD zd hL),?_⟩;refine qH (by show 2<=64;decide) λp H3 hp e3 s3=>?_;refine q p H3 hp ?_ s3;rw [eq];exact e3
theorem aAh(F:jA K "times" "times" SN f fd)(T:kO K mg c)
  (FQ18:gB dR P w K mg base 1 "common_divisor" ["number","above_nought"] vH):eJ P w K mg base dR 2 f fd ["one","other"] (gQ K):=by
 refine F.oky VR λvs H Q E h=>?_;unfold gQ at h;obtain ⟨x,y,⟨a,b⟩,⟨m,d⟩,rfl,h1,h2,l1,l2,⟨za,zb⟩,⟨zc,zd⟩,q⟩:=h;refine ⟨rfl,λcdv A outer s hr=>?_⟩;obtain ⟨p1,rfl,e1⟩:=h1;obtain ⟨p2,rfl,e2⟩:=h2;have pb:0<b:=l1.pos;have pd:0<d:=l2.pos;dsimp only at za zb zc zd e1 e2;have g1:=hU (n:=a) pd;have g2:=hU (n:=m) pb;have y1:=uB (n:=a) pd zd;have y2:=uB (n:=m) pb zb;have eq:lX (a,b) (m,d)=_:=IR l1 l2;refine ⟨_,(aL (bL (i:=2) VR.nd rfl (Or.inl rfl) (bQ FQ18 (hr.mono yd) (aJ (aW aR (aG 0) aD (λ_ _=>rfl)) (aJ (aW aR (aG 1) aD (λ_ _=>rfl)) aE))))
  (aL (bL (i:=3) VR.nd rfl (Or.inl rfl) (bQ FQ18 (hr.mono yd) (aJ (aW aR (aG 1) aD (λ_ _=>rfl)) (aJ (aW aR (aG 0) aD (λ_ _=>rfl)) aE))))
  (bA (cH (dZ (aJ (bT dC (bT gE (aW aR (aG 0) aD (λ_ _=>rfl)) (aG 2)) (bT gE (aW aR (aG 1) aD (λ_ _=>rfl)) (aG 3))) (aJ (bT dC (bT gE (aW aR (aG 0) aD (λ_ _=>rfl)) (aG 3)) (bT gE (aW aR (aG 1) aD (λ_ _=>rfl)) (aG 2))) aE))))))),?_⟩
 refine ⟨_,rfl,?_⟩;refine nM e1 rfl ?_;refine ⟨_,rfl,?_⟩;refine nM e2 rfl ?_;refine sQ pd ?_;refine ⟨_,rfl,?_⟩;refine nM e2 rfl ?_;refine ⟨_,rfl,?_⟩;refine nM e1 rfl ?_;refine sQ pb ?_;refine ⟨_,rfl,?_⟩;refine nM e1 rfl ?_;refine ⟨_,rfl,_,_,rfl,rfl,pW g1 (iE y1),?_⟩;refine ⟨_,rfl,?_⟩;refine nM e2 rfl ?_;refine ⟨_,rfl,_,_,rfl,rfl,pW g2 (iE y2),_,_,rfl,rfl,lH (oD za g1) (oD zc g2),?_⟩;refine ⟨_,rfl,?_⟩;refine nM e1 rfl ?_;refine ⟨_,rfl,_,_,rfl,rfl,pW g2 (iE y2),?_⟩;refine ⟨_,rfl,?_⟩;refine nM e2 rfl ?_;refine ⟨_,rfl,_,_,rfl,rfl,pW g1 (iE y1),_,_,rfl,rfl,lH (oD zb g2) (oD zd g1),?_⟩;refine qH (by show 2<=64;decide) λp H3 hp e3 s3=>?_;refine q p H3 hp ?_ s3;rw [eq];exact e3
theorem aAr(F:jA K "less" "less" SV f fd)(T:kO K mg c)
  (FQ29:gB dR P w K mg base 2 "plus" ["one","other"] (lR K)):eJ P w K mg base dR 3 f fd ["one","other"] (iG K):=by
 refine F.oky aA2 λvs H Q E h=>?_;unfold iG at h;obtain ⟨x,y,f,g,rfl,h1,h2,l1,l2,z1,z2,q⟩:=h;refine ⟨rfl,λcdv A outer s hr=>?_⟩;obtain ⟨p2,rfl,e2⟩:=h2;refine ⟨_,(bA (cH (bQ FQ29 (hr.mono yd) (aJ (aG 0) (aJ (dZ (aJ (IK BE (aW aR (aG 1) aD (λ_ _=>rfl))) (aJ (aW aR (aG 1) aD (λ_ _=>rfl)) aE))) aE))))),?_⟩;refine ⟨_,rfl,_,rfl,?_⟩;refine nM e2 rfl ?_;refine ⟨_,rfl,?_⟩;refine ⟨_,rfl,?_⟩;refine nM e2 rfl ?_;refine qH (by show 2<=64;decide) λp H3 hp e3 s3=>?_;refine qL (fP.same s3 h1) (fP.new (f:=xM g) e3) l1 (tR l2) z1 ⟨by show (-g.1).natAbs<_;rw [Int.natAbs_neg];exact z2.1,z2.2⟩ ?_;exact q.of s3
theorem rW{N B:Nat}{f:Fr}(h:Fn N B f)(hN:0<N)(hz:N<2^3000)(hB:B<=2^500):iZ 4000 f:=by
 obtain ⟨h1,h2⟩:=h.num hN;refine ⟨?_,bJ h2 (aX hz (bB yd yd))⟩;have h3:B*N<=2^500*2^3000:=Nat.mul_le_mul hB (Nat.le_of_lt hz);have h4:(2:Nat)^500*2^3000<2^4000:=by rw [<-Nat.pow_add];exact Nat.pow_lt_pow_right yd yd
 omega
structure LU(fs:List Fr):Prop where
 low:∀f∈fs,cT f
 sz:∀f∈fs,iZ 4000 f
 part:∀i,cT (oC (fs.take i))/\iZ 4000 (oC (fs.take i))
theorem LZ{N B:Nat}{fs:List Fr}(h:∀f∈fs,Fn N B f)(hN:0<N)(hz:N<2^3000)(hl:fs.length<=64)(hB:B<=2^490):LU fs:=by
 have h5:(2:Nat)^490<=2^500:=bB yd yd;have h6:64*(2:Nat)^490<=2^500:=by rw [show (64:Nat)=2^6 from rfl,<-Nat.pow_add];exact bB yd yd
 refine ⟨λf hf=>(h f hf).low,λf hf=>rW (h f hf) hN hz (aZ hB h5),λi=>?_⟩;have t:=Fn.tot (fs.take i) λf hf=>h f (List.mem_of_mem_take hf);have l:(fs.take i).length<=64:=by rw [bP];omega
 have:(fs.take i).length*B<=64*2^490:=Nat.mul_le_mul l hB;exact ⟨t.low,rW t hN hz (aZ this h6)⟩
structure LY(K:PySem.W.Frag)(H:Hp)(fs:List Fr)(xs:List V):Prop where
 len:xs.length=fs.length
 at_:∀(i:Nat) (x:V),xs[i]?=some x->∃f,fs[i]?=some f/\fP K H f x
theorem LY.of{K:PySem.W.Frag}{H:Hp}{fs:List Fr}{xs:List V}(r:bF H (fs.map eQ) xs):LY K H fs xs:=⟨eF r,λi x e=>by
 obtain ⟨f,h1,h2⟩:=dQ r e;exact ⟨f,h1,fP.of h2⟩⟩
@[irreducible] def mV(K:PySem.W.Frag):Sp:=λvs H Q _=>∃a xs fs,vs=[.ref a]/\H a=some (.lst xs)/\LY K H fs xs/\LU fs/\∀v H',aQ H H'->cB H' (eQ (oC fs)) v->Q v H'
theorem BM{K:PySem.W.Frag}{H:Hp}{Q:VK}{E:XK}{a:Addr}{xs:List V}{fs:List Fr}(h:H a=some (.lst xs))(r:LY K H fs xs)(ok:LU fs)(q:∀v H',aQ H H'->cB H' (eQ (oC fs)) v->Q v H'):mV K [.ref a] H Q E:=by unfold mV;exact ⟨a,xs,fs,rfl,h,r,ok,q⟩
section
theorem aAf(F:jA K "total" "total" SM f fd)(T:kO K mg c)
  (FQ29:gB dR P w K mg base 2 "plus" ["one","other"] (lR K)):eJ P w K mg base dR 3 f fd ["some"] (mV K):=by
 refine F.oky PQ λvs H Q E h=>?_;unfold mV at h;obtain ⟨a,vs,fs,rfl,ha,hv,ok,q⟩:=h;refine ⟨rfl,λcdv A outer s hr=>?_⟩;have hlen:=hv.len;refine ⟨_,(aL (bL (i:=1) PQ.nd rfl (Or.inl rfl) (dZ (aJ aD (aJ aD aE))))
  (aL (eP PassesOwn.never rfl (fF (aG 0)) (cW (i:=2) PQ.nd rfl (Or.inl rfl)) (bA (bL (i:=1) PQ.nd rfl (Or.inl rfl) (bQ FQ29 (hr.mono yd) (aJ (aG 1) (aJ (aG 2) aE))))))
  (bA (cH (aG 1))))),?_⟩
 refine qH (by show 2<=64;decide) λp0 H0 hp0 e0 s0=>?_;refine ⟨_,rfl,a,rfl,⟨_,fE.of (s0 _ _ ha)⟩,?_⟩;refine iJ (xs:=vs) (λi σ H'=>∃w o2,σ=[some (.ref a),some w,o2]/\aQ H H'/\cB H' (eQ (oC (fs.take i))) w) ⟨_,_,rfl,s0,dU e0⟩ (λi σ H' _ p=>?_) ?_ ?_
 ·obtain ⟨w,o2,rfl,s1,_⟩:=p;exact fE.of (s1 _ _ ha)
 ·rintro i x σ H1 hx ⟨w,o2,rfl,s1,r1⟩;obtain ⟨g,hg,rg⟩:=hv.at_ i x hx;have hm:=aM hg;obtain ⟨t1,t2⟩:=ok.part i;refine ⟨_,rfl,_,rfl,?_⟩;refine qL (fP.of r1) (fP.same s1 rg) t1 (ok.low _ hm) t2 (ok.sz _ hm) ?_;intro p2 H2 hp2 e2 s2;refine ⟨_,_,rfl,s1.trans s2,?_⟩;rw [eO hg,kR];exact dU e2
 ·rintro σ H1 ⟨w,o2,rfl,s1,r1⟩;refine ⟨_,rfl,?_⟩;rw [hlen,bG] at r1;exact q _ H1 s1 r1
end
abbrev mL(cs:List Nat):PyData:=.tuple (cs.map λ(n:Nat)=>PyData.int (n:Int))
theorem AJ:∀cs:List Nat,dO (cs.map λ(n:Nat)=>PyData.int (n:Int))=true
 | []=>rfl
 | f::fs=>by show (eN (.int f)&&dO (fs.map λ(n:Nat)=>PyData.int (n:Int)))=true;rw [AJ fs];rfl
theorem iY(cs:List Nat):eN (mL cs)=true:=AJ cs
def rV(K:PySem.W.Frag)(H:Hp)(f:Fr)(x:V):Prop:=cB H (eQ f) x\/∃a,x=.ref a/\oJ K a [f.1,f.2]=true
theorem rV.v{K:PySem.W.Frag}{H:Hp}{f:Fr}{x:V}(h:rV K H f x):fP K H f x:=by
 rcases h with h | ⟨a,e,h⟩
 ·exact fP.of h
 ·exact ⟨a,e,tG h⟩
theorem rV.t{K:PySem.W.Frag}{H H':Hp}{f:Fr}{x:V}(s:cQ H H')(h:rV K H f x):rV K H' f x:=by
 rcases h with h | h
 ·exact .inl (h.flat s (cF f))
 ·exact .inr h
theorem rV.same{K:PySem.W.Frag}{H H':Hp}{f:Fr}{x:V}(s:aQ H H')(h:rV K H f x):rV K H' f x:=h.t s.t
theorem vB{H:Hp}{fs:List Str}{ws:List (Str × List Fr)}{v:V}(h:cB H (uQ fs ws) v):∃a af aw xf xw,v=.ref a/\H a=some (.tup [.ref af,.ref aw])/\H af=some (.tup xf)/\H aw=some (.tup xw)/\bF H (fs.map .str) xf/\bF H (ws.map wD) xw:=by
 obtain ⟨a,xs,rfl,ha,hr⟩:=fX h;obtain ⟨x,y,rfl,hx,hy⟩:=kB hr;obtain ⟨af,xf,rfl,h1,h2⟩:=fX hx;obtain ⟨aw,xw,rfl,h3,h4⟩:=fX hy;exact ⟨a,af,aw,xf,xw,rfl,ha,h1,h3,h2,h4⟩
@[irreducible] def kW:Sp:=λvs H Q _=>∃v fs ws,vs=[v]/\cB H (uQ fs ws) v/\Q (.int (ws.length:Nat)) H
theorem yS{H:Hp}{Q:VK}{E:XK}{v:V}{fs:List Str}{ws:List (Str × List Fr)}(h:cB H (uQ fs ws) v)(q:Q (.int (ws.length:Nat)) H):kW [v] H Q E:=by unfold kW;exact ⟨v,fs,ws,rfl,h,q⟩
@[irreducible] def tH:Sp:=λvs H Q _=>∃v fs ws w,∃i:Nat,vs=[v,.int (i:Int)]/\cB H (uQ fs ws) v/\ws[i]?=some w/\∀x,cB H (xE w.2) x->Q x H
theorem JB{H:Hp}{Q:VK}{E:XK}{v:V}{fs:List Str}{ws:List (Str × List Fr)}{w:Str × List Fr}{i:Nat}(h:cB H (uQ fs ws) v)(hw:ws[i]?=some w)(q:∀x,cB H (xE w.2) x->Q x H):tH [v,.int (i:Int)] H Q E:=by unfold tH;exact ⟨v,fs,ws,w,i,rfl,h,hw,q⟩
structure YS(B:Nat)(fs:List Fr):Prop where
 low:∀f∈fs,cT f
 up:∀f∈fs,f.1.natAbs<=2^B
 dn:∀f∈fs,f.2.natAbs<=2^B
@[irreducible] def mW(K:PySem.W.Frag):Sp:=λvs H Q _=>∃x f,∃c B:Nat,vs=[x,.int (c:Int)]/\fP K H f x/\f.1.natAbs<=2^B/\f.2.natAbs<=2^B/\B<=4000/\c<=4000/\B*c<=4000/\nH H Q (qT f c)
theorem BN{K:PySem.W.Frag}{H:Hp}{Q:VK}{E:XK}{x:V}{f:Fr}{c B:Nat}(h:fP K H f x)(h1:f.1.natAbs<=2^B)(h2:f.2.natAbs<=2^B)(h3:B<=4000)(h5:c<=4000)(h4:B*c<=4000)(q:nH H Q (qT f c)):mW K [x,.int (c:Int)] H Q E:=by unfold mW;exact ⟨x,f,c,B,rfl,h,h1,h2,h3,h5,h4,q⟩
theorem xN{x:Int}{n:Nat}(h:x.natAbs<=2^n)(hn:n<=4000):x.natAbs<2^4001:=bJ h (Nat.pow_lt_pow_right yd Oo)
theorem IV{f:Fr}{n:Nat}(h1:f.1.natAbs<=2^n)(h2:f.2.natAbs<=2^n){k:Nat}(hk:n<k):iZ k f:=⟨bJ h1 (Nat.pow_lt_pow_right yd hk),bJ h2 (Nat.pow_lt_pow_right yd hk)⟩
@[irreducible] def kU(K:PySem.W.Frag):Sp:=λvs H Q _=>∃v cv fs ws w cs,∃i:Nat,vs=[v,.int (i:Int),cv]/\cB H (uQ fs ws) v/\ws[i]?=some w/\cB H (mL cs) cv/\YS 10 w.2/\cs.sum<=390/\∀x H',aQ H H'->rV K H' (nS (w.2.zip cs)) x->Q x H'
theorem yR{K:PySem.W.Frag}{H:Hp}{Q:VK}{E:XK}{v cv:V}{fs:List Str}{ws:List (Str × List Fr)}{w:Str × List Fr}{cs:List Nat}{i:Nat}(h:cB H (uQ fs ws) v)(hw:ws[i]?=some w)(hc:cB H (mL cs) cv)(ok:YS 10 w.2)(hs:cs.sum<=390)(q:∀x H',aQ H H'->rV K H' (nS (w.2.zip cs)) x->Q x H'):kU K [v,.int (i:Int),cv] H Q E:=by unfold kU;exact ⟨v,cv,fs,ws,w,cs,i,rfl,h,hw,hc,ok,hs,q⟩
theorem MI{α β:Type}{l:List α}{m:List β}{i:Nat}{a:α}{b:β}(h1:l[i]?=some a)(h2:m[i]?=some b):(l.zip m)[i]?=some (a,b):=by rw [List.getElem?_zip_eq_some];exact ⟨h1,h2⟩
theorem MH{α:Type}(l:List α)(m:List Nat)(i:Nat):(((l.zip m).take i).map (·.2)).sum<=m.sum:=by
 induction l generalizing m i with
 | nil=>simp
 | cons a l ih =>
  cases m with
  | nil=>simp
  | cons b m =>
   cases i with
   | zero=>simp
   | succ i =>
    have:=ih m i;simp only [List.zip_cons_cons,List.take_succ_cons,bI,List.sum_cons];omega
theorem lY{α β:Type}{l:List α}{m:List β}{i:Nat}{z:α × β}(h:z∈(l.zip m).take i):z.1∈l:=(List.of_mem_zip (a:=z.1) (b:=z.2) (List.mem_of_mem_take h)).1
theorem MV{m:List Nat}{i c:Nat}(h:m[i]?=some c):c<=m.sum:=by
 induction m generalizing i with
 | nil=>simp at h
 | cons a m ih =>
  rw [List.sum_cons];cases i with
  | zero=>cases (show a=c by simpa using h);omega
  | succ i=>have:=ih (i:=i) (by simpa using h);omega
section
theorem aAd(F:jA K "ways_of" "ways_of" SK f fd)(T:kO K mg c):eJ P w K mg base dR 1 f fd ["trial"] kW:=by
 refine F.oky aAT λvs H Q E h=>?_;unfold kW at h;obtain ⟨v,fs,ws,rfl,h,q⟩:=h;refine ⟨rfl,λcdv A outer s hr=>?_⟩;obtain ⟨a,af,aw,xf,xw,rfl,ha,hf,hw,rf,rw'⟩:=vB h;refine ⟨_,(bA (cH (eU gI (by rfl) T.b_len Kk (aJ (aW aR (aG 0) aD (λ_ _=>rfl)) aE)))),?_⟩;refine ⟨_,rfl,?_⟩;refine fZ ha rfl ?_;refine MD hw ?_;rw [eF rw'];exact q
theorem aAe(F:jA K "way_shares" "way_shares" SL f fd)(T:kO K mg c):eJ P w K mg base dR 1 f fd ["trial","way"] tH:=by
 refine F.oky aAU λvs H Q E h=>?_;unfold tH at h;obtain ⟨v,fs,ws,w,i,rfl,h,hw',q⟩:=h;refine ⟨rfl,λcdv A outer s hr=>?_⟩;obtain ⟨a,af,aw,xf,xw,rfl,ha,hf,hw,rf,rw'⟩:=vB h;obtain ⟨u,hu,ru⟩:=iD rw' hw';obtain ⟨b,xs,rfl,hb,hr'⟩:=fX ru;obtain ⟨y,z,rfl,hy,hz⟩:=kB hr';refine ⟨_,(bA (cH (aW aR (aW aR (aW aR (aG 0) aD (λ_ _=>rfl)) (aG 1) (λ_ _=>rfl)) aD (λ_ _=>rfl)))),?_⟩;refine ⟨_,rfl,?_⟩;refine fZ ha rfl ?_;refine ⟨_,rfl,?_⟩;refine fZ hw (cK (j:=i) hu) ?_;refine fZ hb rfl ?_;exact q _ hz
theorem aAl(F:jA K "power" "power" SR f fd)(T:kO K mg c):eJ P w K mg base dR 1 f fd ["share","count"] (mW K):=by
 refine F.oky HH λvs H Q E h=>?_;unfold mW at h;obtain ⟨x,f,n,B,rfl,⟨a,rfl,ha⟩,h1,h2,h3,h5,h4,q⟩:=h;refine ⟨rfl,λcdv A outer s hr=>?_⟩;refine ⟨_,(aL (bL (i:=2) HH.nd rfl (Or.inl rfl) aD)
  (aL (bL (i:=3) HH.nd rfl (Or.inl rfl) aD)
  (aL (eP PassesOwn.never rfl (dX rfl T.b_range (aJ (aG 1) aE)) (cW (i:=4) HH.nd rfl (Or.inl rfl)) (aL (bL (i:=2) HH.nd rfl (Or.inl rfl) (bT dC (aG 2) (aW aR (aG 0) aD (λ_ _=>rfl))))
  (bA (bL (i:=3) HH.nd rfl (Or.inl rfl) (bT dC (aG 3) (aW aR (aG 0) aD (λ_ _=>rfl)))))))
  (bA (cH (dZ (aJ (aG 2) (aJ (aG 3) aE)))))))),?_⟩
 refine ⟨_,rfl,_,rfl,Oo,Oo,?_⟩;refine gM (λi σ H'=>∃o4,σ=[some (.ref a),some (.int (n:Int)),some (.int (f.1^i)),some (.int (f.2^i)),o4]/\H'=H) ⟨_,by rw [Int.pow_zero,Int.pow_zero];rfl,rfl⟩ ?_ ?_
 ·rintro i σ H1 hi ⟨o4,rfl,rfl⟩;have hB:B*i<=4000:=aZ (dW _ Oo) h4;refine ⟨_,rfl,_,rfl,?_⟩;refine nM ha rfl ?_;refine ⟨_,_,rfl,rfl,lH (xN (qS h1 i) hB) (xN h1 h3),?_⟩;refine ⟨_,rfl,_,rfl,?_⟩;refine nM ha rfl ?_;refine ⟨_,_,rfl,rfl,lH (xN (qS h2 i) hB) (xN h2 h3),?_⟩;exact ⟨_,by rw [Int.pow_succ,Int.pow_succ];rfl,rfl⟩
 ·rintro σ H1 ⟨o4,rfl,rfl⟩;refine ⟨_,rfl,_,rfl,?_⟩;refine qH (by show 2<=64;decide) λq3 H3 hq3 e3 s3=>?_;exact q q3 H3 hq3 (by rw [e3];rfl) s3
theorem aAc(F:jA K "weight" "weight" SJ f fd)(T:kO K mg c)
  (FQ37:gB dR P w K mg base 1 "way_shares" ["trial","way"] tH) (FQ34:gB dR P w K mg base 2 "times" ["one","other"] (gQ K)) (FQ30:gB dR P w K mg base 1 "power" ["share","count"] (mW K)):eJ P w K mg base dR 3 f fd ["trial","way","counts"] (kU K):=by
 refine F.oky LN λvs H Q E h=>?_;unfold kU at h;obtain ⟨v,cv,fs,ws,w,cs,j,rfl,h,hw,hc,ok,hs,q⟩:=h;refine ⟨rfl,λcdv A outer s hr=>?_⟩;refine ⟨_,(aL (bL (i:=3) LN.nd rfl (Or.inl rfl) (jG (v:=.ref c.ONE) rfl T.g_ONE rfl))
  (aL (eP PassesOwn.never rfl (BC true true rfl T.b_zip (aJ (bQ FQ37 (hr.mono yd) (aJ (aG 0) (aJ (aG 1) aE))) (aJ (aG 2) aE))) (oB rfl (eW (cW (i:=4) LN.nd rfl (Or.inl rfl)) (eW (cW (i:=5) LN.nd rfl (Or.inl rfl)) lN))) (bA (bL (i:=3) LN.nd rfl (Or.inl rfl) (bQ FQ34 (hr.mono yd) (aJ (aG 3) (aJ (bQ FQ30 (hr.mono yd) (aJ (aG 4) (aJ (aG 5) aE))) aE))))))
  (bA (cH (aG 3))))),?_⟩
 refine ⟨_,rfl,_,rfl,?_⟩;refine JB h hw λx rx=>?_;obtain ⟨l1,xs,rfl,h1,r1⟩:=fX rx;obtain ⟨l2,ys,rfl,h2,r2⟩:=fX hc;refine ⟨_,rfl,l1,l2,xs,ys,rfl,h1,h2,?_⟩;have hl1:=eF r1;have hl2:=eF r2;have zl:∀i,∀z∈(w.2.zip cs).take i,cT z.1:=λi z hz=>ok.low _ (lY hz);have zb:∀i,∀z∈(w.2.zip cs).take i,z.1.1.natAbs<=2^10/\z.1.2.natAbs<=2^10:=λi z hz=>⟨ok.up _ (lY hz),ok.dn _ (lY hz)⟩;refine EN (λi σ H'=>∃x o4 o5,σ=[some v,some (.int (j:Int)),some (.ref l2),some x,o4,o5]/\aQ H H'/\rV K H' (nS ((w.2.zip cs).take i)) x) ⟨_,_,_,rfl,aQ.refl _,.inr ⟨_,rfl,T.o_ONE⟩⟩ (λi σ H' ⟨x,o4,o5,_,s',_⟩=>⟨s' _ _ h1,s' _ _ h2⟩) ?_ ?_
 ·rintro i y z q3 σ H1 H2 hy hz ⟨x,o4,o5,rfl,s1,r⟩ hq3 e3 s3;obtain ⟨g,hg,rg⟩:=dQ r1 hy;obtain ⟨n,hn,rn⟩:=dQ r2 hz;cases (show z=V.int (n:Int) from rn);have gm:=aM hg;have nn:=MV hn;refine ⟨q3,_,rfl,gK.of e3,rfl,_,_,rfl,_,_,rfl,rfl,?_⟩;refine ⟨_,rfl,_,rfl,_,rfl,?_⟩;refine BN (B:=10) (fP.of (rg.same (s1.trans s3))) (ok.up _ gm) (ok.dn _ gm) yd Oo Oo ?_;intro q4 H4 hq4 e4 s4;obtain ⟨b1,b2⟩:=MO ((w.2.zip cs).take i) (zl i) (zb i);have zs:=MH w.2 cs i;have c1:=qS (ok.up _ gm) n;have c2:=qS (ok.dn _ gm) n;refine jP (fP.same (s3.trans s4) r.v) (fP.new (f:=qT g n) e4) (oQ _ (zl i)) (jW (ok.low _ gm) n) (IV b1 b2 Oo) (IV c1 c2 Oo) ?_;intro q5 H5 hq5 e5 s5;refine ⟨_,_,_,rfl,((s1.trans s3).trans s4).trans s5,?_⟩;rw [eO (MI hg hn),qI];exact .inl (dU e5)
 ·rintro σ H1 ⟨x,o4,o5,rfl,s1,r⟩;refine ⟨_,rfl,?_⟩;refine q _ H1 s1 ?_;have e:(w.2.zip cs).take (min xs.length ys.length)=w.2.zip cs:=List.take_of_length_le (by rw [List.length_zip];omega)
  rwa [e] at r
end
abbrev rL(n:Nat):V:=.int (n:Int)
theorem AO{H:Hp}:∀cs:List Nat,bF H (cs.map λ(n:Nat)=>PyData.int (n:Int)) (cs.map rL)
 | []=>bF.nil
 | n::cs=>bF.cons (cB.int _) (AO cs)
theorem wH{H:Hp}:∀{cs:List Nat}{xs:List V},bF H (cs.map λ(n:Nat)=>PyData.int (n:Int)) xs->xs=cs.map rL
 | [],xs,h=>h
 | n::cs,xs,h=>by
  unfold bF at h;obtain ⟨x,xs',rfl,hx,hr⟩:=(show ∃x xs',xs=x::xs'/\cB H (PyData.int (n:Int)) x/\bF H (cs.map λ(n:Nat)=>PyData.int (n:Int)) xs' from h);rw [wH hr];cases (show x=V.int (n:Int) from hx)
  rfl
theorem iQ{H:Hp}{cs:List Nat}{v:V}(h:cB H (mL cs) v):∃a,v=.ref a/\H a=some (.tup (cs.map rL)):=by
 obtain ⟨a,xs,rfl,ha,hr⟩:=fX h;rw [wH hr] at ha;exact ⟨a,rfl,ha⟩
theorem jE{H:Hp}{cs:List Nat}{a:Addr}(h:H a=some (.tup (cs.map rL))):cB H (mL cs) (.ref a):=cB.tup h (AO cs)
theorem AT{cs:List Nat}{i:Nat}(h:i<cs.length):bS cs i=cs.take i++[cs.getD i 0+1]++cs.drop (i+1):=by
 unfold bS;rw [List.set_eq_take_append_cons_drop,if_pos h,List.append_assoc]
 rfl
theorem DK{K:PySem.W.Frag}{H:Hp}{a:Addr}{xs:List V}{k:Nat}{z:Int}{Q:VK}(hz:z=(k:Int))(h:H a=some (.tup xs))(q:∀c H',aQ H H'->H' c=some (.tup (xs.drop k))->Q (.ref c) H'):BR K (.ref a) (some z) none H Q:=by
 subst hz;exact SG h q
@[irreducible] def iU:Sp:=λvs H Q _=>∃(x:V) (cs:List Nat) (i:Nat),vs=[x,.int (i:Int)]/\cB H (mL cs) x/\i<cs.length/\cs.length<=64/\∀v H',aQ H H'->cB H' (mL (bS cs i)) v->Q v H'
theorem uR{H:Hp}{Q:VK}{E:XK}{x:V}{cs:List Nat}{i:Nat}(h1:cB H (mL cs) x)(h2:i<cs.length)(h3:cs.length<=64)(k:∀v H',aQ H H'->cB H' (mL (bS cs i)) v->Q v H'):iU [x,.int (i:Int)] H Q E:=by
 unfold iU;exact ⟨x,cs,i,rfl,h1,h2,h3,k⟩
@[irreducible] def iF:Sp:=λvs H Q _=>∃(x:V) (cs:List Nat),vs=[x]/\cB H (mL cs) x/\cs.length<=64/\∀D ys H',H D=none->H' D=some (.lst ys)->bF H' (((List.range cs.length).map (bS cs)).map mL) ys->aQ H H'->Q (.ref D) H'
theorem tI{H:Hp}{Q:VK}{E:XK}{x:V}{cs:List Nat}(h1:cB H (mL cs) x)(h3:cs.length<=64)(k:∀D ys H',H D=none->H' D=some (.lst ys)->bF H' (((List.range cs.length).map (bS cs)).map mL) ys->aQ H H'->Q (.ref D) H'):iF [x] H Q E:=by
 unfold iF;exact ⟨x,cs,rfl,h1,h3,k⟩
section
theorem aAo(F:jA K "one_more" "one_more" ST f fd)(T:kO K mg c):eJ P w K mg base dR 1 f fd ["counts","face"] iU:=by
 refine F.oky aAZ λvs H Q E h=>?_;unfold iU at h;obtain ⟨x,cs,i,rfl,rx,hi,hl,k⟩:=h;refine ⟨rfl,λcdv A outer s hr=>?_⟩;obtain ⟨a,rfl,ha⟩:=iQ rx;refine ⟨_,(bA (cH (bT (pH K) (bT (pH K) (gP (sR K) (aG 0) iS (iR (aG 1))) (dZ (aJ (bT eS (aW aR (aG 0) (aG 1) (λ_ _=>rfl)) aD) aE))) (gP (sR K) (aG 0) (iR (bT eS (aG 1) aD)) iS)))),?_⟩;refine ⟨_,rfl,_,rfl,_,rfl,?_⟩;refine JF ha λc2 H2 s2 e2=>?_;refine ⟨_,rfl,_,rfl,?_⟩;have hat:yF (cs.map rL) (i:Int)=some (rL (cs.getD i 0)):=cK (by rw [aI,bO,aB hi];rfl);refine fZ (s2 _ _ ha) hat ?_;refine ⟨_,_,rfl,rfl,?_⟩;refine qH (by show 1<=64;decide) λc3 H3 hc3 e3 s3=>?_;refine LK (s3 _ _ e2) e3 (by rw [bP,aA];show min i cs.length+1<=1000;omega) λc4 H4 s4 e4=>?_;refine ⟨_,rfl,_,rfl,_,_,rfl,rfl,?_⟩;refine ⟨_,rfl,?_⟩;refine DK (k:=i+1) Oo (s4 _ _ (s3 _ _ (s2 _ _ ha))) λc5 H5 s5 e5=>?_;refine LK (s5 _ _ e4) e5 (by rw [bC,bP,List.length_drop,aA];show min i cs.length+1+(cs.length-(i+1))<=1000;omega) λc6 H6 s6 e6=>?_;refine k _ H6 ((((s2.trans s3).trans s4).trans s5).trans s6) (jE ?_);rw [e6,AT hi,bN,bN,List.map_take,List.map_drop]
 rfl
theorem aAn(F:jA K "ones_more" "ones_more" NB f fd)(T:kO K mg c)(FQ27:gB dR P w K mg base 1 "one_more" ["counts","face"] iU):eJ P w K mg base dR 2 f fd ["counts"] iF:=by
 refine F.oky aAY λvs H Q E h=>?_;unfold iF at h;obtain ⟨x,cs,rfl,rx,hl,k⟩:=h;refine ⟨rfl,λcdv A outer s hr=>?_⟩;obtain ⟨a,rfl,ha⟩:=iQ rx;refine ⟨_,(bA (cH (fG (dM.of (psc:=aT NB) (N:=["counts"]) (N':=["face","counts"]) (js:=[0]) Kk rfl rfl rfl) (dX rfl T.b_range (aJ (eU gI (by rfl) T.b_len Kk (aJ (aG 0) aE)) aE)) (λ_ _ _ _=>eI) (λ_ _ _ _=>(bQ FQ27 (hr.mono yd) (aJ (aG 1) (aJ (aG 0) aE))))))),?_⟩;refine ⟨_,rfl,?_⟩;refine MD ha ?_;rw [aA];refine ⟨_,rfl,Oo,Oo,?_⟩;refine jN (λi y H'=>i<cs.length/\cB H' (mL (bS cs i)) y) (λi y H1 H2 s ⟨h1,h2⟩=>⟨h1,h2.flat s (iY _)⟩) Oo (λi H' Q' hi s' k'=>?_) (λD ys H4 hD hD4 s4 hy4 hr4=>?_)
 ·rw [Int.zero_add];refine ⟨_,rfl,_,rfl,?_⟩;refine uR (rx.same s') Oo hl λv H5 s5 r5=>?_;exact k' _ H5 s5 ⟨Oo,r5⟩
 ·refine k D ys H4 hD hD4 ?_ s4;refine bF.ofIdx (by rw [hy4,aA,aA,cV];omega) λi y hi=>?_;obtain ⟨h1,h2⟩:=hr4 i y hi;exact ⟨mL (bS cs i),by rw [aI,aI,cR h1];rfl,h2⟩
end
abbrev SU:Stmt:=(top 22)
theorem aA1:bW ["says"] ["says"] (aT SU):=⟨rfl,rfl,rfl,Kk,rfl,Kk,Kk⟩
abbrev NC:Stmt:=(top 17)
theorem aA0:bW ["faces"] ["faces"] (aT NC):=⟨rfl,rfl,rfl,Kk,rfl,Kk,Kk⟩
abbrev QI(ws:List (Str × List Fr)):List (List Fr):=ws.map λx=>x.2
def ci(c:List Nat):List Int:=c.map λ(n:Nat)=>(n:Int)
theorem iK(c:List Nat):(ci c).map V.int=c.map rL:=by unfold ci;rw [List.map_map];rfl
theorem kN:∀{a b:List Nat},ci a=ci b->a=b
 | [],[],_=>rfl
 | [],b::bs,h=>by cases h
 | a::as,[],h=>by cases h
 | a::as,b::bs,h=>by
  have h:(a:Int)::ci as=(b:Int)::ci bs:=h;injection h with h1 h2;rw [kN h2,show a=b by omega]
theorem aN.tT{H H':Hp}{p:Addr}(s:aN p H H'){kvs:List (List eG × V)}(hp:H p=some (.dT kvs)):cQ H H':=λb ys h=>s.at (vP h hp (by intro z;cases z)) h
theorem EL{α:Type}{l:List α}{i:Nat}{a d:α}(h:l[i]?=some a):l.getD i d=a:=by rw [bO,h];rfl
theorem BD{fs:List Fr}{i:Nat}{f:Fr}(h:fs[i]?=some f):fO fs i=rv f:=by unfold fO;rw [EL h]
theorem wQ{fs:List Fr}{i:Nat}(h:fs.length<=i):fO fs i=0:=by
 unfold fO;rw [bO,dI h];exact lU
theorem CC{α:Type}(l:List α):l.filter (λ_=>true)=l:=List.filter_eq_self.mpr λ_ _=>rfl
theorem BW{H:Hp}{α:Type}{g:α->Fr}{as:List α}{ys:List V}(pr:Paired (λa y=>cB H (eQ (g a)) y) as ys):bF H ((as.map g).map eQ) ys:=by
 rw [List.map_map];exact Paired.toRepL pr
structure HS(K:PySem.W.Frag)(H:Hp)(fs:List Fr)(xs:List V):Prop where
 len:xs.length=fs.length
 at_:∀(i:Nat) (x:V),xs[i]?=some x->∃f,fs[i]?=some f/\rV K H f x
theorem HS.t{K:PySem.W.Frag}{H H':Hp}{fs:List Fr}{xs:List V}(s:cQ H H')(h:HS K H fs xs):HS K H' fs xs:=⟨h.len,λi x e=>by
 obtain ⟨f,h1,h2⟩:=h.at_ i x e;exact ⟨f,h1,h2.t s⟩⟩
def AY(H:Hp)(a:Addr)(cs:List (List Nat)):Prop:=∃vs,H a=some (.lst vs)/\bF H (cs.map mL) vs
theorem EU:∀cs:List (List Nat),dO (cs.map mL)=true
 | []=>rfl
 | c::cs=>by show (eN (mL c)&&dO (cs.map mL))=true;rw [EU cs,iY];rfl
theorem AY.len{H:Hp}{a:Addr}{cs:List (List Nat)}(h:AY H a cs):∃vs,H a=some (.lst vs)/\bF H (cs.map mL) vs/\vs.length=cs.length:=by
 obtain ⟨vs,h1,h2⟩:=h;exact ⟨vs,h1,h2,eF h2⟩
theorem bF.app{H:Hp}:∀{ds es:List PyData}{xs ys:List V},bF H ds xs->bF H es ys->bF H (ds++es) (xs++ys)
 | [],es,xs,ys,h1,h2=>by
  have:xs=[]:=h1;subst this;exact h2
 | d::ds,es,xs,ys,h1,h2=>by
  unfold bF at h1;obtain ⟨x,xs',rfl,hx,hr⟩:=(show ∃x xs',xs=x::xs'/\cB H d x/\bF H ds xs' from h1);exact bF.cons hx (bF.app hr h2)
theorem GU{α:Type}(g:Nat->List α)(i:Nat):(List.range (i+1)).flatMap g=(List.range i).flatMap g++g i:=by
 rw [List.range_succ,List.flatMap_append];simp
theorem vZ:∀F,F<=4->∀m,m<=5->(cta F m).length<=56:=Kk
theorem HN:∀F,F<=4->∀i,i<=6->((List.range i).flatMap (cta F)).length<=400:=Kk
theorem qZ{α:Type}[DecidableEq α]:∀{l m:List α},l.Nodup->(∀x∈l,x∈m)->l.length<=m.length
 | [],m,_,_=>cM _
 | x::l,m,h,hs=>by
  rw [List.nodup_cons] at h;have hx:=hs x (aO ..);have h1:=qZ (l:=l) (m:=m.erase x) h.2 λy hy=>(List.mem_erase_of_ne (λe=>by subst e;exact h.1 hy)).mpr (hs y (aK _ hy));rw [List.length_erase_of_mem hx] at h1;have:0<m.length:=List.length_pos_of_mem hx;rw [dG];omega
theorem UX{kvs:List (List eG × V)}{ks:List (List Int)}{v:V}(c:List Int)(hk:kvs.map (·.1)=ks.map kT)(nd:ks.Nodup):∃ks2:List (List Int),(jV kvs (kT c) v).map (·.1)=ks2.map kT/\ks2.Nodup/\∀x,x∈ks2↔x∈ks\/x=c:=by
 cases e:eY kvs (kT c) with
 | some u =>
  refine ⟨ks,by rw [kK (by rw [e];rfl),hk],nd,λx=>⟨.inl,λh=>?_⟩⟩;rcases h with h | rfl
  ·exact h
  ·have:kT x∈kvs.map (·.1):=wP e;rw [hk] at this;obtain ⟨y,hy,ey⟩:=aP.mp this;rw [<-kL ey];exact hy
 | none =>
  have hn:c ∉ ks:=λh=>by
   have:kT c∈kvs.map (·.1):=by rw [hk];exact List.mem_map_of_mem h
   exact IO e this
  refine ⟨ks++[c],by rw [pF v e,bN,bN,hk];rfl,List.nodup_append.mpr ⟨nd,by simp,λa ha b hb e=>by cases bR.mp hb;subst e;exact hn ha⟩,λx=>by rw [dP,bR]⟩
theorem PJ:∀F,F<=4->∀m,m<=5->((cta F m).map ci).Pairwise (λa b=>mC a b=true):=Kk
theorem ctI(c:List Nat):PyData.tuple ((ci c).map .int)=mL c:=by unfold ci;rw [List.map_map];rfl
section
variable{F W M:Nat}{best:List Nat->Nat}
def lvl(F:Nat)(best:List Nat->Nat):Nat->List (List Nat)
 | 0=>[List.replicate F 0]
 | k+1=>(cta F (k+1)).filter λd=>(lvl F best k).any λc=>best c == 0&&(List.range F).any λj=>d == bS c j
theorem gL(hF:1<=F):∀k,(lvl F best k).Sublist (cta F k)
 | 0=>by unfold lvl;rw [AK F hF];exact List.Sublist.refl _
 | k+1=>by unfold lvl;exact List.filter_sublist
theorem pJ(hF:1<=F){k:Nat}{d:List Nat}:d∈lvl F best (k+1) ↔ ∃c∈lvl F best k,best c=0/\∃j,j<F/\d=bS c j:=by
 have h0:d∈lvl F best (k+1)↔d∈cta F (k+1)/\∃c∈lvl F best k,best c=0/\∃j,j<F/\d=bS c j:=by
  show d∈List.filter _ _↔_;rw [List.mem_filter];simp
 rw [h0];refine ⟨λh=>h.2,λh=>⟨?_,h⟩⟩;obtain ⟨c,hc,_,j,hj,e⟩:=h;exact (LD hF).mpr ⟨c,(gL hF k).subset hc,j,hj,e⟩
def DO(F M:Nat)(best:List Nat->Nat):List (List Nat):=(List.range (M+1)).flatMap (lvl F best)
theorem uD{α:Type}{f g:Nat->List α}(h:∀k,(f k).Sublist (g k)):∀l:List Nat,(l.flatMap f).Sublist (l.flatMap g)
 | []=>List.Sublist.refl _
 | a::l=>by rw [List.flatMap_cons,List.flatMap_cons];exact (h a).append (uD h l)
theorem sS(hF:1<=F):(DO F M best).Sublist (rise F M):=uD (gL hF) _
theorem pI{c:List Nat}:c∈DO F M best ↔ ∃k,k<=M/\c∈lvl F best k:=by
 unfold DO;rw [List.mem_flatMap];constructor
 ·rintro ⟨k,hk,h⟩;exact ⟨k,by have:=cU.mp hk;omega,h⟩
 ·rintro ⟨k,hk,h⟩;exact ⟨k,cU.mpr Oo,h⟩
theorem JN(hF:1<=F)(on:∀c,best c=0->c.sum<M){c:List Nat}(hc:c∈DO F M best)(h:best c=0){j:Nat}(hj:j<F):bS c j∈DO F M best:=by
 obtain ⟨k,hk,h1⟩:=pI.mp hc;have h2:=(fT ((gL hF k).subset h1)).2;have h3:=on c h;exact pI.mpr ⟨k+1,Oo,(pJ hF).mpr ⟨c,h1,h,j,hj,rfl⟩⟩
theorem JO(hF:1<=F){d:List Nat}(hd:d∈DO F M best)(h:d≠List.replicate F 0):∃c∈DO F M best,best c=0/\∃j,j<F/\bS c j=d:=by
 obtain ⟨k,hk,h1⟩:=pI.mp hd;cases k with
 | zero=>exact absurd (bR.mp h1) h
 | succ k =>
  obtain ⟨c,hc,hb,j,hj,e⟩:=(pJ hF).mp h1;exact ⟨c,pI.mpr ⟨k,Oo,hc⟩,hb,j,hj,e.symm⟩
theorem JM:∃r,DO F M best=List.replicate F 0::r:=by
 unfold DO;rw [List.range_succ_eq_map,List.flatMap_cons];exact ⟨_,rfl⟩
theorem DM(hF:1<=F){c:List Nat}(h:c∈DO F M best):c.length=F/\c.sum<=M:=(KK hF).mp ((sS hF).subset h)
end
def RM(K:PySem.W.Frag)(H:Hp)(fs:List Fr)(z:V):Prop:=∃sa sx,z=.ref sa/\H sa=some (.tup sx)/\HS K H fs sx
theorem RM.t{K:PySem.W.Frag}{H H':Hp}{fs:List Fr}{z:V}(s:cQ H H')(h:RM K H fs z):RM K H' fs z:=by
 obtain ⟨sa,sx,h1,h2,h3⟩:=h;exact ⟨sa,sx,h1,s _ _ h2,h3.t s⟩
theorem HS.get{K:PySem.W.Frag}{H:Hp}{fs:List Fr}{xs:List V}(h:HS K H fs xs){i:Nat}{f:Fr}(e:fs[i]?=some f):∃x,xs[i]?=some x/\rV K H f x:=by
 have li:=(aH.mp e).1;have hx:xs[i]?=some (xs[i]'(by rw [h.len];exact li)):=aB (by rw [h.len];exact li);obtain ⟨g,h1,h2⟩:=h.at_ i _ hx;rw [e] at h1;cases h1;exact ⟨_,hx,h2⟩
def ZL(K:PySem.W.Frag)(H:Hp)(e:cJ)(x:V):Prop:=∃b cu z,x=.ref b/\H b=some (.tup [.ref cu,z])/\H cu=some (.tup (e.1.map rL))/\RM K H e.2 z
theorem ZL.t{K:PySem.W.Frag}{H H':Hp}{e:cJ}{x:V}(s:cQ H H')(h:ZL K H e x):ZL K H' e x:=by
 obtain ⟨b,cu,z,h1,h2,h3,h4⟩:=h;exact ⟨b,cu,z,h1,s _ _ h2,s _ _ h3,h4.t s⟩
def HX(K:PySem.W.Frag)(H:Hp)(es:List cJ)(v:V):Prop:=∃a xs,v=.ref a/\H a=some (.tup xs)/\xs.length=es.length/\∀(i:Nat) (x:V),xs[i]?=some x->∃e,es[i]?=some e/\ZL K H e x
theorem HX.t{K:PySem.W.Frag}{H H':Hp}{es:List cJ}{v:V}(s:cQ H H')(h:HX K H es v):HX K H' es v:=by
 obtain ⟨a,xs,h1,h2,h3,h4⟩:=h;exact ⟨a,xs,h1,s _ _ h2,h3,λi x hx=>by obtain ⟨e,g1,g2⟩:=h4 i x hx;exact ⟨e,g1,g2.t s⟩⟩
@[irreducible] def kY(K:PySem.W.Frag):Sp:=λvs H Q _=>∃(z:V) (f:Fr) (fs:List Fr),vs=[z]/\RM K H (f::fs) z/\Q (.bl (decide (0<f.1))) H
theorem yU{K:PySem.W.Frag}{H:Hp}{Q:VK}{E:XK}{z:V}{f:Fr}{fs:List Fr}(h1:RM K H (f::fs) z)(k:Q (.bl (decide (0<f.1))) H):kY K [z] H Q E:=by
 unfold kY;exact ⟨z,f,fs,rfl,h1,k⟩
@[irreducible] def jR:Sp:=λvs H Q _=>∃F:Nat,vs=[.int (F:Int)]/\F<=64/\∀v H',aQ H H'->cB H' (mL (List.replicate F 0)) v->Q v H'
theorem wY{H:Hp}{Q:VK}{E:XK}{F:Nat}(h:F<=64)(k:∀v H',aQ H H'->cB H' (mL (List.replicate F 0)) v->Q v H'):jR [.int (F:Int)] H Q E:=by
 unfold jR;exact ⟨F,rfl,h,k⟩
def BA(F M:Nat)(best:List Nat->Nat)(sy:List Nat->List Fr):List cJ:=(DO F M best).map λc=>(c,sy c)
section
theorem aAq(F:jA K "looks_on" "looks_on" SU f fd)(T:kO K mg c):eJ P w K mg base dR 1 f fd ["says"] (kY K):=by
 refine F.oky aA1 λvs H Q E h=>?_;unfold kY at h;obtain ⟨z,f,fs,rfl,⟨sa,sx,rfl,hsa,rsx⟩,k⟩:=h;refine ⟨rfl,λcdv A outer s hr=>?_⟩;obtain ⟨y,hy,ry⟩:=rsx.get (i:=0) rfl;obtain ⟨b,rfl,hb⟩:=ry.v;refine ⟨_,(bA (cH (lP zI (aW aR (aW aR (aG 0) (jG (v:=.int 0) rfl T.g_LOOKS_ON ⟨_,rfl⟩) (λ_ _=>rfl)) aD (λ_ _=>rfl)) aD (nomark _)))),?_⟩;refine ⟨_,rfl,?_⟩;refine fZ hsa (cK (j:=0) hy) ?_;refine nM hb rfl ?_;refine ⟨_,_,rfl,rfl,?_⟩;exact k
theorem aAp(F:jA K "noughts" "noughts" NC f fd)(T:kO K mg c):eJ P w K mg base dR 1 f fd ["faces"] jR:=by
 refine F.oky aA0 λvs H Q E h=>?_;unfold jR at h;obtain ⟨F,rfl,hF,k⟩:=h;refine ⟨rfl,λcdv A outer s hr=>?_⟩;refine ⟨_,(bA (cH (jF dL (by rfl) T.b_tuple Kk (aJ (fG (dM.of (psc:=aT NC) (N:=["faces"]) (N':=["face"]) (js:=[]) Kk rfl rfl rfl) (dX rfl T.b_range (aJ (aG 0) aE)) (λ_ _ _ _=>eI) (λ_ _ _ _=>aD)) aE)))),?_⟩;refine ⟨_,rfl,_,rfl,Oo,Oo,?_⟩;refine jN (λi y H'=>∃n,y=.int n/\n=0) (λ_ _ _ _ _ h=>h) Oo (λi H' Q' hi s' k'=>k' _ H' (aQ.refl _) ⟨0,rfl,rfl⟩) (λD ys H1 hD e1 s1 hy hr1=>?_);obtain ⟨zs,rfl,hz⟩:=pM (P:=λ_ n=>n=0) hr1;have ez:zs=List.replicate F 0:=by
  rw [aA] at hy;exact List.eq_replicate_iff.mpr ⟨Oo,λb hb=>by obtain ⟨i,h⟩:=cI.mp hb;exact hz i b h⟩
 subst ez;refine ⟨D,_,rfl,.inl ⟨fE.of e1,λl hl=>?_⟩⟩;refine k _ _ (s1.trans (aQ.upd hl)) (jE ?_);rw [bK,List.map_replicate,List.map_replicate];rfl
end
abbrev SQ:Stmt:=(top 23)
theorem aAX:bW ["rule"] ["rule"] (aT SQ):=⟨rfl,rfl,rfl,Kk,rfl,Kk,Kk⟩
abbrev NE:Stmt:=(top 25)
theorem HK:bW ["rule","amount_of","counts","says","onward","more"] ["rule"] (aT NE):=⟨rfl,rfl,rfl,Kk,rfl,Kk,Kk⟩
structure RK(n:Nat)(fs:List Fr):Prop where
 len:fs.length=n
 at_:∀f∈fs,cT f/\0<=f.1/\iZ 3000 f
 one:mR (fs.map rv)=1
structure mN(F W M N B Ns:Nat)(es:List cJ):Prop where
 rl:uL F es
 sum:∀e∈es,e.1.sum<=M
 sy:∀e∈es,RK (1+W) e.2
 few:es.length<=64
 on:∀e∈es,s0 e≠0->e.1.sum<M
 fl:∀e∈es,Qn N B (bV F es e.1)
 fs:∀e∈es,∀v,Qn N B (bV F es e.1*fO e.2 v)
 n0:0<N
 s1:0<Ns
 z:N*Ns^M<2^2000
 b:B<=2^100
 m:M<=6
theorem RK.hd{n:Nat}{fs:List Fr}(h:RK (1+n) fs):∃f r,fs=f::r/\cT f/\iZ 3000 f/\0<=f.1/\fO fs 0=rv f/\(0<f.1↔fO fs 0≠0):=by
 cases fs with
 | nil=>have:=h.len;simp at this;omega
 | cons f r =>
  obtain ⟨h1,h2,h2z⟩:=h.at_ f (aO ..);refine ⟨f,r,rfl,h1,h2z,h2,rfl,?_⟩;have e:fO (f::r) 0=rv f:=rfl;rw [e];constructor
  ·intro hp q;have:=fS h1 KN (by rw [q,lU]);rw [this] at hp;exact absurd hp yd
  ·intro q;refine bU λz=>q ?_;have z1:f.1=0:=Oo;have e2:=pE h1.pos;rw [z1] at e2;have h3:=iX h1.pos;have:rv f=0:=by grind
   exact this
theorem RK.nn{n:Nat}{fs:List Fr}(h:RK n fs)(v:Nat):0<=fO fs v:=by
 by_cases hv:v<fs.length
 ·have:=h.at_ _ (rH (a:=(0,1)) hv);exact JK this.1 this.2.1
 ·rw [wQ Oo];exact Rat.le_refl
theorem RK.rest{n:Nat}{fs:List Fr}(h:RK (1+n) fs):eZ n (λv=>fO fs (1+v))=1-fO fs 0:=by
 have h1:=h.one;rw [DH,h.len] at h1;have:∀n,eZ (1+n) (fO fs)=fO fs 0+eZ n λv=>fO fs (1+v):=by
  intro n
  induction n with
  | zero=>rw [show 1+0=0+1 from rfl,dJ,fD,fD];grind
  | succ n ih=>rw [show 1+(n+1)=(1+n)+1 by omega,dJ,ih,dJ];grind
 rw [this] at h1;grind
structure DQ(K:PySem.W.Frag)(H:Hp)(kvs:List (List eG × V))(g:List Nat->Rat):Prop where
 at_:∀d:List Nat,(eY kvs (kT (ci d))=none/\g d=0)\/∃v,eY kvs (kT (ci d))=some v/\rV K H (cG (g d)) v
theorem jY:cG 0=(0,1):=fS (aY _) KN (by rw [cP,lU])
theorem jJ:cG 1=(1,1):=fS (aY _) GM (by rw [cP,tP])
theorem DQ.t{K:PySem.W.Frag}{H H':Hp}{kvs:List (List eG × V)}{g:List Nat->Rat}(s:cQ H H')(h:DQ K H kvs g):DQ K H' kvs g:=⟨λd=>by
 rcases h.at_ d with h | ⟨v,h1,h2⟩
 ·exact .inl h
 ·exact .inr ⟨v,h1,h2.t s⟩⟩
theorem DQ.eq{K:PySem.W.Frag}{H:Hp}{kvs:List (List eG × V)}{g g':List Nat->Rat}(h:DQ K H kvs g)(e:∀d,g' d=g d):DQ K H kvs g':=by
 have:g'=g:=funext e;rw [this];exact h
theorem DQ.get{K:PySem.W.Frag}{H:Hp}{kvs:List (List eG × V)}{g:List Nat->Rat}(h:DQ K H kvs g)(d:List Nat){z:V}(hz:fP K H (0,1) z):fP K H (cG (g d)) ((eY kvs (kT (ci d))).getD z):=by
 rcases h.at_ d with ⟨h1,h2⟩ | ⟨v,h1,h2⟩
 ·rw [h1,h2,jY];exact hz
 ·rw [h1];exact h2.v
theorem DQ.val{K:PySem.W.Frag}{H:Hp}{kvs:List (List eG × V)}{g:List Nat->Rat}(h:DQ K H kvs g){d:List Nat}(hd:g d≠0):∃v,eY kvs (kT (ci d))=some v/\rV K H (cG (g d)) v:=by
 rcases h.at_ d with ⟨_,h2⟩ | h
 ·exact absurd h2 hd
 ·exact h
theorem DQ.put{K:PySem.W.Frag}{H:Hp}{kvs:List (List eG × V)}{g:List Nat->Rat}(h:DQ K H kvs g){c:List Nat}{v:V}{y:Rat}(r:rV K H (cG (g c+y)) v):DQ K H (jV kvs (kT (ci c)) v) λd=>g d+if c=d then y else 0:=⟨λd=>by
 rw [oS];by_cases e:c=d
 ·subst e;rw [if_pos rfl,if_pos rfl];exact .inr ⟨v,rfl,r⟩
 ·rw [if_neg λq=>e (kN (kL q)).symm,if_neg e,show g d+0=g d by grind];exact h.at_ d⟩
theorem iA{N C:Nat}{q:Rat}(h:Qn N C q)(h0:0<N)(hN:N<2^2500)(hC:C<=2^200):iZ 4000 (cG q):=rW h.fq h0 (aX hN (bB yd yd)) (aZ hC (bB yd yd))
theorem iZ.up{j k:Nat}{f:Fr}(h:iZ j f)(hk:j<=k):iZ k f:=⟨aX h.1 (bB yd hk),aX h.2 (bB yd hk)⟩
section
variable{F W M N B Ns:Nat}{es:List cJ}{s:List Fr}
theorem mN.nz(R:mN F W M N B Ns es):N<2^2500:=by
 have h1:0<Ns^M:=Nat.pow_pos R.s1;have h2:N*1<=N*Ns^M:=dW _ h1;rw [Nat.mul_one] at h2;exact bJ h2 (aX R.z (bB yd yd))
theorem mN.pz(R:mN F W M N B Ns es):0<N*Ns^M/\N*Ns^M<2^2500:=⟨Nat.mul_pos R.n0 (Nat.pow_pos R.s1),aX R.z (bB yd yd)⟩
theorem mN.b2(R:mN F W M N B Ns es):B<=2^200:=aZ R.b (bB yd yd)
theorem mN.part(R:mN F W M N B Ns es)(f4:F<=4):∀i,i<=es.length->∀d,Qn N (1+4*B*i) (bV F (es.take i) d)
 | 0,_,d=>by
  rw [List.take_zero,jM,Nat.mul_zero,Nat.add_zero];split
  ·exact Qn.one' _
  ·exact Qn.zero _ _
 | i+1,hi,d=>by
  have he:=aB (show i<es.length by omega);rw [eO he,gH,R.rl.at he];have hem:=aM he;have h1:=R.part f4 i Oo d;have h3:Qn 1 4 (jX F es[i].1 d):=by
   have:=Qn.sumR (N:=1) (B:=1) (n:=F) (f:=λf=>if bS es[i].1 f=d then 1 else 0) λf _=>by
    split
    ·exact Qn.one' _
    ·exact Qn.zero _ _
   exact this.le Oo
  have h4:=(show Qn N B (bV F es es[i].1*s0 es[i]) from R.fs _ hem 0).mul h3;rw [Nat.mul_one] at h4;refine (h1.add h4).le ?_;rw [Nat.mul_add,Nat.mul_one,Nat.mul_comm B 4];omega
theorem mN.bg(R:mN F W M N B Ns es){i:Nat}(hi:i<=64):1+4*B*i+B*4<=2^200:=by
 have h1:=Nat.mul_le_mul (dW 4 R.b) hi;have h2:=cC 4 R.b;have h3:1+4*2^100*64+2^100*4<=2^200:=Kk;omega
end
@[irreducible] def gR(K:PySem.W.Frag):Sp:=λvs H Q _=>∃(x:V) (e:cJ) (es:List cJ),vs=[x]/\HX K H (e::es) x/\Q (.int (e.1.length:Nat)) H
theorem sJ{K:PySem.W.Frag}{H:Hp}{Q:VK}{E:XK}{x:V}{e:cJ}{es:List cJ}(h1:HX K H (e::es) x)(k:Q (.int (e.1.length:Nat)) H):gR K [x] H Q E:=by
 unfold gR;exact ⟨x,e,es,rfl,h1,k⟩
@[irreducible] def jU(K:PySem.W.Frag):Sp:=λvs H Q _=>∃(x:V) (es:List cJ) (F W M N B Ns:Nat),vs=[x]/\HX K H es x/\mN F W M N B Ns es/\1<=F/\F<=4/\∀a ys H',aQ H H'->H' a=some (.tup ys)->ys.length=es.length->(∀(i:Nat) (e:cJ),es[i]?=some e->∃b cu va,ys[i]?=some (.ref b)/\H' b=some (.tup [.ref cu,va])/\H' cu=some (.tup (e.1.map rL))/\rV K H' (cG (bV F es e.1)) va)->Q (.ref a) H'
theorem xB{K:PySem.W.Frag}{H:Hp}{Q:VK}{E:XK}{x:V}{es:List cJ}{F W M N B Ns:Nat}(h1:HX K H es x)(h2:mN F W M N B Ns es)(h3:1<=F)(h4:F<=4)(k:∀a ys H',aQ H H'->H' a=some (.tup ys)->ys.length=es.length->(∀(i:Nat) (e:cJ),es[i]?=some e->∃b cu va,ys[i]?=some (.ref b)/\H' b=some (.tup [.ref cu,va])/\H' cu=some (.tup (e.1.map rL))/\rV K H' (cG (bV F es e.1)) va)->Q (.ref a) H'):jU K [x] H Q E:=by
 unfold jU;exact ⟨x,es,F,W,M,N,B,Ns,rfl,h1,h2,h3,h4,k⟩
section
theorem aAk(F:jA K "rule_faces" "rule_faces" SQ f fd)(T:kO K mg c):eJ P w K mg base dR 1 f fd ["rule"] (gR K):=by
 refine F.oky aAX λvs H Q E h=>?_;unfold gR at h;obtain ⟨x,e,es,rfl,rx,k⟩:=h;refine ⟨rfl,λcdv A outer s hr=>?_⟩;obtain ⟨a,xs,rfl,ha,lx,rxs⟩:=rx;have hy:xs[0]?=some (xs[0]'(by rw [lx];exact Nat.succ_pos _)):=aB _;obtain ⟨e',he',b,cu,z,eb,hb,hcu,_⟩:=rxs 0 _ hy;cases (show e=e' by simpa using he');rw [eb] at hy;refine ⟨_,(bA (cH (eU gI (by rfl) T.b_len Kk (aJ (aW aR (aW aR (aG 0) aD (λ_ _=>rfl)) aD (λ_ _=>rfl)) aE)))),?_⟩;refine ⟨_,rfl,?_⟩;refine fZ ha (cK (j:=0) hy) ?_;refine fZ hb rfl ?_;refine MD hcu ?_;rw [aA];exact k
theorem aAz(F:jA K "amounts" "amounts" NE f fd)(T:kO K mg c)(FQ26:gB dR P w K mg base 1 "noughts" ["faces"] jR)(FQ31:gB dR P w K mg base 1 "rule_faces" ["rule"] (gR K))
  (FQ25:gB dR P w K mg base 1 "looks_on" ["says"] (kY K)) (FQ34:gB dR P w K mg base 2 "times" ["one","other"] (gQ K)) (FQ28:gB dR P w K mg base 2 "ones_more" ["counts"] iF) (FQ29:gB dR P w K mg base 2 "plus" ["one","other"] (lR K)):eJ P w K mg base dR 3 f fd ["rule"] (jU K):=by
 refine F.oky HK λvs H Q E h=>?_;unfold jU at h;obtain ⟨x,es,F,W,M,N,B,Ns,rfl,rx,RO,f1,f4,k⟩:=h;refine ⟨rfl,λcdv A outer s hr=>?_⟩;obtain ⟨a,xs,rfl,ha,lx,rxs⟩:=id rx;have RL:=RO.rl;have few:=RO.few;obtain ⟨e0,er,ees,ez0⟩:=RL.root;refine ⟨_,(aL (bL (i:=1) HK.nd rfl (Or.inr rfl) (yJ hr.u1 (bQ FQ26 (hr.mono yd) (aJ (bQ FQ31 (hr.mono yd) (aJ (aG 0) aE)) aE)) (jG (v:=.ref c.ONE) rfl T.g_ONE rfl)))
  (aL (eP PassesOwn.never rfl (lM (aG 0)) (oB rfl (eW (cW (i:=2) HK.nd rfl (Or.inl rfl)) (eW (cW (i:=3) HK.nd rfl (Or.inl rfl)) lN))) (bA (mI (wK (bQ FQ25 (hr.mono yd) (aJ (aG 3) aE))) (aL (bL (i:=4) HK.nd rfl (Or.inl rfl) (bQ FQ34 (hr.mono yd) (aJ (lO hr.u1 (aG 1) (aG 2)) (aJ (aW aR (aG 3) aD (λ_ _=>rfl)) aE))))
  (bA (eP PassesOwn.never rfl (fF (bQ FQ28 (hr.mono yd) (aJ (aG 2) aE))) (cW (i:=5) HK.nd rfl (Or.inl rfl)) (bA (sM hr.u1 (aG 1) (aG 5) (bQ FQ29 (hr.mono yd) (aJ (CW hr.u1 (aG 1) (aG 5) (jG (v:=.ref c.NOUGHT) rfl T.g_NOUGHT rfl)) (aJ (aG 4) aE)))))))) gX)))
  (bA (cH (jF dL (by rfl) T.b_tuple Kk (aJ (fG (dM.of (psc:=aT NE) (N:=["rule","amount_of","counts","says","onward","more"]) (N':=["entry","amount_of"]) (js:=[1]) Kk rfl rfl rfl) (lM (aG 0)) (λ_ _ _ _=>eI) (λ_ _ _ _=>(dZ (aJ (aW (eE K) (aG 0) aD (λ_ _=>rfl)) (aJ (lO hr.u1 (aG 1) (aW (eE K) (aG 0) aD (λ_ _=>rfl))) aE))))) aE)))))),?_⟩
 intro p hp;have s0':=aQ.upd (o:=.dT []) hp;have e0p:(upd H p (.dT [])) p=some (.dT []):=bK;generalize upd H p (.dT [])=H0 at s0' e0p;refine ⟨_,rfl,?_⟩;refine sJ (e:=e0) (es:=er) (by rw [<-ees];exact rx.t s0'.t) ?_;rw [ez0,cY];refine wY (F:=F) Oo λv1 H1 s1 r1=>?_;obtain ⟨cz,rfl,hcz⟩:=iQ r1;refine XC (c:=ci (List.replicate F 0)) (by rw [iK];exact hcz) (s1 _ _ e0p) λH2 e2 b2=>?_;have S2:aQ H H2:=aQ.thru hp (s0'.trans s1) b2;have D2:DQ K H2 [(kT (ci (List.replicate F 0)),V.ref c.ONE)] (bV F (es.take 0)):=⟨λd=>by
  rw [List.take_zero,jM];by_cases q:d=List.replicate F 0
  ·subst q;rw [if_pos rfl];exact .inr ⟨_,by simp [eY],.inr ⟨c.ONE,rfl,by rw [jJ];exact T.o_ONE⟩⟩
  ·rw [if_neg q];refine .inl ⟨?_,rfl⟩;have:¬kT (ci d)=kT (ci (List.replicate F 0)):=λz=>q (kN (kL z));have e:=oS (κ:=List eG) [] (kT (ci (List.replicate F 0))) (kT (ci d)) (V.ref c.ONE);rw [if_neg this] at e;exact e⟩
 clear b2 s0' e0p r1 hcz s1;refine ⟨_,rfl,a,rfl,⟨_,gK.of (S2 _ _ ha)⟩,?_⟩;refine pU (xs:=xs) (λi σ H'=>∃(o2 o3 o4 o5:Option V) (kvs:List (List eG × V)),σ=[some (.ref a),some (.ref p),o2,o3,o4,o5]/\aQ H H'/\H' p=some (.dT kvs)/\kvs.length<=1+4*i/\DQ K H' kvs (bV F (es.take i))) ⟨_,_,_,_,_,rfl,S2,e2,by simp,D2⟩ (λi σ H' _ q=>?_) ?_ ?_
 ·obtain ⟨_,_,_,_,_,_,s',_⟩:=q;exact gK.of (s' _ _ ha)
 ·rintro i x σ H3 hx ⟨o2,o3,o4,o5,kvs,rfl,S3,e3,l3,D3⟩;obtain ⟨e,he,re⟩:=rxs i x hx;have hi:i<es.length:=(aH.mp he).1;have hee:=aM he;have hkey:e.1∈es.map (·.1):=aP.mpr ⟨e,hee,rfl⟩;have hel:=RL.len e hee;have fat:=RL.at he;have fpos:=RL.posf hee;obtain ⟨f0,fr,ef,l0,z0,nn0,v0,on0⟩:=(RO.sy e hee).hd;have es0:s0 e=rv f0:=v0;obtain ⟨b,cu,z,rfl,hb,hcu,rz⟩:=re.t S3.t;refine ⟨b,[.ref cu,z],rfl,gK.of hb,rfl,.ref cu,[z],rfl,z,[],rfl,rfl,?_⟩;refine ⟨_,rfl,?_⟩;refine yU (f:=f0) (fs:=fr) (by rw [<-ef];exact rz) ?_;refine ⟨_,rfl,?_⟩;refine tZ (λon=>?_) (λon=>?_)
  ·have sne:s0 e≠0:=on0.mp on;obtain ⟨va,hva,fva⟩:=D3.val (d:=e.1) (by rw [fat];grind);rw [fat] at fva;refine ⟨_,rfl,_,rfl,?_⟩;refine dgT e3 (c:=ci e.1) (by rw [iK];exact hcu) hva ?_;obtain ⟨av,vs,rfl,hav,rvs⟩:=rz;rw [ef] at rvs;obtain ⟨y0,hy0,ry0⟩:=rvs.get (i:=0) rfl;refine ⟨_,rfl,?_⟩;refine fZ hav (cK (j:=0) hy0) ?_;refine jP fva.v ry0.v (aY _) l0 (iA (RO.fl e hee) RO.n0 RO.nz RO.b2) (z0.up yd) λq4 H4 hq4 e4 s4=>?_;have em:lX (cG (bV F es e.1)) f0=cG (bV F es e.1*s0 e):=fS (iV (aY _) l0) (aY _) (by rw [lV (aY _).pos l0.pos,cP,cP,es0]);rw [em] at e4;have qy:Qn N B (bV F es e.1*s0 e):=RO.fs e hee 0;refine ⟨_,rfl,?_⟩;refine tI (jE (s4 _ _ hcu)) Oo λL ys H5 hL e5 ry5 s5=>?_;have S5:=(S3.trans s4).trans s5;have ly:ys.length=F:=by rw [ry5.len,aA,aA,cV,hel]
   have frv5:cB H5 (eQ (cG (bV F es e.1*s0 e))) (.ref q4):=dU (s5 _ _ e4);have e5p:H5 p=some (.dT kvs):=s5 _ _ (s4 _ _ e3);have nLp:L≠p:=λz=>by rw [z,s4 _ _ e3] at hL;cases hL
   refine ⟨L,rfl,⟨_,fE.of e5⟩,?_⟩;refine iJ (xs:=ys) (λj σ H'=>∃(o5:Option V) (kvs:List (List eG × V)),σ=[some (.ref a),some (.ref p),some (.ref cu),some (.ref av),some (.ref q4),o5]/\aN p H5 H'/\H' p=some (.dT kvs)/\kvs.length<=1+4*i+j/\DQ K H' kvs λd=>bV F (es.take i) d+bV F es e.1*s0 e*eZ j λf=>if bS e.1 f=d then 1 else 0)
    ⟨_,kvs,rfl,(aQ.refl _).but,e5p,Oo,(D3.t (s4.trans s5).t).eq λd=>by rw [fD];grind⟩ (λj σ H' _ q=>?_) ?_ ?_
   ·obtain ⟨_,_,_,b',_⟩:=q;exact fE.of (b'.at nLp e5)
   ·rintro j y σ H6 hy ⟨o5',kv6,rfl,b6,e6,l6,D6⟩;have hj:j<F:=by rw [<-ly];exact (aH.mp hy).1
    obtain ⟨m,hm,rm⟩:=dQ ry5 hy;have em:m=bS e.1 j:=by
     rw [aI,cR Oo] at hm;simpa using hm.symm
    have msum:m.sum=e.1.sum+1:=by rw [em];exact kA Oo
    have mks:m∈es.map (·.1):=by rw [em];exact RL.fwd e hee sne j hj
    have mM:m.sum<=M:=by obtain ⟨e',he',rfl⟩:=aP.mp mks;exact RO.sum e' he'
    obtain ⟨cm,rfl,hcm⟩:=iQ rm;have t6:cQ H5 H6:=aN.tT b6 e5p;have hcm6:=t6 _ _ hcm;have hnz:fP K H6 (0,1) (.ref c.NOUGHT):=⟨c.NOUGHT,rfl,tG T.o_NOUGHT⟩;have hg:=D6.get m hnz;have qX:Qn N (1+4*B*i+B*4) (bV F (es.take i) m+bV F es e.1*s0 e*eZ j λf=>if bS e.1 f=m then 1 else 0):=by
     have h3:Qn 1 4 (eZ j λf=>if bS e.1 f=m then 1 else 0):=by
      have:=Qn.sumR (N:=1) (B:=1) (n:=j) (f:=λf=>if bS e.1 f=m then 1 else 0) λf _=>by
       split
       ·exact Qn.one' _
       ·exact Qn.zero _ _
      exact this.le Oo
     have h4:=qy.mul h3;rw [Nat.mul_one] at h4;exact (RO.part f4 i Oo m).add h4
    generalize hX:bV F (es.take i) m+bV F es e.1*s0 e*(eZ j λf=>if bS e.1 f=m then 1 else 0)=Xm at qX hg;refine ⟨_,rfl,p,rfl,.inr ⟨kv6,.inl e6⟩,_,rfl,_,mG.ct (c:=ci m) e6 (by rw [iK];exact hcm6),?_⟩;refine ⟨_,rfl,?_⟩;refine qL hg (fP.of (frv5.flat t6 (cF _))) (aY _) (aY _) (iA qX RO.n0 RO.nz (RO.bg Oo)) (iA qy RO.n0 RO.nz RO.b2) λq7 H7 hq7 e7 s7=>?_;have ea:lK (cG Xm) (cG (bV F es e.1*s0 e))=cG (Xm+bV F es e.1*s0 e):=fS (qF (aY _) (aY _)) (aY _) (by rw [tQ (aY _).pos (aY _).pos,cP,cP,cP]);rw [ea] at e7;refine ⟨_,rfl,_,rfl,?_⟩;have e7p:=s7 _ _ e6;refine ZF e7p (c:=ci m) (by rw [iK];exact s7 _ _ hcm6) Oo λH8 e8 b8=>?_;have t8:cQ H7 H8:=aN.tT b8 e7p;refine ⟨_,_,rfl,(b6.trans s7.but).trans b8,e8,?_,?_⟩
    ·have:=gG kv6 (kT (ci m)) (V.ref q7);omega
    ·have D7:=D6.t s7.t;have D8:=(D7.put (c:=m) (v:=.ref q7) (y:=bV F es e.1*s0 e) (by rw [hX];exact .inl (dU e7))).t t8;refine D8.eq λd=>?_;rw [dJ,<-em];by_cases q:m=d
     ·rw [if_pos q,if_pos q];grind
     ·rw [if_neg q,if_neg q];grind
   ·rintro σ H6 ⟨o5',kv6,rfl,b6,e6,l6,D6⟩;rw [ly] at l6 D6;refine ⟨_,_,_,_,kv6,rfl,aQ.thru hp S5 b6,e6,Oo,D6.eq λd=>?_⟩;rw [eO he,gH,fat];rfl
  ·have z0:s0 e=0:=bU λq=>on (on0.mpr q);refine ⟨_,_,_,_,kvs,rfl,S3,e3,Oo,D3.eq λd=>?_⟩;rw [eO he,gH,z0];grind
 ·rintro σ H3 ⟨o2,o3,o4,o5,kvs,rfl,S3,e3,l3,D3⟩;rw [lx,bG] at D3;refine ⟨_,rfl,a,rfl,⟨_,gK.of (S3 _ _ ha)⟩,?_⟩;refine nO (λi y H'=>∃(e:cJ) (b cu:Addr) (va:V),es[i]?=some e/\y=.ref b/\H' b=some (.tup [.ref cu,va])/\H' cu=some (.tup (e.1.map rL))/\rV K H' (cG (bV F es e.1)) va) (λi y H1 H2 s ⟨e,b,cu,va,h1,h2,h3,h5,h4⟩=>⟨e,b,cu,va,h1,h2,s _ _ h3,s _ _ h5,h4.t s⟩) Oo (S3 _ _ ha) (λi x H' Q' hx s' k'=>?_) (λD ys H8 hD hD8 s8 hy8 hr8=>?_)
  ·obtain ⟨e,he,re⟩:=rxs i x hx;have hee:=aM he;obtain ⟨b,cu,z,rfl,hb,hcu,rz⟩:=re.t (S3.trans s').t;obtain ⟨va,hva,fva⟩:=D3.val (d:=e.1) (by have:=RL.posf hee;grind);refine ⟨_,rfl,?_⟩;refine fZ hb rfl ?_;refine ⟨_,rfl,_,rfl,?_⟩;refine fZ hb rfl ?_;refine dgT (s' _ _ e3) (c:=ci e.1) (by rw [iK];exact hcu) hva ?_;refine qH (by show 2<=64;decide) λq5 H5 hq5 e5 s5=>?_;exact k' _ H5 s5 ⟨e,q5,cu,va,he,rfl,e5,s5 _ _ hcu,(fva.same s').same s5⟩
  ·refine ⟨D,ys,rfl,.inl ⟨fE.of hD8,λl hl=>?_⟩⟩;have sl:=aQ.upd (o:=.tup ys) hl;have el:(upd H8 l (.tup ys)) l=some (.tup ys):=bK;generalize upd H8 l (.tup ys)=H9 at sl el;refine k l ys H9 ((S3.trans s8).trans sl) el Oo λi e hi=>?_;obtain ⟨y,hy⟩:∃y,ys[i]?=some y:=⟨_,aB (by have:=(aH.mp hi).1;omega)⟩;obtain ⟨e',b,cu,va,h1,rfl,h3,h5,h4⟩:=hr8 i y hy;rw [hi] at h1;cases h1;exact ⟨b,cu,va,hy,sl _ _ h3,sl _ _ h5,h4.same sl⟩
end
abbrev TB:Stmt:=(top 27)
theorem PX:bW ["trial","rule","way","found","entry","amount"] ["trial","rule","way"] (aT TB):=⟨rfl,rfl,rfl,Kk,rfl,Kk,Kk⟩
abbrev NA:Stmt:=(top 28)
theorem aAW:bW ["came","way"] ["came","way"] (aT NA):=⟨rfl,rfl,rfl,Kk,rfl,Kk,Kk⟩
def RH(F:Nat)(es:List cJ)(s:List Fr)(e:cJ):Fr:=cG (bV F es e.1*wq s e.1)
def came(F:Nat)(es:List cJ)(s:List Fr):List (cJ × Fr):=es.map λe=>(e,RH F es s e)
def CQ(K:PySem.W.Frag)(H:Hp)(x:cJ × Fr)(v:V):Prop:=∃b cu z y,v=.ref b/\H b=some (.tup [.ref cu,z,y])/\H cu=some (.tup (x.1.1.map rL))/\RM K H x.1.2 z/\cB H (eQ x.2) y
theorem CQ.t{K:PySem.W.Frag}{H H':Hp}{x:cJ × Fr}{v:V}(s:cQ H H')(h:CQ K H x v):CQ K H' x v:=by
 obtain ⟨b,cu,z,y,h1,h2,h3,h4,h5⟩:=h;exact ⟨b,cu,z,y,h1,s _ _ h2,s _ _ h3,h4.t s,h5.flat s (cF _)⟩
theorem YJ{K:PySem.W.Frag}{H H':Hp}(s:cQ H H'){l:List (cJ × Fr)}{zs:List V}(h:Paired (CQ K H) l zs):Paired (CQ K H') l zs:=Paired.imp' (λ_ _ h=>h.t s) h
theorem AQ{K:PySem.W.Frag}{H:Hp}:∀{l:List (cJ × Fr)}{zs:List V}{x:cJ × Fr}{v:V},Paired (CQ K H) l zs->CQ K H x v->Paired (CQ K H) (l++[x]) (zs++[v])
 | _,_,_,_,.nil,h=>.cons h .nil
 | _,_,_,_,.cons r t,h=>.cons r (AQ t h)
section
variable{F W M N B Ns:Nat}{es:List cJ}{s:List Fr}
theorem mN.aq(R:mN F W M N B Ns es)(hs:∀f∈s,Fn Ns 1 f){e:cJ}(h:e∈es):Qn (N*Ns^M) B (bV F es e.1*wq s e.1):=by
 have:=(R.fl e h).mul (II (M:=M) hs (R.sum e h))
 rwa [Nat.mul_one] at this
theorem mN.aqs(R:mN F W M N B Ns es)(hs:∀f∈s,Fn Ns 1 f){e:cJ}(h:e∈es)(v:Nat):Qn (N*Ns^M) B (bV F es e.1*wq s e.1*fO e.2 v):=by
 have:=(R.fs e h v).mul (II (M:=M) hs (R.sum e h));rw [Nat.mul_one] at this;rw [show bV F es e.1*wq s e.1*fO e.2 v=bV F es e.1*fO e.2 v*wq s e.1 by grind];exact this
theorem mN.wn(R:mN F W M N B Ns es):Ns^M<2^2500:=by
 have h2:1*Ns^M<=N*Ns^M:=cC _ R.n0;rw [Nat.one_mul] at h2;exact bJ h2 R.pz.2
end
theorem Qn.sumL{α:Type}{N B:Nat}{f:α->Rat}:∀{l:List α},(∀a∈l,Qn N B (f a))->Qn N (l.length*B) (dH l f)
 | [],_=>by rw [eK];exact Qn.zero _ _
 | a::l,h=>by
  rw [cD,dG,Nat.add_mul,Nat.one_mul,Nat.add_comm];exact (h a (aO ..)).add (Qn.sumL λx hx=>h x (aK _ hx))
theorem SB{α:Type}{l:List α}{g:α->Fr}{f:α->Rat}(h:∀a∈l,cT (g a)/\rv (g a)=f a):oC (l.map g)=cG (dH l f):=by
 have hl:∀x∈l.map g,cT x:=λx hx=>by
  obtain ⟨a,ha,rfl⟩:=aP.mp hx;exact (h a ha).1
 refine fS (yN _ hl) (aY _) ?_;rw [JI _ hl,cP,List.map_map];exact congrArg mR (cZ λa ha=>(h a ha).2)
theorem KJ(x y:Rat):lX (cG x) (cG y)=cG (x*y):=fS (iV (aY _) (aY _)) (aY _) (by rw [lV (aY _).pos (aY _).pos,cP,cP,cP])
theorem CL(x y:Rat):lK (cG x) (cG y)=cG (x+y):=fS (qF (aY _) (aY _)) (aY _) (by rw [tQ (aY _).pos (aY _).pos,cP,cP,cP])
theorem wW(x y:Rat):lK (cG x) (xM (cG y))=cG (x-y):=fS (qF (aY _) (tR (aY _))) (aY _) (by
 rw [tQ (aY _).pos (tR (aY _)).pos,show xM (cG y)=(-(cG y).1,(cG y).2) from rfl,TF,cP,cP,cP,Rat.sub_eq_add_neg])
@[irreducible] def jS(K:PySem.W.Frag):Sp:=λvs H Q _=>∃(t r:V) (es:List cJ) (F W M N B Ns:Nat) (fs:List Str) (ws:List (Str × List Fr)) (i:Nat) (x:Str × List Fr),vs=[t,r,.int (i:Int)]/\cB H (uQ fs ws) t/\HX K H es r/\mN F W M N B Ns es/\1<=F/\F<=4/\ws[i]?=some x/\(∀f∈x.2,Fn Ns 1 f)/\YS 10 x.2/\∀D ys H',H D=none->H' D=some (.lst ys)->Paired (CQ K H') (came F es x.2) ys->aQ H H'->Q (.ref D) H'
theorem wZ{K:PySem.W.Frag}{H:Hp}{Q:VK}{E:XK}{t r:V}{es:List cJ}{F W M N B Ns:Nat}{fs:List Str}{ws:List (Str × List Fr)}{i:Nat}{x:Str × List Fr}(h1:cB H (uQ fs ws) t)(h2:HX K H es r)(h3:mN F W M N B Ns es)(h4:1<=F)(h5:F<=4)(h7:ws[i]?=some x)(h8:∀f∈x.2,Fn Ns 1 f)(h9:YS 10 x.2)
  (k:∀D ys H',H D=none->H' D=some (.lst ys)->Paired (CQ K H') (came F es x.2) ys->aQ H H'->Q (.ref D) H'):jS K [t,r,.int (i:Int)] H Q E:=by
 unfold jS;exact ⟨t,r,es,F,W,M,N,B,Ns,fs,ws,i,x,rfl,h1,h2,h3,h4,h5,h7,h8,h9,k⟩
@[irreducible] def jQ(K:PySem.W.Frag):Sp:=λvs H Q _=>∃(D:Addr) (ys:List V) (es:List cJ) (F W M w N B Ns:Nat) (s:List Fr),vs=[.ref D,.int (w:Int)]/\H D=some (.lst ys)/\Paired (CQ K H) (came F es s) ys/\mN F W M N B Ns es/\F<=4/\w<W/\(∀f∈s,Fn Ns 1 f)/\∀v H',aQ H H'->cB H' (eQ (cG (kF F es (wq s) w))) v->Q v H'
theorem wX{K:PySem.W.Frag}{H:Hp}{Q:VK}{E:XK}{D:Addr}{ys:List V}{es:List cJ}{F W M w N B Ns:Nat}{s:List Fr}(h1:H D=some (.lst ys))(h2:Paired (CQ K H) (came F es s) ys)(h3:mN F W M N B Ns es)(h4:F<=4)(h6:w<W)(h7:∀f∈s,Fn Ns 1 f)(k:∀v H',aQ H H'->cB H' (eQ (cG (kF F es (wq s) w))) v->Q v H'):jQ K [.ref D,.int (w:Int)] H Q E:=by
 unfold jQ;exact ⟨D,ys,es,F,W,M,w,N,B,Ns,s,rfl,h1,h2,h3,h4,h6,h7,k⟩
section
theorem aAy(F:jA K "comings" "comings" TB f fd)(T:kO K mg c)(FQ16:gB dR P w K mg base 3 "amounts" ["rule"] (jU K))(FQ34:gB dR P w K mg base 2 "times" ["one","other"] (gQ K))(FQ39:gB dR P w K mg base 3 "weight" ["trial","way","counts"] (kU K)):eJ P w K mg base dR 4 f fd ["trial","rule","way"] (jS K):=by
 refine F.oky PX λvs H Q E h=>?_;unfold jS at h;obtain ⟨t,r,es,F,W,M,N,B,Ns,fs,ws,iw,x,rfl,rt,rr,RO,f1,f4,hx,hsh,hbo,k⟩:=h;refine ⟨rfl,λcdv A outer s hr=>?_⟩;obtain ⟨a,xs,rfl,ha,lx,rxs⟩:=id rr;have few:=RO.few;refine ⟨_,(aL (bL (i:=3) PX.nd rfl (Or.inl rfl) (eR aE))
  (aL (eP PassesOwn.never rfl (BC true true rfl T.b_zip (aJ (aG 1) (aJ (bQ FQ16 (hr.mono yd) (aJ (aG 1) aE)) aE))) (oB rfl (eW (cW (i:=4) PX.nd rfl (Or.inl rfl)) (eW (cW (i:=5) PX.nd rfl (Or.inl rfl)) lN))) (bA (lL (tE PySem.F.plainAttrs_list PySem.F.slot_list_append PySem.F.type_list_append rE (aG 3) (aJ (dZ (aJ (aW aR (aG 4) aD (λ_ _=>rfl)) (aJ (aW aR (aG 4) aD (λ_ _=>rfl)) (aJ (bQ FQ34 (hr.mono yd) (aJ (aW aR (aG 5) aD (λ_ _=>rfl)) (aJ (bQ FQ39 (hr.mono yd) (aJ (aG 0) (aJ (aG 2) (aJ (aW aR (aG 4) aD (λ_ _=>rfl)) aE)))) aE))) aE)))) aE)))))
  (bA (cH (aG 3))))),?_⟩
 refine sT (by show 0<=64;decide) λL H1 hL e1 s1=>?_;refine ⟨_,rfl,_,rfl,?_⟩;refine xB (rr.t s1.t) RO f1 f4 λam ys H2 s2 e2 ly k2=>?_;refine ⟨a,am,xs,ys,rfl,s2 _ _ (s1 _ _ ha),e2,?_⟩;refine EN (xs:=xs) (ys:=ys) (λi σ H'=>∃(o4 o5:Option V) (zs:List V),σ=[some t,some (.ref a),some (.int (iw:Int)),some (.ref L),o4,o5]/\aN L H2 H'/\H' L=some (.lst zs)/\Paired (CQ K H') ((came F es x.2).take i) zs) ⟨_,_,[],rfl,(aQ.refl _).but,s2 _ _ e1,.nil⟩ (λi σ H' ⟨_,_,_,_,b',_⟩=>?_) ?_ ?_
 ·have na:a≠L:=λz=>by rw [z,hL] at ha;cases ha
  have nam:am≠L:=λz=>by rw [z,s2 _ _ e1] at e2;cases e2
  exact ⟨b'.at na (s2 _ _ (s1 _ _ ha)),b'.at nam e2⟩
 ·rintro i y z q3 σ H3 H4 hy hz ⟨o4,o5,zs,rfl,b3,e3,r3⟩ hq3 e4 s4;obtain ⟨e,he,re⟩:=rxs i y hy;have hee:=aM he;have t23:=b3.t (s2 _ _ e1);have t24:=t23.trans s4.t;have t04:=(s1.trans s2).t.trans t24;obtain ⟨b,cu,v,rfl,hb,hcu,rv'⟩:=re.t t04;have ru:cB H4 (mL e.1) (.ref cu):=jE hcu;obtain ⟨bz,cz,va,hbz,hbz2,_,fva⟩:=k2 i e he;rw [hz] at hbz;cases hbz;have e4L:H4 L=some (.lst zs):=s4 _ _ e3;have lz:zs.length<=64:=by
   rw [<-r3.length,bP];unfold came;rw [aA];omega
  refine ⟨q3,_,rfl,gK.of e4,rfl,_,_,rfl,_,_,rfl,rfl,?_⟩;refine ⟨_,rfl,SA e4L,_,rfl,?_⟩;refine fZ hb rfl ?_;refine ⟨_,rfl,?_⟩;refine fZ hb rfl ?_;refine ⟨_,rfl,?_⟩;refine fZ (t24 _ _ hbz2) rfl ?_;refine ⟨_,rfl,_,rfl,_,rfl,?_⟩;refine fZ hb rfl ?_;have hsM:=RO.sum e hee;have m6:=RO.m;refine yR (rt.flat t04 (mP fs ws)) hx ru hbo Oo λxw H5 s5 fw=>?_;have lw':cT (nS (x.2.zip e.1)):=oQ _ λz hz=>(hsh z.1 (List.of_mem_zip (a:=z.1) (b:=z.2) hz).1).low;refine jP ((fva.t t24).same s5).v fw.v (aY _) lw' (iA (RO.fl e hee) RO.n0 RO.nz RO.b2) (rW (Qn.f lw' (II (M:=M) hsh hsM)) (Nat.pow_pos RO.s1) (aX RO.wn (bB yd yd)) Nat.one_le_two_pow) λq6 H6 hq6 e6 s6=>?_;have em:lX (cG (bV F es e.1)) (nS (x.2.zip e.1))=RH F es x.2 e:=fS (iV (aY _) lw') (aY _) (by rw [lV (aY _).pos lw'.pos,cP];unfold RH;rw [cP];rfl);rw [em] at e6;refine qH (by show 3<=64;decide) λq7 H7 hq7 e7 s7=>?_;have s47:=(s5.trans s6).trans s7;refine HM (s47 _ _ e4L) Oo λH8 e8 b8=>?_;have t78:=b8.t (s47 _ _ e4L);refine ⟨_,_,zs++[.ref q7],rfl,(b3.trans (s4.trans s47).but).trans b8,e8,?_⟩;have ec:(came F es x.2)[i]?=some (e,RH F es x.2 e):=by unfold came;rw [aI,he];rfl
  rw [eO ec];refine AQ (YJ ((s4.trans s47).t.trans t78) r3) ?_;exact (show CQ K H7 (e,RH F es x.2 e) (.ref q7) from ⟨q7,cu,v,_,rfl,e7,s47 _ _ hcu,rv'.t s47.t,dU (s7 _ _ e6)⟩).t t78
 ·rintro σ H3 ⟨o4,o5,zs,rfl,b3,e3,r3⟩;refine ⟨_,rfl,?_⟩;have hc:(came F es x.2).take (min xs.length ys.length)=came F es x.2:=List.take_of_length_le (by unfold came;rw [aA];omega);rw [hc] at r3;exact k L zs H3 hL e3 r3 (aQ.thru hL (s1.trans s2) b3)
theorem aAj(F:jA K "said_of" "said_of" NA f fd)(T:kO K mg c)(FQ36:gB dR P w K mg base 3 "total" ["some"] (mV K))(FQ34:gB dR P w K mg base 2 "times" ["one","other"] (gQ K)):eJ P w K mg base dR 4 f fd ["came","way"] (jQ K):=by
 refine F.oky aAW λvs H Q E h=>?_;unfold jQ at h;obtain ⟨D,ys,es,F,W,M,iw,N,B,Ns,s,rfl,hD,rys,RO,f4,hw,hsh,k⟩:=h;refine ⟨rfl,λcdv A outer s9 hr=>?_⟩;have few:=RO.few;refine ⟨_,(bA (cH (bQ FQ36 (hr.mono yd) (aJ (FJ (fL.of (psc:=aT NA) (N:=["came","way"]) (xs:=["counts","says","share"]) (N':=["counts","says","share","way"]) (js:=[1]) Kk rfl rfl rfl) (fF (aG 0)) (λ_ _ _ _=>eI) (λ_ _ _ _=>(bQ FQ34 (hr.mono yd) (aJ (aG 2) (aJ (aW (eE K) (aG 1) (bT eS aD (aG 3)) (λ_ _=>rfl)) aE))))) aE)))),?_⟩;refine ⟨_,rfl,D,rfl,⟨_,fE.of hD⟩,?_⟩;refine HD (as:=came F es s) (λ_=>true) (λx v=>CQ K H x v) (λx y H'=>cB H' (eQ (cG (bV F es x.1.1*wq s x.1.1*fO x.1.2 (1+iw)))) y) (λx y H1 H2 s r=>r.flat s (cF _)) (by unfold came;rw [aA];omega) hD rys (λv x H' hx rx s'=>?_) (λL zs H2 hL e2 s2 pr=>?_)
 ·obtain ⟨e,he,rfl⟩:=aP.mp hx;obtain ⟨b,cu,z,y,rfl,hb,hcu,rz,ry⟩:=rx.t s'.t;refine ⟨b,[.ref cu,z,y],rfl,gK.of hb,rfl,λQ' h=>h H' (aQ.refl _),λH5 Q' s5 _ k'=>?_⟩;obtain ⟨az,vz,rfl,haz,rvz⟩:=rz.t s5.t;have hsy:=RO.sy e he;obtain ⟨g,hg⟩:∃g,e.2[1+iw]?=some g:=⟨_,aB (by rw [hsy.len];omega)⟩;obtain ⟨vg,hvg,rvg⟩:=rvz.get hg;have gn:=hsy.at_ g (aM hg);refine ⟨_,rfl,_,rfl,_,rfl,_,_,rfl,rfl,?_⟩;refine fZ haz (by have:=cK hvg;rwa [show ((1+iw:Nat):Int)=1+(iw:Int) by omega] at this) ?_;refine jP (fP.of (ry.same s5)) rvg.v (aY _) gn.1 (iA (RO.aq hsh he) RO.pz.1 RO.pz.2 RO.b2) (gn.2.2.up yd) λq6 H6 hq6 e6 s6=>?_;refine k' _ H6 s6 (dU ?_);have em:lX (RH F es s e) g=cG (bV F es e.1*wq s e.1*fO e.2 (1+iw)):=fS (iV (aY _) gn.1) (aY _) (by rw [lV (f:=RH F es s e) (aY _).pos gn.1.pos,BD hg];unfold RH;rw [cP,cP]);rw [<-em];exact e6
 ·rw [CC] at pr;have r2:=BW (g:=λx:cJ × Fr=>cG (bV F es x.1.1*wq s x.1.1*fO x.1.2 (1+iw))) pr;have e3:(came F es s).map (λx:cJ × Fr=>cG (bV F es x.1.1*wq s x.1.1*fO x.1.2 (1+iw)))=es.map λe=>cG (bV F es e.1*wq s e.1*fO e.2 (1+iw)):=by unfold came;rw [List.map_map];rfl
  rw [e3] at r2;have fl:∀f∈es.map (λe=>cG (bV F es e.1*wq s e.1*fO e.2 (1+iw))),Fn (N*Ns^M) B f:=λf hf=>by
   obtain ⟨e,he,rfl⟩:=aP.mp hf;exact (RO.aqs hsh he _).fq
  refine BM e2 (LY.of r2) (LZ fl RO.pz.1 (aX RO.pz.2 (bB yd yd)) (by rw [aA];exact few) (aZ RO.b2 (bB yd yd))) λv H3 s3 r3=>?_;rw [SB (f:=λe:cJ=>bV F es e.1*wq s e.1*fO e.2 (1+iw)) λe _=>⟨aY _,cP _⟩] at r3;exact k v H3 (s2.trans s3) r3
end
abbrev SI:Stmt:=(top 29)
theorem VQ:bW ["trial","rule","found","way"] ["trial","rule"] (aT SI):=⟨rfl,rfl,rfl,Kk,rfl,Kk,Kk⟩
structure TrG(W Ns:Nat)(ws:List (Str × List Fr)):Prop where
 w:ws.length=W
 sh:∀x∈ws,∀f∈x.2,Fn Ns 1 f
 b:∀x∈ws,YS 10 x.2
theorem JT{ws:List (Str × List Fr)}{i:Nat}{x:Str × List Fr}(h:ws[i]?=some x):YZ (QI ws) i=wq x.2:=by
 funext c
 unfold YZ;rw [EL (show (QI ws)[i]?=some x.2 by rw [aI,h];rfl)]
def WC(F W:Nat)(es:List cJ)(ss:List (List Fr))(w:Nat):Fr:=cG (1-kF F es (YZ ss w) w)
@[irreducible] def jO(K:PySem.W.Frag):Sp:=λvs H Q _=>∃(t r:V) (es:List cJ) (F W M N B Ns:Nat) (fs:List Str) (ws:List (Str × List Fr)),vs=[t,r]/\cB H (uQ fs ws) t/\HX K H es r/\mN F W M N B Ns es/\1<=F/\F<=4/\W<=4/\TrG W Ns ws/\∀v H',aQ H H'->cB H' (xE ((List.range W).map (WC F W es (QI ws)))) v->Q v H'
theorem BJ{K:PySem.W.Frag}{H:Hp}{Q:VK}{E:XK}{t r:V}{es:List cJ}{F W M N B Ns:Nat}{fs:List Str}{ws:List (Str × List Fr)}(h1:cB H (uQ fs ws) t)(h2:HX K H es r)(h3:mN F W M N B Ns es)(h4:1<=F)(h5:F<=4)(h6:W<=4)(h7:TrG W Ns ws)(k:∀v H',aQ H H'->cB H' (xE ((List.range W).map (WC F W es (QI ws)))) v->Q v H'):jO K [t,r] H Q E:=by unfold jO;exact ⟨t,r,es,F,W,M,N,B,Ns,fs,ws,rfl,h1,h2,h3,h4,h5,h6,h7,k⟩
section
variable{F W M N B Ns:Nat}{es:List cJ}{s:List Fr}
theorem mN.said(R:mN F W M N B Ns es)(hs:∀f∈s,Fn Ns 1 f)(w:Nat):Qn (N*Ns^M) (64*B) (kF F es (wq s) w):=(Qn.sumL (λe he=>R.aqs hs he (1+w))).le (cC _ R.few)
theorem mN.b64(R:mN F W M N B Ns es):64*B<=2^200:=aZ (dW 64 R.b) Kk
end
section
theorem aAa(F:jA K "wrong" "wrong" SI f fd)(T:kO K mg c)(FQ38:gB dR P w K mg base 1 "ways_of" ["trial"] kW)(FQ24:gB dR P w K mg base 3 "less" ["one","other"] (iG K))(FQ32:gB dR P w K mg base 4 "said_of" ["came","way"] (jQ K))(FQ17:gB dR P w K mg base 4 "comings" ["trial","rule","way"] (jS K)):eJ P w K mg base dR 5 f fd ["trial","rule"] (jO K):=by
 refine F.oky VQ λvs H Q E h=>?_;unfold jO at h;obtain ⟨t,r,es,F,W,M,N,B,Ns,fs,ws,rfl,rt,rr,RO,f1,f4,w4,TQ,k⟩:=h;refine ⟨rfl,λcdv A outer s hr=>?_⟩;refine ⟨_,(aL (bL (i:=2) VQ.nd rfl (Or.inl rfl) (eR aE))
  (aL (eP PassesOwn.never rfl (dX rfl T.b_range (aJ (bQ FQ38 (hr.mono yd) (aJ (aG 0) aE)) aE)) (cW (i:=3) VQ.nd rfl (Or.inl rfl)) (bA (lL (tE PySem.F.plainAttrs_list PySem.F.slot_list_append PySem.F.type_list_append rE (aG 2) (aJ (bQ FQ24 (hr.mono yd) (aJ (jG (v:=.ref c.ONE) rfl T.g_ONE rfl) (aJ (bQ FQ32 (hr.mono yd) (aJ (bQ FQ17 (hr.mono yd) (aJ (aG 0) (aJ (aG 1) (aJ (aG 3) aE)))) (aJ (aG 3) aE))) aE))) aE)))))
  (bA (cH (jF dL (by rfl) T.b_tuple Kk (aJ (aG 2) aE)))))),?_⟩
 refine sT (by show 0<=64;decide) λL H1 hL e1 s1=>?_;refine ⟨_,rfl,?_⟩;refine yS (rt.same s1) ?_;rw [TQ.w];refine ⟨_,rfl,Oo,Oo,?_⟩;rw [Int.toNat_natCast];refine gM (λi σ H'=>∃(o3:Option V) (zs:List V),σ=[some t,some r,some (.ref L),o3]/\aN L H1 H'/\H' L=some (.lst zs)/\bF H' (((List.range i).map (WC F W es (QI ws))).map eQ) zs) ⟨_,[],rfl,(aQ.refl _).but,e1,bF.nil⟩ ?_ ?_
 ·rintro i σ H2 hi ⟨o3,zs,rfl,b2,e2,r2⟩;obtain ⟨x,hx⟩:∃x,ws[i]?=some x:=⟨_,aB (by rw [TQ.w];exact hi)⟩;have hxm:=aM hx;have t2:cQ H1 H2:=b2.t e1;rw [show (0:Int)+(i:Int)=(i:Int) by omega];refine ⟨_,rfl,SA e2,_,rfl,_,rfl,_,rfl,?_⟩;refine wZ ((rt.same s1).flat t2 (mP _ _)) ((rr.t s1.t).t t2) RO f1 f4 hx (TQ.sh x hxm) (TQ.b x hxm) λD ys H3 hD e3 r3 s3=>?_;refine ⟨_,rfl,?_⟩;refine wX e3 r3 RO f4 hi (TQ.sh x hxm) λv4 H4 s4 r4=>?_;have hoc:fP K H4 (1,1) (.ref c.ONE):=⟨c.ONE,rfl,tG T.o_ONE⟩;refine lS hoc (fP.of r4) GM (aY _) (rW (Fn.one 1) yd Kk Nat.one_le_two_pow) (iA (RO.said (TQ.sh x hxm) i) RO.pz.1 RO.pz.2 RO.b64) λq5 H5 hq5 e5 s5=>?_;have ew:lK (1,1) (xM (cG (kF F es (wq x.2) i)))=WC F W es (QI ws) i:=by
   unfold WC;rw [JT hx,<-jJ,wW]
  rw [ew] at e5;have S5:=(s3.trans s4).trans s5;have lz:zs.length=i:=by rw [r2.len,aA,aA,cV]
  refine HM (S5 _ _ e2) Oo λH6 e6 b6=>?_;have t6:=b6.t (S5 _ _ e2);refine ⟨_,_,rfl,(b2.trans S5.but).trans b6,e6,?_⟩;rw [List.range_succ,bN,bN];exact bF.snoc (bF.flat (S5.t.trans t6) (pS _) r2) (cB.flat t6 (cF _) (dU e5))
 ·rintro σ H2 ⟨o3,zs,rfl,b2,e2,r2⟩;refine ⟨_,rfl,L,zs,rfl,.inl ⟨fE.of e2,λl hl=>?_⟩⟩;have sl:=aQ.upd (o:=.tup zs) hl;have el:(upd H2 l (.tup zs)) l=some (.tup zs):=bK;generalize upd H2 l (.tup zs)=H3 at sl el;exact k _ H3 ((aQ.thru hL s1 b2).trans sl) (cB.tup el (r2.same sl))
end
abbrev JH:Stmt:=(top 42)
theorem PZ:bW ["_law_feed_here","_law_ways","_law_last","_law_parts","_law_k","_law_place"] ["_law_feed_here","_law_ways","_law_last"] (aT JH):=⟨rfl,rfl,rfl,Kk,rfl,Kk,Kk⟩
abbrev ZP:Stmt:=(top 43)
theorem cQ9:bW ["_law_counts","_law_face"] ["_law_counts","_law_face"] (aT ZP):=⟨rfl,rfl,rfl,Kk,rfl,Kk,Kk⟩
abbrev LC:Nat:=360360
structure HW(n:Nat)(fs:List Fr):Prop where
 ex:∃ns:List Int,ns.length=n/\(∀x∈ns,0<=x)/\0<ns.sum/\ns.sum<=15/\fs=ns.map λx=>lw x ns.sum
theorem YG:∀s,s<=15->1<=s->s ∣ LC:=Kk
theorem HW.fn{n:Nat}{fs:List Fr}(h:HW n fs):∀f∈fs,Fn LC 1 f/\0<=f.1/\f.1.natAbs<=15/\f.2.natAbs<=15:=by
 obtain ⟨ns,l,h0,hp,h15,rfl⟩:=h.ex;intro f hf;obtain ⟨x,hx,rfl⟩:=aP.mp hf;have le:=nJ h0 hx;have x0:=h0 x hx;have hf:=Fn.of (n:=x) (B:=1) hp Oo;obtain ⟨n1,n2⟩:=hf.num Oo;refine ⟨hf.dvd (YG _ Oo Oo),?_,Oo,Oo⟩;exact Int.ediv_nonneg (a:=x) (b:=((Int.gcd x ns.sum:Nat):Int)) x0 (Int.natCast_nonneg _)
theorem HW.one{n:Nat}{fs:List Fr}(h:HW n fs):mR (fs.map rv)=1:=by
 obtain ⟨ns,l,h0,hp,h15,rfl⟩:=h.ex;have all:∀ms:List Int,mR ((ms.map λx=>lw x ns.sum).map rv)*((ns.sum:Int):Rat)=((ms.sum:Int):Rat):=by
  intro ms
  induction ms with
  | nil=>simp [oV]
  | cons a ms ih =>
   rw [bI,bI,kS,List.sum_cons,Rat.intCast_add,Rat.add_mul,ih,sC hp,Rat.div_def];have:=iX hp;grind
 have:=all ns;have hn:=iX hp;grind
theorem HW.g{n:Nat}{fs:List Fr}(h:HW n fs):RK n fs where
 len:=by
  obtain ⟨ns,l,h0,hp,h15,rfl⟩:=h.ex;rw [aA];exact l
 at_:=λf hf=>by
  obtain ⟨h1,h2,h3,h4⟩:=h.fn f hf;have hb:(15:Nat)<2^3000:=Kk;exact ⟨h1.low,h2,Oo,Oo⟩
 one:=h.one
theorem jH:∀{ns:List Int}{i:Nat}{x y:Int},ns[i]?=some y->(ns.set i x).sum=ns.sum-y+x
 | n::ns,0,x,y,h=>by
  cases (show n=y by simpa using h);rw [List.set_cons_zero,List.sum_cons,List.sum_cons];omega
 | n::ns,i+1,x,y,h=>by
  rw [List.set_cons_succ,List.sum_cons,List.sum_cons,jH (show ns[i]?=some y by simpa using h)];omega
theorem BQ{ns:List Int}{i:Nat}{x:Int}(h:∀n∈ns,0<=n)(hx:0<=x):∀n∈ns.set i x,0<=n:=λn hn=>by
 rcases List.mem_or_eq_of_mem_set hn with h' | rfl
 ·exact h n h'
 ·exact hx
theorem EK{ns:List Int}{i:Nat}{x:Int}(h:ns[i]?=some x):yF (ns.map V.int) (i:Int)=some (.int x):=cK (by rw [aI,h];rfl)
theorem BY{ns:List Int}{i:Nat}(h:i<ns.length):vS (ns.map V.int).length (i:Int)=some i:=by
 unfold vS;rw [if_pos Oo,if_pos (by rw [aA];omega)]
 rfl
theorem IB:∀F:Nat,(List.replicate F (0:Int)).sum=0
 | 0=>rfl
 | n+1=>by rw [List.replicate_succ,List.sum_cons,IB n];rfl
@[irreducible] def oZ:Sp:=λvs H Q _=>∃(p L:Addr) (W:Nat) (b:Bool),vs=[.ref p,.int (W:Int),.bl b]/\bY H p L/\1<=W/\W<=4/\∀v fs H',bY H' p L->aN p H H'->cB H' (xE fs) v->HW (1+W) fs->(b=true->fs[0]?=some (0,1))->Q v H'
theorem FU{H:Hp}{Q:VK}{E:XK}{p L:Addr}{W:Nat}{b:Bool}(F:bY H p L)(h1:1<=W)(h4:W<=4)(k:∀v fs H',bY H' p L->aN p H H'->cB H' (xE fs) v->HW (1+W) fs->(b=true->fs[0]?=some (0,1))->Q v H'):oZ [.ref p,.int (W:Int),.bl b] H Q E:=by
 unfold oZ;exact ⟨p,L,W,b,rfl,F,h1,h4,k⟩
@[irreducible] def kZ:Sp:=λvs H Q _=>∃(x:V) (cs:List Nat) (i:Nat),vs=[x,.int (i:Int)]/\cB H (mL cs) x/\i<cs.length/\cs.length<=64/\∀v H',aQ H H'->cB H' (mL (bS cs i)) v->Q v H'
theorem tJ{H:Hp}{Q:VK}{E:XK}{x:V}{cs:List Nat}{i:Nat}(h1:cB H (mL cs) x)(h2:i<cs.length)(h3:cs.length<=64)(k:∀v H',aQ H H'->cB H' (mL (bS cs i)) v->Q v H'):kZ [x,.int (i:Int)] H Q E:=by
 unfold kZ;exact ⟨x,cs,i,rfl,h1,h2,h3,k⟩
section
theorem oQ9(F:jA K "_law_more" "_law_more" ZP f fd)(T:kO K mg c):eJ P w K mg base dR 1 f fd ["_law_counts","_law_face"] kZ:=by
 refine F.oky cQ9 λvs H Q E h=>?_;unfold kZ at h;obtain ⟨x,cs,i,rfl,rx,hi,hl,k⟩:=h;refine ⟨rfl,λcdv A outer s hr=>?_⟩;obtain ⟨a,rfl,ha⟩:=iQ rx;refine ⟨_,(bA (cH (bT (pH K) (bT (pH K) (gP (sR K) (aG 0) iS (iR (aG 1))) (dZ (aJ (bT eS (aW aR (aG 0) (aG 1) (λ_ _=>rfl)) aD) aE))) (gP (sR K) (aG 0) (iR (bT eS (aG 1) aD)) iS)))),?_⟩;refine ⟨_,rfl,_,rfl,_,rfl,?_⟩;refine JF ha λc2 H2 s2 e2=>?_;refine ⟨_,rfl,_,rfl,?_⟩;have hat:yF (cs.map rL) (i:Int)=some (rL (cs.getD i 0)):=cK (by rw [aI,bO,aB hi];rfl);refine fZ (s2 _ _ ha) hat ?_;refine ⟨_,_,rfl,rfl,?_⟩;refine qH (by show 1<=64;decide) λc3 H3 hc3 e3 s3=>?_;refine LK (s3 _ _ e2) e3 (by rw [bP,aA];show min i cs.length+1<=1000;omega) λc4 H4 s4 e4=>?_;refine ⟨_,rfl,_,rfl,_,_,rfl,rfl,?_⟩;refine ⟨_,rfl,?_⟩;refine DK (k:=i+1) Oo (s4 _ _ (s3 _ _ (s2 _ _ ha))) λc5 H5 s5 e5=>?_;refine LK (s5 _ _ e4) e5 (by rw [bC,bP,List.length_drop,aA];show min i cs.length+1+(cs.length-(i+1))<=1000;omega) λc6 H6 s6 e6=>?_;refine k _ H6 ((((s2.trans s3).trans s4).trans s5).trans s6) (jE ?_);rw [e6,AT hi,bN,bN,List.map_take,List.map_drop]
 rfl
theorem aAD(F:jA K "_law_says" "_law_says" JH f fd)(T:kO K mg c)(FQ4:gB dR P w K mg base 1 "_law_draw" ["_law_feed_here","_law_many"] iH)(FQ8:gB dR P w K mg base 1 "_law_low" ["_law_n","_law_d"] iO):eJ P w K mg base dR 2 f fd ["_law_feed_here","_law_ways","_law_last"] oZ:=by
 refine F.oky PZ λvs H Q E h=>?_;unfold oZ at h;obtain ⟨p,L,W,b,rfl,F,w1,w4,k⟩:=h;refine ⟨rfl,λcdv A outer s hr=>?_⟩;have bw:bits (W:Int)<=9000:=bitsle (bJ (show ((W:Int)).natAbs<=5 by omega) Kk);have bw1:bits (1+(W:Int))<=9000:=bitsle (bJ (show ((1+(W:Int))).natAbs<=5 by omega) Kk);refine ⟨_,(aL (bL (i:=3) PZ.nd rfl (Or.inr rfl) (fG (dM.of (psc:=aT JH) (N:=["_law_feed_here","_law_ways","_law_last","_law_parts","_law_k","_law_place"]) (N':=["_law_k"]) (js:=[]) Kk rfl rfl rfl) (dX rfl T.b_range (aJ (bT eS aD (aG 1)) aE)) (λ_ _ _ _=>eI) (λ_ _ _ _=>aD)))
  (aL (eP PassesOwn.never rfl (dX rfl T.b_range (aJ (bT eS aD (bQ FQ4 (hr.mono yd) (aJ (aG 0) (aJ aD aE)))) aE)) (cW (i:=4) PZ.nd rfl (Or.inl rfl)) (aL (bL (i:=5) PZ.nd rfl (Or.inl rfl) (aW aR (eR (aJ aD (aJ (bQ FQ4 (hr.mono yd) (aJ (aG 0) (aJ (bT eS aD (aG 1)) aE))) aE))) (bQ FQ4 (hr.mono yd) (aJ (aG 0) (aJ aD aE))) (λ_ _=>rfl)))
  (bA (kH (bT eS (bT eS (aW aR (aG 3) (aG 5) (λ_ _=>rfl)) aD) (bQ FQ4 (hr.mono yd) (aJ (aG 0) (aJ aD aE)))) (kI (aG 3) (aG 5) gT)))))
  (aL (kH (bT dC (aW aR (aG 3) aD (λ_ _=>rfl)) (jF rP (by rfl) T.b_int Kk (aJ (IM (aG 2)) aE))) (kI (aG 3) aD gT))
  (aL (wL (mI (fW zJ (eU (LG rfl) (by rfl) T.b_sum Kk (aJ (aG 3) aE)) aD (nomark _)) (bA (kH aD (kI (aG 3) (bT eS aD (bQ FQ4 (hr.mono yd) (aJ (aG 0) (aJ (aG 1) aE)))) gT))) gX))
  (bA (cH (jF dL (by rfl) T.b_tuple Kk (aJ (fG (dM.of (psc:=aT JH) (N:=["_law_feed_here","_law_ways","_law_last","_law_parts","_law_k","_law_place"]) (N':=["_law_part","_law_parts"]) (js:=[3]) Kk rfl rfl rfl) (fF (aG 3)) (λ_ _ _ _=>eI) (λ_ _ _ _=>(bQ FQ8 (hr.mono yd) (aJ (aG 0) (aJ (eU (EY K rfl) (by rfl) T.b_sum Kk (aJ (aG 1) aE)) aE))))) aE)))))))),?_⟩
 refine ⟨_,rfl,_,_,rfl,rfl,_,rfl,Oo,Oo,?_⟩;refine jN (λ_ y _=>∃n,y=.int n/\n=0) (λ_ _ _ _ _ h=>h) Oo (λi H' Q' hi s' k'=>k' _ H' (aQ.refl _) ⟨0,rfl,rfl⟩) (λD ys H1 hD e1 s1 hy hr1=>?_);obtain ⟨zs,rfl,hz⟩:=pM (P:=λ_ n=>n=0) hr1;have lz:zs.length=1+W:=by rw [aA] at hy;omega
 have ez:zs=List.replicate (1+W) 0:=List.eq_replicate_iff.mpr ⟨lz,λb hb=>by obtain ⟨i,h⟩:=cI.mp hb;exact hz i b h⟩;have zsum:zs.sum=0:=by rw [ez];exact IB _
 have znn:∀n∈zs,0<=n:=λn hn=>by rw [ez] at hn;rw [List.eq_of_mem_replicate hn];exact Int.le_refl _
 clear hz hy hr1 ez;have np:=F.ne hD;have nL:=F.neL hD;have F1:=F.same s1;refine ⟨_,rfl,?_⟩;refine dB F1 yd Kk λx H2 x0 x1 F2 s2=>?_;obtain ⟨m,rfl⟩:=oH x0;refine ⟨_,_,rfl,rfl,_,rfl,Oo,Oo,?_⟩;refine gM (λi σ H'=>∃(o4 o5:Option V) (ns:List Int),σ=[some (.ref p),some (.int (W:Int)),some (.bl b),some (.ref D),o4,o5]/\bY H' p L/\aN p H H'/\H' D=some (.lst (ns.map V.int))/\ns.length=1+W/\(∀n∈ns,0<=n)/\ns.sum<=5*(i:Int)) ⟨_,_,zs,rfl,F2,s1.but.trans s2,s2.at np e1,lz,znn,Oo⟩ ?_ ?_
 ·rintro i σ H3 hi ⟨o4,o5,ns,rfl,F3,S3,e3,ln,nn,hsum⟩;refine ⟨_,rfl,_,rfl,_,_,rfl,rfl,?_⟩;refine dB F3 Oo bw1 λy H4 y0 y1 F4 s4=>?_;obtain ⟨j0,rfl⟩:=oH y0;refine sT (by show 2<=64;decide) λq5 H5 hq5 e5 s5=>?_;have F5:=F4.same s5;refine ⟨_,rfl,?_⟩;refine dB F5 yd Kk λz H6 z0 z1 F6 s6=>?_;obtain ⟨mz,rfl⟩:=oH z0;have nq:=F4.ne hq5;obtain ⟨j,hj,hjW⟩:∃j:Nat,([.int 0,.int (j0:Int)]:List V)[mz]?=some (.int (j:Int))/\j<1+W:=by
   rcases (show mz=0\/mz=1 by omega) with rfl | rfl
   ·exact ⟨0,rfl,Oo⟩
   ·exact ⟨j0,rfl,Oo⟩
  refine kC (s6.at nq e5) (cK hj) ?_;have hjl:j<ns.length:=Oo;have hnj:=aB hjl;have e6:H6 D=some (.lst (ns.map V.int)):=s6.at np (s5 _ _ (s4.at np e3));refine ⟨_,rfl,_,rfl,?_⟩;refine kC e6 (EK hnj) ?_;refine ⟨_,_,rfl,rfl,?_⟩;refine ⟨_,rfl,?_⟩;refine dB F6 yd Kk λu H7 u0 u1 F7 s7=>?_;refine ⟨_,_,rfl,rfl,?_⟩;refine ⟨_,rfl,_,rfl,?_⟩;refine JA (s7.at np e6) (BY hjl) λH8 e8 s8=>?_;have b7:aN p H H7:=(((S3.trans s4).trans s5.but).trans s6).trans s7;have nnj:=nn _ (List.getElem_mem hjl);refine ⟨_,_,ns.set j (ns[j]+1+u),rfl,F7.but s8 np nL,aN.thru hD b7 s8,?_,by rw [List.length_set];exact ln,BQ nn Oo,?_⟩
  ·rw [e8,List.map_set]
  ·rw [jH hnj];omega
 ·rintro σ H3 ⟨o4,o5,ns,rfl,F3,S3,e3,ln,nn,hsum⟩;have hsum:ns.sum<=15:=Oo;have h0l:0<ns.length:=Oo;have hn0:=aB h0l;have nn0:=nn _ (List.getElem_mem h0l);have le0:=nJ nn (List.getElem_mem h0l);have snn:=lQ nn;refine ⟨_,rfl,?_⟩;refine kC e3 (EK (i:=0) hn0) ?_;refine ⟨_,rfl,_,rfl,.inr ⟨_,rfl,?_⟩⟩;refine ⟨_,_,rfl,rfl,?_⟩;refine ⟨IntMulOk.of_left (PySem.intBits_le_64 Oo Oo),?_⟩;obtain ⟨x0,hx0,x00,x01,x02⟩:∃x0:Int,ns[0]*(if (!b)=true then 1 else 0)=x0/\0<=x0/\x0<=ns[0]/\(b=true->x0=0):=by
   cases b
   ·exact ⟨_,rfl,by simp;exact nn0,by simp,λz=>by cases z⟩
   ·exact ⟨_,rfl,by simp,by simp;exact nn0,λ_=>by simp⟩
  refine ⟨_,rfl,?_⟩;refine JA e3 (BY h0l) λH4 e4 s4=>?_;have e4:H4 D=some (.lst ((ns.map V.int).set 0 (.int (ns[0]*(if (!b)=true then 1 else 0))))):=e4;rw [hx0,<-List.map_set] at e4;have F4:=F3.but s4 np nL;have S4:aN p H H4:=aN.thru hD S3 s4;have sum4:(ns.set 0 x0).sum<=15:=by rw [jH hn0];omega
  have nn4:=BQ (i:=0) nn x00;have h40:(ns.set 0 x0)[0]?=some x0:=by rw [List.getElem?_set_self h0l]
  have l4:(ns.set 0 x0).length=1+W:=by rw [List.length_set];exact ln
  generalize ns.set 0 x0=ms at e4 sum4 nn4 h40 l4;have nn4s:=lQ nn4;refine ⟨λσ H'=>∃ms:List Int,σ=[some (.ref p),some (.int (W:Int)),some (.bl b),some (.ref D),o4,o5]/\bY H' p L/\aN p H H'/\H' D=some (.lst (ms.map V.int))/\ms.length=1+W/\(∀n∈ms,0<=n)/\0<ms.sum/\ms.sum<=15/\(b=true->ms[0]?=some 0),?_,?_⟩
  ·rintro σ H5 ⟨ms,rfl,F5,S5,e5,l5,nn5,p5,sum5,b5⟩;refine ⟨_,rfl,D,rfl,⟨_,fE.of e5⟩,?_⟩;refine nQ (λi y H'=>∃n,ms[i]?=some n/\cB H' (eQ (lw n ms.sum)) y) (λi y H1 H2 s ⟨n,h1,h2⟩=>⟨n,h1,h2.flat s (cF _)⟩) (by rw [aA];omega) e5 (λi x H' Q' hx s' k'=>?_) (λD3 ys H8 hD3 hD8 s8 hy8 hr8=>?_)
   ·rw [aI] at hx;obtain ⟨n,hn',rfl⟩:=fN.mp hx;refine ⟨_,rfl,_,rfl,?_⟩;refine ZW (fE.of (s' _ _ e5)) ?_;refine gS p5 (bJ (show ms.sum.natAbs<=15 by omega) Kk) ?_;intro q9 H9 hq9 e9 s9;exact k' _ H9 s9 ⟨n,hn',dU e9⟩
   ·refine ⟨D3,ys,rfl,.inl ⟨fE.of hD8,λl hl=>?_⟩⟩;have sl:=aQ.upd (o:=.tup ys) hl;have el:(upd H8 l (.tup ys)) l=some (.tup ys):=bK;generalize upd H8 l (.tup ys)=H9 at sl el;refine k _ (ms.map λn=>lw n ms.sum) H9 ((F5.same s8).same sl) (S5.trans (s8.trans sl).but) (cB.tup el ?_) ⟨ms,l5,nn5,p5,sum5,rfl⟩ λhb=>?_
    ·refine bF.ofIdx (by rw [hy8,aA,aA,aA]) λi y hi=>?_;obtain ⟨n,h1,h2⟩:=hr8 i y hi;exact ⟨eQ (lw n ms.sum),by rw [aI,aI,h1];rfl,h2.same sl⟩
    ·rw [aI,b5 hb];exact congrArg some (EA p5)
  ·refine ⟨_,rfl,?_⟩;refine ZW (fE.of e4) ?_;refine ⟨rfl,_,rfl,?_⟩;refine tZ (λhz=>?_) (λhz=>?_)
   ·have hz:ms.sum=0:=by injection hz
    refine ⟨_,rfl,_,rfl,_,rfl,?_⟩;refine dB F4 Oo bw λy H5 y0 y1 F5 s5=>?_;obtain ⟨j,rfl⟩:=oH y0;refine ⟨_,_,rfl,rfl,?_⟩;have hjl:1+j<ms.length:=Oo;have hjx:vS (ms.map V.int).length (1+(j:Int))=some (1+j):=by
     rw [show (1:Int)+(j:Int)=((1+j:Nat):Int) by omega];exact BY hjl
    refine JA (s5.at np e4) hjx λH6 e6 s6=>?_;rw [<-List.map_set] at e6;have hnj:=aB hjl;have all0:∀n∈ms,n=0:=λn hn=>by
     have h1:=nn4 n hn;have h2:=nJ nn4 hn;omega
    have hj0:=all0 _ (List.getElem_mem hjl);refine ⟨ms.set (1+j) 1,rfl,F5.but s6 np nL,aN.thru hD (S4.trans s5) s6,e6,by rw [List.length_set];exact l4,BQ nn4 yd,by rw [jH hnj];omega,by rw [jH hnj];omega,λhb=>?_⟩;rw [List.getElem?_set_ne Oo,h40,x02 hb]
   ·have hz:¬ms.sum=0:=λz=>hz (congrArg V.int z);exact ⟨ms,rfl,F4,S4,e4,l4,nn4,Oo,sum4,λhb=>by rw [h40,x02 hb]⟩
end
abbrev NH:Stmt:=(top 44)
theorem uJ:bW ["_law_feed_here","_law_faces","_law_ways","_law_room","_law_sizes","_law_most","_law_entries","_law_level","_law_k","_law_later","_law_counts","_law_says_here","_law_face"] ["_law_feed_here","_law_faces","_law_ways","_law_room"] (aT NH):=⟨rfl,rfl,rfl,Kk,rfl,Kk,Kk⟩
def bs(f:List Nat->List Fr)(c:List Nat):Nat:=if fO (f c) 0=0 then 1 else 0
theorem pZ{f:List Nat->List Fr}{c:List Nat}:bs f c=0↔fO (f c) 0≠0:=by
 unfold bs;split
 ·rename_i h;exact ⟨(λz=>by cases z),λz=>absurd h z⟩
 ·rename_i h;exact ⟨λ_=>h,λ_=>rfl⟩
theorem vQ{F:Nat}(hF:1<=F){b b':List Nat->Nat}:∀{k:Nat},(∀c,c.sum<k->b c=b' c)->lvl F b k=lvl F b' k
 | 0,_=>rfl
 | k+1,h=>by
  have e:=vQ hF (b:=b) (b':=b') (k:=k) λc hc=>h c Oo;unfold lvl;rw [e];refine List.filter_congr λd _=>?_;rw [Bool.eq_iff_iff,List.any_eq_true,List.any_eq_true];have same:∀c∈lvl F b' k,b c=b' c:=λc hc=>h c (by have:=(fT ((gL hF k).subset hc)).2;omega);exact ⟨λ⟨c,hc,q⟩=>⟨c,hc,by rw [<-same c hc];exact q⟩,λ⟨c,hc,q⟩=>⟨c,hc,by rw [same c hc];exact q⟩⟩
structure RN(F W M:Nat)(es:List cJ):Prop where
 ex:∃f:List Nat->List Fr,es=BA F M (bs f) f/\(∀c,bs f c=0->c.sum<M)/\∀c∈DO F M (bs f),HW (1+W) (f c)
 f1:1<=F
 f4:F<=4
 m5:M<=5
 few:(rise F M).length<=40
theorem RN.rl{F W M:Nat}{es:List cJ}(h:RN F W M es):uL F es:=by
 obtain ⟨f,rfl,on,sy⟩:=h.ex;have fst:(BA F M (bs f) f).map (·.1)=DO F M (bs f):=by unfold BA;rw [List.map_map];exact List.map_id' _
 refine ⟨?_,?_,?_,?_,?_,?_,?_⟩
 ·obtain ⟨r,hr⟩:=JM (F:=F) (M:=M) (best:=bs f);exact ⟨_,_,by unfold BA;rw [hr,bI],rfl⟩
 ·intro e he;obtain ⟨c,hc,rfl⟩:=aP.mp he;exact (DM h.f1 hc).1
 ·rw [fst];exact (DP F h.f4 M h.m5).sublist (sS h.f1)
 ·unfold BA;rw [List.pairwise_map];exact (sD F M).sublist (sS h.f1)
 ·intro e he h0 g hg;obtain ⟨c,hc,rfl⟩:=aP.mp he;rw [fst];exact JN h.f1 on hc (pZ.mpr h0) hg
 ·intro d hd hn;rw [fst] at hd;obtain ⟨c,hc,hb,j,hj,e⟩:=JO h.f1 hd hn;exact ⟨(c,f c),aP.mpr ⟨c,hc,rfl⟩,pZ.mp hb,j,hj,e⟩
 ·intro e he;obtain ⟨c,hc,rfl⟩:=aP.mp he;exact (sy c hc).g.nn 0
theorem RN.g{F W M:Nat}{es:List cJ}(h:RN F W M es){Ns:Nat}(n0:0<Ns)(hz:LC^6*Ns^M<2^2000):mN F W M (LC^6) (5^40) Ns es:=by
 have RL:=h.rl;obtain ⟨f,rfl,on,sy⟩:=h.ex;have sy':∀e∈BA F M (bs f) f,HW (1+W) e.2:=λe he=>by
  obtain ⟨c,hc,rfl⟩:=aP.mp he;exact sy c hc
 have sums:∀e∈BA F M (bs f) f,e.1.sum<=M:=λe he=>by
  obtain ⟨c,hc,rfl⟩:=aP.mp he;exact (DM h.f1 hc).2
 have hl:(BA F M (bs f) f).length<=40:=by
  unfold BA;rw [aA];exact aZ (sS h.f1).length_le h.few
 have qv:∀e∈BA F M (bs f) f,∀v,Qn LC 1 (fO e.2 v):=λe he v=>by
  by_cases hv:v<e.2.length
  ·exact ((sy' e he).fn _ (rH (a:=(0,1)) hv)).1.q
  ·rw [wQ Oo];exact Qn.zero _ _
 have fl:∀e∈BA F M (bs f) f,Qn (LC^e.1.sum) (5^40) (bV F (BA F M (bs f) f) e.1):=λe he=>by
  have:=RL.qn (N:=LC) (λe he=>qv e he 0) h.f4 (BA F M (bs f) f).length (aF _) e.1;rw [bG] at this;exact this.le (bB yd hl)
 have m5:=h.m5;refine ⟨RL,sums,λe he=>(sy' e he).g,Oo,λe he h0=>?_,λe he=>?_,λe he v=>?_,Nat.pow_pos yd,n0,hz,Kk,Oo⟩
 ·obtain ⟨c,hc,rfl⟩:=aP.mp he;exact on c (pZ.mpr h0)
 ·exact (fl e he).dvd (Nat.pow_dvd_pow _ (by have:=sums e he;omega))
 ·have:=(fl e he).mul (qv e he v);rw [Nat.mul_one,<-Nat.pow_succ] at this;exact this.dvd (Nat.pow_dvd_pow _ (by have:=sums e he;omega))
abbrev uO(e:cJ):PyData:=.tuple [mL e.1,xE e.2]
abbrev uT(es:List cJ):PyData:=.tuple (es.map uO)
theorem AE(e:cJ):eN (uO e)=true:=by
 show (eN (mL e.1)&&(eN (xE e.2)&&true))=true;rw [iY,tN];rfl
theorem vV:∀es:List cJ,dO (es.map uO)=true
 | []=>rfl
 | e::es=>by show (eN (uO e)&&dO (es.map uO))=true;rw [vV es,AE];rfl
theorem vJ(es:List cJ):eN (uT es)=true:=vV es
theorem SH{K:PySem.W.Frag}{H:Hp}{gs:List Fr}{v:V}(h:cB H (xE gs) v):RM K H gs v:=by
 obtain ⟨sa,sx,rfl,hsa,r⟩:=qQ h;refine ⟨sa,sx,rfl,hsa,⟨eF r,λi x hx=>?_⟩⟩;obtain ⟨f,h1,h2⟩:=dQ r hx;exact ⟨f,h1,.inl h2⟩
theorem TH{K:PySem.W.Frag}{H:Hp}{es:List cJ}{v:V}(h:cB H (uT es) v):HX K H es v:=by
 obtain ⟨a,xs,rfl,ha,r⟩:=fX h;refine ⟨a,xs,rfl,ha,eF r,λi x hx=>?_⟩;obtain ⟨e,he,re⟩:=dQ r hx;obtain ⟨b,us,rfl,hb,rus⟩:=fX re;obtain ⟨u,z,rfl,ru,rz⟩:=kB rus;obtain ⟨cu,rfl,hcu⟩:=iQ ru;exact ⟨e,he,b,cu,z,rfl,hb,hcu,SH rz⟩
theorem bY.t{H H':Hp}{p L:Addr}(F:bY H p L)(s:aN p H H'):cQ H H':=let ⟨_,hx⟩:=F.lst;s.t hx
theorem AD(x y:Int):PyData.eqv (.int x) (.int y)=decide (x=y):=by
 unfold PyData.eqv
 first | rfl | (by_cases h:x=y <;> simp [h])
theorem KW(f g:Fr):PyData.eqv (eQ f) (eQ g)=decide (f=g):=by
 obtain ⟨f1,f2⟩:=f;obtain ⟨g1,g2⟩:=g;have e:PyData.eqv (eQ (f1,f2)) (eQ (g1,g2))=(PyData.eqv (.int f1) (.int g1)&&(PyData.eqv (.int f2) (.int g2)&&true)):=rfl;rw [e,AD,AD];by_cases h:f1=g1 <;> by_cases h':f2=g2 <;> simp [h,h']
theorem uE:∀a b:List PyData,dO (a++b)=(dO a&&dO b)
 | [],b=>by rw [List.nil_append];rfl
 | x::a,b=>by show (eN x&&dO (a++b))=((eN x&&dO a)&&dO b);rw [uE a b,Bool.and_assoc]
theorem rK(g:List Nat->List Fr):∀cs:List (List Nat),dO (cs.map λc=>uO (c,g c))=true
 | []=>rfl
 | c::cs=>by show (eN (uO (c,g c))&&dO (cs.map λc=>uO (c,g c)))=true;rw [rK g cs,AE];rfl
def szs(F:Nat):List Int:=if F=2 then [1,3,6,10,15,21] else if F=3 then [1,4,10,20,35] else [1,5,15,35]
theorem MU:∀F,F<=4->∀R,R<=40->(2<=F/\1<=R->0<((szs F).filter λs=>decide (s<=((R:Nat):Int))).length/\((szs F).filter λs=>decide (s<=((R:Nat):Int))).length<=6):=Kk
theorem MT:∀F,F<=4->∀R,R<=40->∀m,m<=6->(2<=F/\m<((szs F).filter λs=>decide (s<=((R:Nat):Int))).length->(rise F m).length<=R):=Kk
@[irreducible] def mX:Sp:=λvs H Q _=>∃(p L:Addr) (F W R:Nat),vs=[.ref p,.int (F:Int),.int (W:Int),.int (R:Int)]/\bY H p L/\2<=F/\F<=4/\1<=W/\W<=4/\1<=R/\R<=40/\∀v es M H',bY H' p L->aN p H H'->cB H' (uT es) v->RN F W M es->(rise F M).length<=R->Q v H'
theorem BO{H:Hp}{Q:VK}{E:XK}{p L:Addr}{F W R:Nat}(h:bY H p L)(h1:2<=F)(h2:F<=4)(h3:1<=W)(h4:W<=4)(h5:1<=R)(h6:R<=40)(k:∀v es M H',bY H' p L->aN p H H'->cB H' (uT es) v->RN F W M es->(rise F M).length<=R->Q v H'):mX [.ref p,.int (F:Int),.int (W:Int),.int (R:Int)] H Q E:=by
 unfold mX;exact ⟨p,L,F,W,R,rfl,h,h1,h2,h3,h4,h5,h6,k⟩
theorem UV{F k:Nat}{b:List Nat->Nat}(f1:1<=F)(f4:F<=4)(hk:k<=5):(lvl F b k).Nodup:=by
 have h:(lvl F b k).Sublist (rise F k):=by
  refine (gL f1 k).trans ?_;unfold rise;rw [List.range_succ,List.flatMap_append];simp
 exact (DP F f4 k hk).sublist h
section
theorem aAE(F:jA K "_law_rule" "_law_rule" NH f fd)(T:kO K mg c)(FQ4:gB dR P w K mg base 1 "_law_draw" ["_law_feed_here","_law_many"] iH)(FQ12:gB dR P w K mg base 2 "_law_says" ["_law_feed_here","_law_ways","_law_last"] oZ)(FQ9:gB dR P w K mg base 1 "_law_more" ["_law_counts","_law_face"] kZ):eJ P w K mg base dR 3 f fd ["_law_feed_here","_law_faces","_law_ways","_law_room"] mX:=by
 refine F.oky uJ λvs H Q E h=>?_;unfold mX at h;obtain ⟨p,L,F,W,R,rfl,FA,f2,f4,w1,w4,r1,r40,k⟩:=h;refine ⟨rfl,λcdv A outer s hr=>?_⟩;have f1:1<=F:=Oo;obtain ⟨sz0,sz6⟩:=MU F f4 R r40 ⟨f2,r1⟩;have szr:=MT F f4 R r40;refine ⟨_,(aL (bL (i:=4) uJ.nd rfl (Or.inl rfl) (aW aR (eR (aJ (eR (aJ aD (aJ aD (aJ aD (aJ aD (aJ aD (aJ aD aE))))))) (aJ (eR (aJ aD (aJ aD (aJ aD (aJ aD (aJ aD aE)))))) (aJ (eR (aJ aD (aJ aD (aJ aD (aJ aD aE))))) aE)))) (bT qY (aG 1) aD) (λ_ _=>rfl)))
  (aL (bL (i:=5) uJ.nd rfl (Or.inl rfl) (bQ FQ4 (hr.mono yd) (aJ (aG 0) (aJ (eU gI (by rfl) T.b_len Kk (aJ (fG (dM.of (psc:=aT NH) (N:=["_law_feed_here","_law_faces","_law_ways","_law_room","_law_sizes","_law_most","_law_entries","_law_level","_law_k","_law_later","_law_counts","_law_says_here","_law_face"]) (N':=["_law_size","_law_room"]) (js:=[3]) Kk rfl rfl rfl) (fF (aG 4)) (λ_ _ _ _=>MJ (fW QW (aG 0) (aG 1) (nomark _))) (λ_ _ _ _=>(aG 0))) aE)) aE))))
  (aL (bL (i:=6) uJ.nd rfl (Or.inl rfl) (eR aE))
  (aL (bL (i:=7) uJ.nd rfl (Or.inl rfl) (eR (aJ (bT OI (dZ (aJ aD aE)) (aG 1)) aE)))
  (aL (eP PassesOwn.never rfl (dX rfl T.b_range (aJ (bT eS (aG 5) aD) aE)) (cW (i:=8) uJ.nd rfl (Or.inl rfl)) (aL (bL (i:=9) uJ.nd rfl (Or.inl rfl) oR)
  (aL (eP PassesOwn.never rfl (fF (aG 7)) (cW (i:=10) uJ.nd rfl (Or.inl rfl)) (aL (bL (i:=11) uJ.nd rfl (Or.inl rfl) (bQ FQ12 (hr.mono yd) (aJ (aG 0) (aJ (aG 2) (aJ (lP zJ (aG 8) (aG 5) (nomark _)) aE)))))
  (aL (lL (tE PySem.F.plainAttrs_list PySem.F.slot_list_append PySem.F.type_list_append rE (aG 6) (aJ (dZ (aJ (aG 10) (aJ (aG 11) aE))) aE)))
  (bA (eP PassesOwn.never rfl (dX rfl T.b_range (aJ (bT dC (aG 1) (jF rP (by rfl) T.b_int Kk (aJ (lP (KG hr.units) (aW aR (aG 11) aD (λ_ _=>rfl)) (dZ (aJ aD (aJ aD aE))) (nomark _)) aE))) aE)) (cW (i:=12) uJ.nd rfl (Or.inl rfl)) (bA (sM hr.u1 (aG 9) (bQ FQ9 (hr.mono yd) (aJ (aG 10) (aJ (aG 12) aE))) rY)))))))
  (bA (bL (i:=7) uJ.nd rfl (Or.inl rfl) (eU (PL rfl) (by rfl) T.b_sorted Kk (aJ (aG 9) aE)))))))
  (bA (cH (jF dL (by rfl) T.b_tuple Kk (aJ (aG 6) aE))))))))),?_⟩
 refine sT (by show 6<=64;decide) λc1 H1 hc1 e1 s1=>?_;refine sT (by show 5<=64;decide) λc2 H2 hc2 e2 s2=>?_;refine sT (by show 4<=64;decide) λc3 H3 hc3 e3 s3=>?_;refine sT (by show 3<=64;decide) λc4 H4 hc4 e4 s4=>?_;have s14:=((s1.trans s2).trans s3).trans s4;refine ⟨_,rfl,_,_,rfl,rfl,?_⟩;obtain ⟨Sz,hSz,eSz⟩:∃Sz:Addr,([.ref c1,.ref c2,.ref c3]:List V)[F-2]?=some (.ref Sz)/\H4 Sz=some (.lst ((szs F).map V.int)):=by
  rcases (show F=2\/F=3\/F=4 by omega) with rfl | rfl | rfl
  ·exact ⟨c1,rfl,((s2.trans s3).trans s4) _ _ e1⟩
  ·exact ⟨c2,rfl,(s3.trans s4) _ _ e2⟩
  ·exact ⟨c3,rfl,s4 _ _ e3⟩
 refine kC e4 (by rw [show (F:Int)-2=((F-2:Nat):Int) by omega];exact cK hSz) ?_;have F4:=FA.same s14;refine ⟨_,rfl,_,rfl,Sz,rfl,⟨_,fE.of eSz⟩,?_⟩;have rS:bF H4 ((szs F).map PyData.int) ((szs F).map V.int):=wI _;have l6:(szs F).length<=6:=by unfold szs;split;decide;split;decide;decide
 refine HB rS (λs=>decide (s<=((R:Nat):Int))) (by rw [aA];omega) eSz (λx c' H' Q' hc' rc s' k'=>?_) (λx H' Q' k'=>⟨_,rfl,k'⟩) (λD ys H5 hD e5 s5 ry=>?_)
 ·cases (show x=V.int c' from rc);refine ⟨_,rfl,_,rfl,_,_,rfl,rfl,_,rfl,?_⟩;exact k' H' (aQ.refl _)
 have lys:ys.length=((szs F).filter λs=>decide (s<=((R:Nat):Int))).length:=by rw [ry.len,aA]
 refine TK e5 ?_;have F5:=F4.same s5;refine dB F5 Oo (bitsle (bJ (show ((ys.length:Nat):Int).natAbs<=6 by omega) Kk)) λx H6 x0 x1 F6 b6=>?_;obtain ⟨M,rfl⟩:=oH x0;have hM:=szr M Oo ⟨f2,Oo⟩;have m5:M<=5:=Oo;refine sT (by show 0<=64;decide) λEn H7 hEn e7 s7=>?_;refine qH (by show 1<=64;decide) λt8 H8 ht8 e8 s8=>?_;refine ⟨_,rfl,?_⟩;refine aAG e8 f2 Oo λt9 H9 s9 e9=>?_;refine sT (by show 1<=64;decide) λLv H10 hLv e10 s10=>?_;have s710:=(s8.trans s9).trans s10;have s610:=s7.trans s710;have B6:aN p H H6:=(s14.trans s5).but.trans b6;have hEnH:H En=none:=aN.free (p:=p) B6 F6.there hEn;have nEp:En≠p:=F6.ne hEn;have nEL:En≠L:=F6.neL hEn;have e10E:=s710 _ _ e7;have nLE:Lv≠En:=λz=>by rw [z,(s8.trans s9) _ _ e7] at hLv;cases hLv
 have F10:=F6.same s610;have B10:aN p H H10:=B6.trans s610.but;have r9:cB H10 (mL (List.replicate F 0)) (.ref t9):=by
  refine jE ?_;rw [s10 _ _ e9,List.map_replicate];rfl
 have L10:AY H10 Lv (lvl F (bs λ_=>[]) 0):=⟨_,e10,bF.cons r9 bF.nil⟩;refine ⟨_,rfl,_,_,rfl,rfl,_,rfl,Oo,Oo,?_⟩;rw [show ((M:Int)+1).toNat=M+1 by omega];refine gM (λkk σ H'=>∃(o8 o9 o10 o11 o12:Option V) (Lv:Addr) (vs:List V) (g:List Nat->List Fr),σ=[some (.ref p),some (.int (F:Int)),some (.int (W:Int)),some (.int (R:Int)),some (.ref Sz),some (.int (M:Int)),some (.ref En),some (.ref Lv),o8,o9,o10,o11,o12]/\bY H' p L/\aN p H H'/\H' En=some (.lst vs)/\bF H' (((List.range kk).flatMap (lvl F (bs g))).map λc=>uO (c,g c)) vs/\AY H' Lv (lvl F (bs g) kk)/\Lv≠En/\Lv≠p/\(∀c,g c≠[]->c.sum<kk/\(c.sum=M->bs g c≠0))/\∀i,i<kk->∀c∈lvl F (bs g) i,HW (1+W) (g c)) ⟨_,_,_,_,_,Lv,[],λ_=>[],rfl,F10,B10,e10E,bF.nil,L10,nLE,(F6.same (s7.trans (s8.trans s9))).ne hLv,λc h=>absurd rfl h,λi hi=>Oo⟩ ?_ ?_
 ·rintro kk σ H11 hkk ⟨o8,o9,o10,o11,o12,Lv1,vs,g,rfl,F11,B11,e11,r11,L11,nLE1,nLp1,g11,y11⟩;have hk5:kk<=5:=Oo;obtain ⟨ls,eL11,rL11,lls⟩:=L11.len;rw [show (0:Int)+(kk:Int)=(kk:Int) by omega];intro Dl hDl;have s12:=aQ.upd (o:=.dT []) hDl;have e12:(upd H11 Dl (.dT [])) Dl=some (.dT []):=bK;generalize upd H11 Dl (.dT [])=H12 at s12 e12 ⊢;have nDE:Dl≠En:=λz=>by rw [z,e11] at hDl;cases hDl
  have nDL:Dl≠Lv1:=λz=>by rw [z,eL11] at hDl;cases hDl
  have nDp:Dl≠p:=F11.ne hDl;have nDpL:Dl≠L:=F11.neL hDl;have hDlH:H Dl=none:=aN.free (p:=p) B11 F11.there hDl;refine ⟨_,rfl,Lv1,rfl,⟨_,fE.of (s12 _ _ eL11)⟩,?_⟩;obtain ⟨cs,hcs⟩:∃cs,cs=lvl F (bs g) kk:=⟨_,rfl⟩;have csub:∀c∈cs,c.length=F/\c.sum=kk:=λc hc=>by rw [hcs] at hc;exact fT ((gL f1 kk).subset hc)
  have cnd:cs.Nodup:=by rw [hcs];exact UV f1 f4 hk5
  have lcs:cs.length<=56:=by rw [hcs];exact aZ (gL f1 kk).length_le (vZ F f4 kk hk5)
  have lvs:((List.range kk).flatMap (lvl F (bs g))).length<=400:=aZ (uD (gL f1) (List.range kk)).length_le (HN F f4 kk Oo);rw [<-hcs] at rL11 lls;refine iJ (xs:=ls) (λj σ H'=>∃(o10 o11 o12:Option V) (vs:List V) (kvs:List (List eG × V)) (ks:List (List Int)) (h:List Nat->List Fr),σ=[some (.ref p),some (.int (F:Int)),some (.int (W:Int)),some (.int (R:Int)),some (.ref Sz),some (.int (M:Int)),some (.ref En),some (.ref Lv1),some (.int (kk:Int)),some (.ref Dl),o10,o11,o12]/\bY H' p L/\aN p H H'/\H' En=some (.lst vs)/\vs.length<=400+j/\H' Lv1=some (.lst ls)/\cQ H11 H'/\(∀c,c ∉ cs.take j->h c=g c)/\bF H' ((((List.range kk).flatMap (lvl F (bs g))).map λc=>uO (c,g c))++(cs.take j).map λc=>uO (c,h c)) vs/\(∀c∈cs.take j,HW (1+W) (h c)/\(kk=M->bs h c≠0))/\H' Dl=some (.dT kvs)/\kvs.length<=4*j/\kvs.map (·.1)=ks.map kT/\ks.Nodup/\∀d,d∈ks ↔ ∃c∈cs.take j,bs h c=0/\∃f,f<F/\d=ci (bS c f))
   ⟨_,_,_,vs,[],[],g,rfl,F11.same s12,B11.trans s12.but,s12 _ _ e11,?_,s12 _ _ eL11,s12.t,λ_ _=>rfl,?_,(λc hc=>by rw [List.take_zero] at hc;cases hc),e12,aF _,rfl,List.nodup_nil,λd=>⟨(λh=>by cases h),λ⟨c,hc,_⟩=>by rw [List.take_zero] at hc;cases hc⟩⟩ (λj σ H' _ q=>?_) ?_ ?_
  ·have:=eF (g:=λc=>uO (c,g c)) r11;omega
  ·rw [List.take_zero,List.map_nil,List.append_nil];exact r11.same s12
  ·obtain ⟨_,_,_,_,_,_,_,_,_,_,_,_,q,_⟩:=q;exact fE.of q
  ·rintro j x σ H13 hx ⟨o10,o11,o12,vs3,kvs,ks,h,rfl,F13,B13,e13,lv13,eL13,t13,hg,r13,y13,e13d,lk13,k1,k2,k3⟩;obtain ⟨cc,hcc,rc⟩:=dQ rL11 hx;have hj:j<cs.length:=(aH.mp hcc).1;obtain ⟨lc,sc⟩:=csub cc (aM hcc);obtain ⟨ac,rfl,hac⟩:=iQ (rc.flat t13 (iY _));have hnot:cc ∉ cs.take j:=λhm=>by
    obtain ⟨i,hi⟩:=cI.mp hm;have hij:i<j:=by have:=(aH.mp hi).1;rw [bP] at this;omega
    rw [List.getElem?_take_of_lt hij] at hi;have:=(List.getElem?_inj Oo cnd).mp (hi.trans hcc.symm);omega
   have nEp':p≠En:=nEp.symm;refine ⟨_,rfl,_,rfl,_,rfl,_,rfl,rfl,?_⟩;refine FU F13 w1 w4 λvsy fs H14 F14 b14 rsy sy hstop=>?_;obtain ⟨sa,sx,rfl,hsa,rsx⟩:=qQ rsy;obtain ⟨f0,fr,efs,l0,z0,nn0,v0,on0⟩:=sy.g.hd;have e14:=b14.at nEp e13;have e14d:=b14.at nDp e13d;have t14:cQ H13 H14:=F13.t b14;have hac14:=t14 _ _ hac;refine ⟨_,rfl,SA e14,_,rfl,_,rfl,?_⟩;refine qH (by show 2<=64;decide) λq15 H15 hq15 e15 s15=>?_;refine HM (s15 _ _ e14) Oo λH16 e16 b16=>?_;have t16:=b16.t (s15 _ _ e14);have F16:=(F14.same s15).but b16 nEp nEL;have B16:aN p H H16:=aN.thru hEnH ((B13.trans b14).trans s15.but) b16;have e16d:=b16.at nDE (s15 _ _ e14d);have t1416:cQ H14 H16:=s15.t.trans t16;have hac16:=t1416 _ _ hac14;have hsa16:=t1416 _ _ hsa;have rsx16:=rsx.flat t1416 (pS _);rw [efs] at rsx16;obtain ⟨y0,ys',esx,ry0,_⟩:=(show ∃x xs',sx=x::xs'/\cB H16 (eQ f0) x/\bF H16 (fr.map eQ) xs' by rw [bI] at rsx16;unfold bF at rsx16;exact rsx16);refine ⟨_,rfl,_,rfl,?_⟩;refine fZ hsa16 (cK (j:=0) (by rw [esx];rfl)) ?_;refine qH (by show 2<=64;decide) λq17 H17 hq17 e17 s17=>?_;refine reD (ry0.same s17) (dU (f:=(0,1)) e17) rfl rfl ?_;refine .inr ⟨_,rfl,?_⟩;obtain ⟨cn,hcn,hon⟩:∃cn:Nat,(F:Int)*(if (false == PyData.eqv (eQ f0) (eQ (0,1)))=true then 1 else 0)=(cn:Int)/\cn=if f0=(0,1) then 0 else F:=by
    rw [KW];by_cases z:f0=(0,1)
    ·exact ⟨0,by rw [eA z];simp,by rw [if_pos z]⟩
    ·exact ⟨F,by rw [dF z];simp,by rw [if_neg z]⟩
   have cnF:cn<=F:=by rw [hon];split <;> omega
   refine ⟨_,_,rfl,rfl,IntMulOk.of_left (PySem.intBits_le_64 Oo Oo),?_⟩;refine ⟨_,rfl,?_⟩;show _/\_/\_;rw [hcn];refine ⟨Oo,Oo,?_⟩;have F17:=F16.same s17;have e17d:=s17 _ _ e16d;obtain ⟨h',hh'⟩:∃h':List Nat->List Fr,h'=λd=>if d=cc then fs else h d:=⟨_,rfl⟩
   have hcc':h' cc=fs:=by rw [hh'];exact if_pos rfl
   have hne':∀d,d≠cc->h' d=h d:=λd hd=>by rw [hh'];exact if_neg hd
   have bne:∀d,d≠cc->bs h' d=bs h d:=λd hd=>by unfold bs;rw [hne' d hd]
   have tne:∀d∈cs.take j,d≠cc:=λd hd z=>hnot (z ▸ hd);have bcc:bs h' cc=0 ↔ ¬f0=(0,1):=by
    rw [pZ,hcc',<-on0];constructor
    ·intro z q;rw [q] at z;exact absurd z yd
    ·intro z;refine bU λq=>z ?_;have z1:f0.1=0:=Oo;have h1:=l0.low;rw [z1] at h1;have hp:=l0.pos;have:Int.gcd 0 f0.2=f0.2.natAbs:=Int.gcd_zero_left _;rw [this] at h1;have h2:f0.2=1:=Oo;exact Prod.ext z1 h2
   refine gM (λg' σ H'=>∃(o12:Option V) (kvs:List (List eG × V)) (ks:List (List Int)),σ=[some (.ref p),some (.int (F:Int)),some (.int (W:Int)),some (.int (R:Int)),some (.ref Sz),some (.int (M:Int)),some (.ref En),some (.ref Lv1),some (.int (kk:Int)),some (.ref Dl),some (.ref ac),some (.ref sa),o12]/\aN Dl H17 H'/\H' Dl=some (.dT kvs)/\kvs.length<=4*j+g'/\kvs.map (·.1)=ks.map kT/\ks.Nodup/\∀d,d∈ks↔(∃c∈cs.take j,bs h' c=0/\∃f,f<F/\d=ci (bS c f))\/∃f,f<g'/\d=ci (bS cc f))
    ⟨_,kvs,ks,rfl,(aQ.refl _).but,e17d,Oo,k1,k2,λd=>?_⟩ ?_ ?_
   ·rw [k3];constructor
    ·rintro ⟨c,hc,h0,f,hf⟩;exact .inl ⟨c,hc,by rw [bne c (tne c hc)];exact h0,f,hf⟩
    ·rintro (⟨c,hc,h0,f,hf⟩ | ⟨f,hf,_⟩)
     ·exact ⟨c,hc,by rw [<-bne c (tne c hc)];exact h0,f,hf⟩
     ·omega
   ·rintro g' σ H18 hg' ⟨o12',kv18,ks18,rfl,b18,e18,lk18,k18,nd18,m18⟩;rw [show (0:Int)+(g':Int)=(g':Int) by omega];have t18:=aN.tT b18 e17d;have hac18:=t18 _ _ (s17 _ _ hac16);refine ⟨_,rfl,_,rfl,_,rfl,?_⟩;refine tJ (jE hac18) Oo Oo λv19 H19 s19 r19=>?_;obtain ⟨a19,rfl,ha19⟩:=iQ r19;refine ZF (s19 _ _ e18) (c:=ci (bS cc g')) (by rw [iK];exact ha19) Oo λH20 e20 b20=>?_;obtain ⟨ks2,j1,j2,j3⟩:=UX (v:=.bl true) (ci (bS cc g')) k18 nd18;refine ⟨_,_,ks2,rfl,(b18.trans s19.but).trans b20,e20,?_,j1,j2,λd=>?_⟩
    ·have:=gG kv18 (kT (ci (bS cc g'))) (V.bl true);omega
    ·rw [j3,m18];constructor
     ·rintro ((h | ⟨f,hf,e⟩) | h)
      ·exact .inl h
      ·exact .inr ⟨f,Oo,e⟩
      ·exact .inr ⟨g',Oo,h⟩
     ·rintro (h | ⟨f,hf,e⟩)
      ·exact .inl (.inl h)
      ·by_cases q:f=g'
       ·subst q;exact .inr e
       ·exact .inl (.inr ⟨f,Oo,e⟩)
   ·rintro σ H18 ⟨o12',kv18,ks18,rfl,b18,e18,lk18,k18,nd18,m18⟩;have t18:=aN.tT b18 e17d;have B18:aN p H H18:=aN.thru hDlH (B16.trans s17.but) b18;have tk:cs.take (j+1)=cs.take j++[cc]:=eO hcc;have T18:cQ H13 H18:=((t14.trans t1416).trans s17.t).trans t18;refine ⟨_,_,_,vs3++[.ref q15],kv18,ks18,h',rfl,F17.but b18 nDp nDpL,B18,b18.at nDE.symm (s17 _ _ e16),by rw [bC,List.length_singleton];omega,?_,t13.trans T18,λc hc=>?_,?_,λc hc=>?_,e18,Oo,k18,nd18,λd=>?_⟩
    ·exact b18.at nDL.symm (s17 _ _ (b16.at nLE1 (s15 _ _ (b14.at nLp1 eL13))))
    ·rw [tk] at hc;have h1:c ∉ cs.take j:=λz=>hc (bZ _ z);have h2:c≠cc:=λz=>hc (bH _ (bR.mpr z));rw [hne' c h2,hg c h1]
    ·rw [tk,bN,<-List.append_assoc];have e1:(cs.take j).map (λc=>uO (c,h' c))=(cs.take j).map λc=>uO (c,h c):=cZ λc hc=>by rw [hne' c (tne c hc)]
     rw [e1];refine bF.snoc (r13.flat T18 ?_) ?_
     ·rw [uE,rK,rK];rfl
     ·show cB H18 (uO (cc,h' cc)) (.ref q15);rw [hcc'];have t1518:cQ H15 H18:=(t16.trans s17.t).trans t18;exact cB.tup (t1518 _ _ e15) (bF.cons (jE (t1518 _ _ (s15 _ _ hac14))) (bF.cons ((rsy.same s15).flat t1518 (tN _)) bF.nil))
    ·rw [tk] at hc;rcases dP.mp hc with hc | hc
     ·rw [bne c (tne c hc),hne' c (tne c hc)];exact y13 c hc
     ·rw [bR.mp hc,hcc'];refine ⟨sy,λz=>?_⟩;have hst:=hstop (by rw [decide_eq_true_iff];exact congrArg (λn:Nat=>V.int (n:Int)) z);rw [efs] at hst;rw [Ne,bcc];exact λq=>q (by simpa using hst)
    ·rw [m18];constructor
     ·rintro (⟨c,hc,h0,f,hf⟩ | ⟨f,hf,e⟩)
      ·exact ⟨c,by rw [tk];exact bZ _ hc,h0,f,hf⟩
      ·by_cases z:f0=(0,1)
       ·rw [if_pos z] at hon;omega
       ·exact ⟨cc,by rw [tk];exact bH _ (bR.mpr rfl),bcc.mpr z,f,Oo,e⟩
     ·rintro ⟨c,hc,h0,f,hf,e⟩;rw [tk] at hc;rcases dP.mp hc with hc | hc
      ·exact .inl ⟨c,hc,h0,f,hf,e⟩
      ·rw [bR.mp hc] at h0 e;have z:=bcc.mp h0;rw [if_neg z] at hon;exact .inr ⟨f,Oo,e⟩
  ·rintro σ H13 ⟨o10,o11,o12,vs3,kvs,ks,h,rfl,F13,B13,e13,lv13,eL13,t13,hg,r13,y13,e13d,lk13,k1,k2,k3⟩;have lfull:cs.take ls.length=cs:=by rw [lls];exact bG
   rw [lfull] at hg r13 y13 k3;have hlow:∀c:List Nat,c.sum<kk->h c=g c:=λc hc=>hg c λz=>by have:=(csub c z).2;omega
   have blow:∀c:List Nat,c.sum<kk->bs h c=bs g c:=λc hc=>by unfold bs;rw [hlow c hc]
   have lvE:∀i,i<=kk->lvl F (bs h) i=lvl F (bs g) i:=λi hi=>vQ f1 λc hc=>blow c Oo;have lvK:lvl F (bs h) kk=cs:=by rw [lvE kk (aF _),hcs]
   have hmem:∀d,d∈ks↔d∈(lvl F (bs h) (kk+1)).map ci:=λd=>by
    rw [k3,aP];constructor
    ·rintro ⟨c,hc,h0,f,hf,e⟩;exact ⟨bS c f,(pJ f1).mpr ⟨c,by rw [lvK];exact hc,h0,f,hf,rfl⟩,e.symm⟩
    ·rintro ⟨d',hd',rfl⟩;obtain ⟨c,hc,h0,f,hf,rfl⟩:=(pJ f1).mp hd';exact ⟨c,by rw [<-lvK];exact hc,h0,f,hf,rfl⟩
   have nilM:kk=M->lvl F (bs h) (kk+1)=[]:=λz=>by
    refine List.eq_nil_iff_forall_not_mem.mpr λd hd=>?_;obtain ⟨c,hc,h0,_⟩:=(pJ f1).mp hd;rw [lvK] at hc;exact (y13 c hc).2 z h0
   have small:(lvl F (bs h) (kk+1)).length<=56:=by
    by_cases z:kk=M
    ·rw [nilM z];exact cM _
    ·exact aZ (gL f1 (kk+1)).length_le (vZ F f4 (kk+1) Oo)
   have slex:((lvl F (bs h) (kk+1)).map ci).Pairwise λa b=>mC a b=true:=by
    by_cases z:kk=M
    ·rw [nilM z];exact List.Pairwise.nil
    ·exact (PJ F f4 (kk+1) Oo).sublist ((gL f1 (kk+1)).map ci)
   have lk:ks.length<=56:=by
    have:=qZ k2 (m:=(lvl F (bs h) (kk+1)).map ci) λd hd=>(hmem d).mp hd;rw [aA] at this;omega
   refine ⟨_,rfl,?_⟩;refine rsrd (cs:=ks) e13d k1 (λc hc=>?_) Oo λq8 ys8 ds H14 pm pw hq8 e14 r14 s14=>?_
   ·obtain ⟨d,hd,rfl⟩:=aP.mp ((hmem c).mp hc);obtain ⟨l1,_⟩:=fT ((gL f1 (kk+1)).subset hd);intro z;have e:(ci d).length=d.length:=by unfold ci;rw [aA]
    rw [z,List.length_nil] at e;omega
   have eds:ds=(lvl F (bs h) (kk+1)).map ci:=zT pw slex λd=>by rw [pm.mem_iff];exact hmem d
   rw [eds,List.map_map,show (lvl F (bs h) (kk+1)).map ((λc:List Int=>PyData.tuple (c.map .int)) ∘ ci)=(lvl F (bs h) (kk+1)).map mL from cZ λc _=>ctI c] at r14;have nqE:q8≠En:=λz=>by rw [z,e13] at hq8;cases hq8
   have efl:(List.range kk).flatMap (lvl F (bs h))=(List.range kk).flatMap (lvl F (bs g)):=by
    rw [List.flatMap_def,List.flatMap_def];exact congrArg List.flatten (cZ λi hi=>lvE i (by have:=cU.mp hi;omega))
   have inlow:∀c∈(List.range kk).flatMap (lvl F (bs g)),c.sum<kk:=λc hc=>by
    obtain ⟨i,hi,h1⟩:=List.mem_flatMap.mp hc;have:=(fT ((gL f1 i).subset h1)).2;have:=cU.mp hi;omega
   refine ⟨_,_,_,_,_,q8,vs3,h,rfl,F13.same s14,B13.trans s14.but,s14 _ _ e13,?_,⟨ys8,e14,r14⟩,nqE,F13.ne hq8,λc hc=>?_,λi hi c hc=>?_⟩
   ·rw [GU,efl,lvK,bN];have e1:((List.range kk).flatMap (lvl F (bs g))).map (λc=>uO (c,h c))=((List.range kk).flatMap (lvl F (bs g))).map λc=>uO (c,g c):=cZ λc hc=>by rw [hlow c (inlow c hc)]
    rw [e1];exact r13.same s14
   ·by_cases hm:c∈cs
    ·obtain ⟨_,h2⟩:=csub c hm;exact ⟨Oo,λz=>(y13 c hm).2 Oo⟩
    ·rw [hg c hm] at hc;obtain ⟨h1,h2⟩:=g11 c hc;refine ⟨Oo,λz=>?_⟩;have:bs h c=bs g c:=by unfold bs;rw [hg c hm]
     rw [this];exact h2 z
   ·by_cases z:i=kk
    ·rw [z,lvK] at hc;exact (y13 c hc).1
    ·rw [lvE i Oo] at hc;have hs:=(fT ((gL f1 i).subset hc)).2;rw [hlow c Oo];exact y11 i Oo c hc
 ·rintro σ H11 ⟨o8,o9,o10,o11,o12,Lv1,vs,g,rfl,F11,B11,e11,r11,L11,nLE1,nLp1,g11,y11⟩;refine ⟨_,rfl,?_⟩;refine ⟨En,vs,rfl,.inl ⟨fE.of e11,λl hl=>?_⟩⟩;have sl:=aQ.upd (o:=.tup vs) hl;refine k _ (BA F M (bs g) g) M _ (F11.same sl) (B11.trans sl.but) (cB.tup bK ?_) ⟨⟨g,rfl,λc hc=>?_,λc hc=>?_⟩,f1,f4,m5,aZ hM r40⟩ hM
  ·have:((BA F M (bs g) g).map uO)=((List.range (M+1)).flatMap (lvl F (bs g))).map λc=>uO (c,g c):=by unfold BA DO;rw [List.map_map];rfl
   rw [this];exact r11.same sl
  ·have hn:g c≠[]:=λz=>by
    have:=pZ.mp hc;rw [z] at this;exact this (wQ (cM _))
   obtain ⟨h1,h2⟩:=g11 c hn;refine bU λz=>h2 Oo hc
  ·obtain ⟨i,hi,h1⟩:=pI.mp hc;exact y11 i Oo c h1
end
end Kw
namespace HT
open PySem PySem.Spec PySem.W PyProof.Rows
section
variable{prog:Program}{w:World}{K:Type}[DecidableEq K]{knd:HeapKind prog w K}{A:Around}{E:Value->Shared->Prop}{s:Shared}
theorem AV{nm:String}{a b:Addr}{xa xb:List (K × Addr × Value)}{Q:Bool->Shared->Prop}(ha:(a == sysModules)=false)(hb:(b == sysModules)=false)(da:s.heap.DictOfH knd a xa)(db:s.heap.DictOfH knd b xb)(hl:xa.length=xb.length)(hu:knd.room A)
  (hits:∀(i:Nat) (x:K × Addr × Value),xa[i]?=some x->∃(j:Nat) (p:Addr × Value),xb[j]?=some (x.1,p)) (eqs:∀(i j:Nat) (x:K × Addr × Value) (p:Addr × Value),xa[i]?=some x->xb[j]?=some (x.1,p)->SeqAt.EqAt A s x.2.2 p.2 true) (h:Q true s) :
  wpAny (model prog w) A (Builtin.Dict.samePairs nm a b) Q E s:=by
 obtain ⟨oa,es,ep,hoa,_,hda,hea,hia,hna⟩:=da;obtain ⟨ob,es',ep',hob,_,hdb,heb,hib,hnb⟩:=db;have sza:=size_of_entries hea;have szb:=size_of_entries heb;unfold Builtin.Dict.samePairs Builtin.Dict.showsAll;rw [if_neg (show ¬(a == sysModules)=true by rw [ha];exact bD),if_neg (show ¬(b == sysModules)=true by rw [hb];exact bD)];refine wpAny_bind (wpAny_pure (wpAny_bind (wpAny_pure ?_)));refine wpAny_bind (wpAny_dictEntries hoa hda ?_);dsimp only;refine wpAny_bind (wpAny_dictEntries hob hdb ?_);have hsz:es.size=es'.size:=Oo;rw [if_neg (by rw [hsz];simp)];refine wpAny_bind (wpAny_dictEpoch hoa hda ?_);refine wpAny_bind ?_;rw [Std.Legacy.Range.forIn_eq_forIn_range'];simp only [Std.Legacy.Range.size,Nat.sub_zero,Nat.add_sub_cancel,Nat.div_one];refine wpAny_forIn_list _ (λrest q s'=>s'=s/\q=(none,())/\∃i,rest=List.range' i (es.size-i)/\i<=es.size) _ ?_ ?_ _ _ ⟨rfl,rfl,0,by simp,cM _⟩
 ·rintro x rest q s' ⟨rfl,rfl,i,hr,hi⟩;have hlt:i<es.size:=by
   rcases Nat.lt_or_ge i es.size with h | h
   ·exact h
   ·rw [Nat.sub_eq_zero_of_le h] at hr;simp at hr
  obtain ⟨rfl,hrest⟩:x=i/\rest=List.range' (i+1) (es.size-(i+1)):=by
   have e:es.size-i=(es.size-(i+1))+1:=Oo;rw [e,List.range'_succ] at hr;injection hr with h1 h2;exact ⟨h1,h2⟩
  refine wpAny_bind (wpAny_dictEntries hoa hda ?_);have hx:xa[x]?=some (xa[x]'Oo):=aB _;generalize xa[x]'Oo=xx at hx;rw [entry_at hea x,hx];obtain ⟨j,p,hj⟩:=hits x xx hx;show wpAny _ _ (holding [Value.ref xx.2.1,xx.2.2] _ >>= _) _ _ _;refine wpAny_bind (wpAny_holding (wpAny_bind (wpAny_dictFind_heap (k:=xx.1) hu (hia xx (aM hx)) hob hdb heb hib hnb (λhno=>absurd hj (hno j p)) λj' p' hj'=>?_)));refine wpAny_bind (wpAny_dictEntries hob hdb ?_);rw [entry_at heb j',hj'];refine wpAny_holding (eqs x j' xx p' hx hj' prog w _ _ ?_);show wpAny _ _ (if (!true)=true then _ else _) _ _ _;rw [if_neg yd];refine wpAny_bind (wpAny_dictEpoch hoa hda ?_);rw [if_neg (by simp)];exact wpAny_pure ⟨rfl,rfl,x+1,hrest,hlt⟩
 ·rintro q s' ⟨rfl,rfl,i,hr,hi⟩;exact wpAny_pure h
theorem iB{a:Addr}{xs:List (K × Addr × Value)}(d:s.heap.DictOfH knd a xs):s.TypeIs (.ref a) "dict" := let ⟨o,_,_,ho,hex,_⟩:=d;⟨o,ho,hex.1⟩
theorem LT{a b:Addr}{xa xb:List (K × Addr × Value)}{Q:Value->Shared->Prop}(ha:(a == sysModules)=false)(hb:(b == sysModules)=false)(da:s.heap.DictOfH knd a xa)(db:s.heap.DictOfH knd b xb)(hl:xa.length=xb.length)(hu:A.units<cLine)(hr:knd.room A.in1)
  (hits:∀(i:Nat) (x:K × Addr × Value),xa[i]?=some x->∃(j:Nat) (p:Addr × Value),xb[j]?=some (x.1,p)) (eqs:∀(i j:Nat) (x:K × Addr × Value) (p:Addr × Value),xa[i]?=some x->xb[j]?=some (x.1,p)->SeqAt.EqAt A.in1 s x.2.2 p.2 true) (h:Q (.bool false) s) :
  wpAny (model prog w) A (compareOp .NotEq (.ref a) (.ref b)) Q E s:=by
 refine wpAny_richCompare_same_room (op:=.NotEq) (iB da) (iB db) PySem.F.slot_dict_ne (wpAny_call_entry PySem.F.slot_dict_ne (iB da) PySem.F.entry_dict_ne ?_ (PySem.F.args_dict_ne_2 _ _)) hu;show wpAny _ _ (Builtin.Dict.dictSlotArgs "__ne__" ⟨[.ref a,.ref b],[]⟩ >>= _) _ _ s;refine wpAny_bind ?_;unfold Builtin.Dict.dictSlotArgs;refine wpAny_bind (wpAny_notOrdered_dict (iB da) ?_);show wpAny _ _ (pure (Value.ref a,Value.ref b)) _ _ s;refine wpAny_pure ?_;refine wpAny_bind (wpAny_isInstance (T := "dict") (iB db) PySem.F.sub_dict_dict ?_);simp only [Bool.not_true,Bool.false_eq_true,if_false];refine wpAny_bind (wpAny_pure (wpAny_bind (wpAny_pure ?_)));refine wpAny_bind (AV ha hb da db hl hr hits eqs ?_);refine wpAny_pure ⟨_,rfl,?_,?_⟩
 ·exact λx=>nomatch x
 ·simpa using h
end
end HT
namespace L2
open PySem PySem.Spec PySem.W PyProof.Rows HT
section
variable{X:Cx}
end
@[irreducible] def YY(x:V)(H1:Hp)(R:It->Hp->Prop):Prop:=∃d kvs,x=.ref d/\((∃o,H1 d=some (.frz o (.dT kvs))/\R (RP d o) H1)\/(H1 d=some (.dT kvs)/\∀o,R (RP d o) (upd H1 d (.frz o (.dT kvs)))))
def iDF(tl:TE):TI:=λσ H R=>tl σ H λx H1=>YY x H1 R
theorem wR{H:Hp}{d:Addr}{o:HO}:aN d H (upd H d o):=λc u h=>by
 have n:=fV.ne h;rw [fV.at n] at h;exact fV.of n (by rw [cS n];exact h)
def DF(H:Hp)(d:Addr)(kvs:List (List eG × V)):Prop:=H d=some (.dT kvs)\/∃o,H d=some (.frz o (.dT kvs))
theorem DF.keep{H H':Hp}{d:Addr}{kvs:List (List eG × V)}(h:DF H d kvs)(k:∀o,H d=some o->H' d=some o):DF H' d kvs:=h.elim (λh=>.inl (k _ h)) λ⟨o,h⟩=>.inr ⟨o,k _ h⟩
theorem rdf{R:It->Hp->Prop}{H:Hp}{d:Addr}{kvs:List (List eG × V)}(h:DF H d kvs)(k:∀o H2,H2 d=some (.frz o (.dT kvs))->aN d H H2->R (RP d o) H2):YY (.ref d) H R:=by
 unfold YY;rcases h with h | ⟨o,h⟩
 ·exact ⟨d,kvs,rfl,.inr ⟨h,λo=>k o _ bK wR⟩⟩
 ·exact ⟨d,kvs,rfl,.inl ⟨o,h,k o H h (aQ.refl _).but⟩⟩
section
variable{X:Cx}{tg:Expr}
theorem yG{l:Expr}{tl:TE}(hl:gA X l tl):CP X tg l (iDF tl):=⟨by
 intro pins s σ H R I h;refine thn (hl.p pins s σ H _ I h) λv s1 ⟨x,H1,I1,r1,q1⟩=>?_;unfold YY at q1;obtain ⟨d,kvs,e,hq⟩:=q1;subst e;cases r1;obtain ⟨H2,o,I2,hq2,q2⟩:∃H2 o,cA X pins σ H2 s1/\H2 d=some (.frz o (.dT kvs))/\R (RP d o) H2:=by
  rcases hq with ⟨o,hq,q⟩ | ⟨hq,q⟩
  ·exact ⟨H1,o,I1,hq,q⟩
  ·obtain ⟨o,I2⟩:=I1.freeze hq;exact ⟨_,o,I2,bK,q o⟩
 obtain ⟨hm,hod,hex,es,ep,hdd,hsz,hat⟩:=rJ I2 hq2;refine EI hm hod hex hdd ?_;refine ⟨s1.heap.objs.size,[s1.heap.objs.size],_,_,H2,rfl,I2.kept (t':=s1.toks) λb o e=>aC _ e,FO d _ hdd,⟨_,aS _ rfl,rfl,rfl⟩,λb hb=>?_,q2⟩;have e:b=s1.heap.objs.size:=by simpa using hb
 subst e;exact I2.fpOk (aF _) (I2.hok.fresh (aF _))⟩
end
theorem AB{d:Addr}{o:Obj}{kvs:List (List eG × V)}{g:TG}{tb:TS}{D:rX}{σ:St}{H:Hp}(Pv:Nat->St->Hp->Prop)(h0:Pv 0 σ H)(hl:∀i σ H,i<=kvs.length->Pv i σ H->H d=some (.frz o (.dT kvs)))
  (hs:∀i p b σ H,kvs[i]?=some p->H b=some (.tup (p.1.map kV))->Pv i σ H->g (.ref b) σ H λσ2 H2=>tb { D with nx:=Pv (i+1),ct:=Pv (i+1),bk:=D.nx } σ2 H2) (hd:∀σ H,Pv kvs.length σ H->D.nx σ H) :
  ∃W:Nat->Nat->St->Hp->Prop,(∃m,W 0 m σ H)/\∀i m σ H,W i m σ H ->
   ((RP d o).stop i H/\D.nx σ H)\/((RP d o).go i H/\∃N:St->Hp->Prop,(∀σ' H',N σ' H'->∃m',m' < m/\W (i+1) m' σ' H')/\∀x H',(RP d o).yld i H x H'->g x σ H' λσ2 H2=>tb { D with nx:=N,ct:=N,bk:=D.nx } σ2 H2):=by
 refine ⟨λi m σ H=>m=kvs.length-i/\i<=kvs.length/\Pv i σ H,⟨kvs.length,by simp,cM _,h0⟩,?_⟩;rintro i m σ H ⟨rfl,hi,p⟩;have q:=hl i σ H hi p;by_cases hlt:i<kvs.length
 ·refine .inr ⟨⟨kvs,q,hlt⟩,Pv (i+1),λσ' H' p'=>⟨kvs.length-(i+1),Oo,rfl,hlt,p'⟩,λx H' y=>?_⟩;obtain ⟨e,y⟩:=y;subst e;obtain ⟨b,p0,rfl,h1,h2⟩:=y kvs q;exact hs i p0 b σ _ h1 h2 p
 ·have e:i=kvs.length:=Oo;subst e;exact .inl ⟨⟨kvs,q,aF _⟩,hd σ H p⟩
section
variable{σ:St}{js:List Nat}{te:TE}{H:Hp}{Q:VK}
theorem HA{J:It}{n:Nat}(src:Nat->V->Prop)(R:Nat->V->Hp->Prop)(hR:∀i y H1 H2,aQ H1 H2->R i y H1->R i y H2)(hR2:∀i y H1 H2 D zs,H1 D=some (.lst zs)->aN D H1 H2->R i y H1->R i y H2)(hz:n<=100000)
  (hg:∀i H',aQ H H'->i<n->J.go i H'/\∀x H3,J.yld i H' x H3->H3=H'/\src i x) (hst:∀H',aQ H H'->J.stop n H')
  (hs:∀i x H' (Q':VK),src i x->i<n->aQ H H'->(∀y H5,aQ H' H5->R i y H5->Q' y H5)->te (some x::slots σ js) H' Q')
  (hd:∀D ys H',H D=none->H' D=some (.lst ys)->aQ H H'->ys.length=n->(∀(i:Nat) (y:V),ys[i]?=some y->R i y H')->Q (.ref D) H'):jC J σ js oT te H Q:=by
 refine uH (J:=J) (n:=n) src hz (λD i ys H'=>H D=none/\aQ H H'/\∀(i:Nat) (y:V),ys[i]?=some y->R i y H') (λD H1 hD _ s=>⟨hD,s,λi y h=>by simp at h⟩)
  (λD i ys H' hi _ p=>hg i H' p.2.1 hi) (λD ys H' _ p=>hst H' p.2.1) (λD i x ys H' hx hi hy hD p=>?_) (λD ys H' hy hD hD' p=>hd D ys H' hD hD' p.2.1 hy p.2.2)
 refine hs i x H' _ hx hi p.2.1 λy H5 s5 r=>?_;refine ⟨s5 _ _ hD,λH6 hD6 s6=>⟨p.1,aQ.thru p.1 (p.2.1.trans s5) s6,?_⟩⟩;exact pC (R:=λj z=>R j z H6) (λj z hj=>hR2 j z _ _ D _ (s5 _ _ hD) s6 (hR j z _ _ s5 (p.2.2 j z hj))) (by rw [hy];exact hR2 i y _ _ D _ (s5 _ _ hD) s6 r)
theorem CF{K:PySem.W.Frag}{a:Addr}{xs:List V}(R:Nat->V->Hp->Prop)(hR:∀i y H1 H2,aQ H1 H2->R i y H1->R i y H2)(hR2:∀i y H1 H2 D zs,H1 D=some (.lst zs)->aN D H1 H2->R i y H1->R i y H2)(hz:xs.length<=100000)(hl:H a=some (.lst xs))
  (hs:∀i x H' (Q':VK),xs[i]?=some x->aQ H H'->(∀y H5,aQ H' H5->R i y H5->Q' y H5)->te (some x::slots σ js) H' Q')
  (hd:∀D ys H',H D=none->H' D=some (.lst ys)->aQ H H'->ys.length=xs.length->(∀(i:Nat) (y:V),ys[i]?=some y->R i y H')->Q (.ref D) H'):jC (MG K a) σ js oT te H Q :=
 HA (λi x=>xs[i]?=some x) R hR hR2 hz (λi H' s hi=>⟨⟨xs,xs[i],fE.of (s _ _ hl),by simp [hi]⟩,λx H3 y=>⟨y.1,y.2 xs (fE.of (s _ _ hl))⟩⟩) (λH' s=>⟨xs,fE.of (s _ _ hl),aF _⟩)
  (λi x H' Q' hx _ s k=>hs i x H' Q' hx s k) hd
theorem GZ{d:Addr}{o:Obj}{kvs:List (List eG × V)}(R:Nat->V->Hp->Prop)(hR:∀i y H1 H2,cQ H1 H2->R i y H1->R i y H2)(hz:kvs.length<=100000)(hl:H d=some (.frz o (.dT kvs)))
  (hs:∀i p H' (Q':VK),kvs[i]?=some p->aQ H H'->(∀y H5,aQ H' H5->R i y H5->Q' y H5)->te (some p.2::slots σ js) H' Q')
  (hd:∀D ys H',H D=none->H' D=some (.lst ys)->aQ H H'->ys.length=kvs.length->(∀(i:Nat) (y:V),ys[i]?=some y->R i y H')->Q (.ref D) H'):jC (Itv d o) σ js oT te H Q :=
 nP (λi x=>∃p,kvs[i]?=some p/\x=p.2) R hR hz (λi H' s hi=>⟨⟨kvs,s _ _ hl,hi⟩,λx H3 y=>⟨y.1,y.2 kvs (s _ _ hl)⟩⟩) (λH' s=>⟨kvs,s _ _ hl,aF _⟩)
  (λi x H' Q' ⟨p,hp,e⟩ _ s k=>by subst e;exact hs i p H' Q' hp s k) hd
end
@[irreducible] def NJ:R2:=λx y H Q=>∃(a b:Addr) (ka:List (List eG × V)),x=.ref a/\y=.ref b/\H a=some (.dT ka)/\H b=some (.dT [])/\Q (.bl (!ka.isEmpty)) H
theorem ZX{a b:Addr}{ka:List (List eG × V)}{H:Hp}{Q:VK}(h1:H a=some (.dT ka))(h2:H b=some (.dT []))(q:Q (.bl (!ka.isEmpty)) H):NJ (.ref a) (.ref b) H Q:=by
 unfold NJ;exact ⟨a,b,ka,rfl,rfl,h1,h2,q⟩
section
variable{X:Cx}
theorem UN(hu:X.A.units+64<cLine)(hu1:X.A.units+1<cLine):oK X (compareOp .NotEq) NJ:=by
 unfold NJ;intro pins s σ H x y v u Q I rx ry h;obtain ⟨a,b,ka,rfl,rfl,ea,eb,q⟩:=h;cases rx;cases ry;obtain ⟨_,na,xa,ra,da⟩:=EQ I.hok ea;obtain ⟨_,nb,xb,rb,db⟩:=EQ I.hok eb;have lxa:xa.length=ka.length:=ra.length.symm;have lxb:xb.length=0:=rb.length.symm;cases ka with
 | nil =>
  refine LT na nb da db (by rw [lxa,lxb];rfl) Oo (tupleKind_room_in1 hu1) (λi x hx=>?_) (λi j x p hx hj=>?_) ⟨.bl false,H,I,rfl,q⟩
  ·have:=(aH.mp hx).1;rw [lxa] at this;exact absurd this (Nat.not_lt_zero _)
  ·have:=(aH.mp hx).1;rw [lxa] at this;exact absurd this (Nat.not_lt_zero _)
 | cons p0 ka =>
  have ta:=iB da;have tb:=iB db;refine wpAny_richCompare_same_room (op:=.NotEq) ta tb PySem.F.slot_dict_ne (wpAny_call_entry PySem.F.slot_dict_ne ta PySem.F.entry_dict_ne ?_ (PySem.F.args_dict_ne_2 _ _)) Oo;show wpAny _ _ (Builtin.Dict.dictSlotArgs "__ne__" ⟨[.ref a,.ref b],[]⟩ >>= _) _ _ s;refine wpAny_bind ?_;unfold Builtin.Dict.dictSlotArgs;refine wpAny_bind (wpAny_notOrdered_dict ta ?_);show wpAny _ _ (pure (Value.ref a,Value.ref b)) _ _ s;refine wpAny_pure ?_;refine wpAny_bind (wpAny_isInstance (T := "dict") tb PySem.F.sub_dict_dict ?_);simp only [Bool.not_true,Bool.false_eq_true,if_false];refine wpAny_bind (wpAny_pure (wpAny_bind (wpAny_pure ?_)));refine wpAny_bind ?_;obtain ⟨oa,es,ep,hoa,_,hda,hea,hia,hna⟩:=da;obtain ⟨ob,es',ep',hob,_,hdb,heb,hib,hnb⟩:=db;have sza:=size_of_entries hea;have szb:=size_of_entries heb;unfold Builtin.Dict.samePairs Builtin.Dict.showsAll;rw [if_neg (show ¬(a == sysModules)=true by rw [na];exact bD),if_neg (show ¬(b == sysModules)=true by rw [nb];exact bD)];refine wpAny_bind (wpAny_pure (wpAny_bind (wpAny_pure ?_)));refine wpAny_bind (wpAny_dictEntries hoa hda ?_);dsimp only;refine wpAny_bind (wpAny_dictEntries hob hdb ?_);have hsz:es.size≠es'.size:=by
   rw [dG] at lxa;omega
  rw [if_pos (by simpa using hsz)];refine wpAny_bind (wpAny_rule (wpAny_pure ?_));refine wpAny_pure ⟨_,rfl,?_,?_⟩
  ·exact λx=>nomatch x
  ·exact ⟨.bl true,H,I,rfl,q⟩
end
end L2
namespace Kw
open PySem L2 Mf
abbrev ZV:Stmt:=(top 45)
theorem cQ0:bW ["_law_one","_law_other"] ["_law_one","_law_other"] (aT ZV):=⟨rfl,rfl,rfl,Kk,rfl,Kk,Kk⟩
abbrev TC:Stmt:=(top 46)
theorem aA6:bW ["_law_one","_law_other"] ["_law_one","_law_other"] (aT TC):=⟨rfl,rfl,rfl,Kk,rfl,Kk,Kk⟩
@[irreducible] def mY(K:PySem.W.Frag):Sp:=λvs H Q _=>∃x y f g,vs=[x,y]/\fP K H f x/\fP K H g y/\cT f/\cT g/\iZ 4000 f/\iZ 4000 g/\nH H Q (lK f g)
theorem oE{K:PySem.W.Frag}{H:Hp}{Q:VK}{E:XK}{x y:V}{f g:Fr}(h1:fP K H f x)(h2:fP K H g y)(l1:cT f)(l2:cT g)(z1:iZ 4000 f)(z2:iZ 4000 g)(q:nH H Q (lK f g)):mY K [x,y] H Q E:=by unfold mY;exact ⟨x,y,f,g,rfl,h1,h2,l1,l2,z1,z2,q⟩
@[irreducible] def iN(K:PySem.W.Frag):Sp:=λvs H Q _=>∃x y f g,vs=[x,y]/\fP K H f x/\fP K H g y/\cT f/\cT g/\iZ 4000 f/\iZ 4000 g/\nH H Q (lX f g)
theorem kE{K:PySem.W.Frag}{H:Hp}{Q:VK}{E:XK}{x y:V}{f g:Fr}(h1:fP K H f x)(h2:fP K H g y)(l1:cT f)(l2:cT g)(z1:iZ 4000 f)(z2:iZ 4000 g)(q:nH H Q (lX f g)):iN K [x,y] H Q E:=by unfold iN;exact ⟨x,y,f,g,rfl,h1,h2,l1,l2,z1,z2,q⟩
section
theorem oQ0(F:jA K "_law_add" "_law_add" ZV f fd)(T:kO K mg c)(FQ8:gB dR P w K mg base 1 "_law_low" ["_law_n","_law_d"] iO):eJ P w K mg base dR 2 f fd ["_law_one","_law_other"] (mY K):=by
 refine F.oky cQ0 λvs H Q E h=>?_;unfold mY at h;obtain ⟨x,y,f,g,rfl,h1,h2,l1,l2,z1,z2,q⟩:=h;refine ⟨rfl,λcdv A outer s hr=>?_⟩;obtain ⟨p1,rfl,e1⟩:=h1;obtain ⟨p2,rfl,e2⟩:=h2;refine ⟨_,(bA (cH (bQ FQ8 (hr.mono yd) (aJ (bT eS (bT dC (aW aR (aG 0) aD (λ_ _=>rfl)) (aW aR (aG 1) aD (λ_ _=>rfl))) (bT dC (aW aR (aG 1) aD (λ_ _=>rfl)) (aW aR (aG 0) aD (λ_ _=>rfl)))) (aJ (bT dC (aW aR (aG 0) aD (λ_ _=>rfl)) (aW aR (aG 1) aD (λ_ _=>rfl))) aE))))),?_⟩;refine ⟨_,rfl,?_⟩;refine nM e1 rfl ?_;refine ⟨_,rfl,?_⟩;refine nM e2 rfl ?_;refine ⟨_,_,rfl,rfl,lH z1.1 z2.2,?_⟩;refine ⟨_,rfl,?_⟩;refine nM e2 rfl ?_;refine ⟨_,rfl,?_⟩;refine nM e1 rfl ?_;refine ⟨_,_,rfl,rfl,lH z2.1 z1.2,_,_,rfl,rfl,?_⟩;refine ⟨_,rfl,?_⟩;refine nM e1 rfl ?_;refine ⟨_,rfl,?_⟩;refine nM e2 rfl ?_;refine ⟨_,_,rfl,rfl,lH z1.2 z2.2,?_⟩;refine gS (Int.mul_pos l1.pos l2.pos) (iE (tF z1.2 z2.2)) ?_;exact q
theorem aAF(F:jA K "_law_mul" "_law_mul" TC f fd)(T:kO K mg c)(FQ8:gB dR P w K mg base 1 "_law_low" ["_law_n","_law_d"] iO):eJ P w K mg base dR 2 f fd ["_law_one","_law_other"] (iN K):=by
 refine F.oky aA6 λvs H Q E h=>?_;unfold iN at h;obtain ⟨x,y,f,g,rfl,h1,h2,l1,l2,z1,z2,q⟩:=h;refine ⟨rfl,λcdv A outer s hr=>?_⟩;obtain ⟨p1,rfl,e1⟩:=h1;obtain ⟨p2,rfl,e2⟩:=h2;refine ⟨_,(bA (cH (bQ FQ8 (hr.mono yd) (aJ (bT dC (aW aR (aG 0) aD (λ_ _=>rfl)) (aW aR (aG 1) aD (λ_ _=>rfl))) (aJ (bT dC (aW aR (aG 0) aD (λ_ _=>rfl)) (aW aR (aG 1) aD (λ_ _=>rfl))) aE))))),?_⟩;refine ⟨_,rfl,?_⟩;refine nM e1 rfl ?_;refine ⟨_,rfl,?_⟩;refine nM e2 rfl ?_;refine ⟨_,_,rfl,rfl,lH z1.1 z2.1,?_⟩;refine ⟨_,rfl,?_⟩;refine nM e1 rfl ?_;refine ⟨_,rfl,?_⟩;refine nM e2 rfl ?_;refine ⟨_,_,rfl,rfl,lH z1.2 z2.2,?_⟩;refine gS (Int.mul_pos l1.pos l2.pos) (iE (tF z1.2 z2.2)) ?_;exact q
end
theorem vD{α:Type}{l m:List α}(h:l.Perm m)(f:α->Rat):dH l f=dH m f:=by
 induction h with
 | nil=>rfl
 | cons x _ ih=>rw [cD,cD,ih]
 | swap x y l=>rw [cD,cD,cD,cD];grind
 | trans _ _ h1 h2=>exact h1.trans h2
theorem JP{F:Nat}{es:List cJ}(R:uL F es)(d:List Nat):bV F es d=(if d=List.replicate F 0 then 1 else 0)+dH es λe=>bV F es e.1*s0 e*jX F e.1 d:=by
 have all:∀n,n<=es.length->bV F (es.take n) d=(if d=List.replicate F 0 then 1 else 0)+dH (es.take n) λe=>bV F es e.1*s0 e*jX F e.1 d:=λn=>by
  induction n with
  | zero=>intro _;rw [List.take_zero,jM,eK];grind
  | succ n ih =>
   intro hn;have he:=aB (show n<es.length by omega);rw [eO he,gH,R.at he,ih Oo,nK];grind
 have:=all es.length (aF _)
 rwa [bG] at this
theorem sZ:∀F:Nat,(List.replicate F (0:Nat)).sum=0
 | 0=>rfl
 | n+1=>by rw [List.replicate_succ,List.sum_cons,sZ n]
def lev(es:List cJ)(k:Nat):List cJ:=es.filter λe=>decide (e.1.sum=k)
def low(es:List cJ)(k:Nat):List cJ:=es.filter λe=>decide (e.1.sum<k)
theorem hJ{es:List cJ}{k:Nat}{e:cJ}:e∈lev es k↔e∈es/\e.1.sum=k:=by unfold lev;rw [List.mem_filter,decide_eq_true_iff]
theorem KM(es:List cJ)(k:Nat)(g:cJ->Rat):dH (low es (k+1)) g=dH (low es k) g+dH (lev es k) g:=by
 unfold low lev
 induction es with
 | nil=>rw [List.filter_nil,List.filter_nil,List.filter_nil,eK];grind
 | cons e es ih =>
  by_cases h1:e.1.sum<k
  ·rw [List.filter_cons_of_pos (by simpa using (show e.1.sum<k+1 by omega)),List.filter_cons_of_pos (by simpa using h1),List.filter_cons_of_neg (by simpa using (show ¬e.1.sum=k by omega)),cD,cD,ih];grind
  ·by_cases h2:e.1.sum=k
   ·rw [List.filter_cons_of_pos (by simpa using (show e.1.sum<k+1 by omega)),List.filter_cons_of_neg (by simpa using h1),List.filter_cons_of_pos (by simpa using h2),cD,cD,ih];grind
   ·rw [List.filter_cons_of_neg (by simpa using (show ¬e.1.sum<k+1 by omega)),List.filter_cons_of_neg (by simpa using h1),List.filter_cons_of_neg (by simpa using h2),ih]
theorem KL(es:List cJ)(g:cJ->Rat):dH (low es 0) g=0:=by
 have:low es 0=[]:=by unfold low;exact List.filter_eq_nil_iff.mpr λe _=>by simp
 rw [this,eK]
theorem EE{F:Nat}{es:List cJ}(R:uL F es){k:Nat}{d:List Nat}:d∈(lev es (k+1)).map (·.1) ↔ ∃e∈lev es k,s0 e≠0/\∃f,f<F/\d=bS e.1 f:=by
 constructor
 ·intro h;obtain ⟨x,hx,rfl⟩:=aP.mp h;obtain ⟨h1,h2⟩:=hJ.mp hx;have hn:x.1≠List.replicate F 0:=λz=>by
   rw [z,sZ] at h2;omega
  obtain ⟨e,he,h0,f,hf,ef⟩:=R.bwd x.1 (aP.mpr ⟨x,h1,rfl⟩) hn;refine ⟨e,hJ.mpr ⟨he,?_⟩,h0,f,hf,ef.symm⟩;have:=kA (show f<e.1.length by rw [R.len e he];exact hf);rw [ef] at this;omega
 ·rintro ⟨e,he,h0,f,hf,rfl⟩;obtain ⟨h1,h2⟩:=hJ.mp he;obtain ⟨x,hx,ex⟩:=aP.mp (R.fwd e h1 h0 f hf);refine aP.mpr ⟨x,hJ.mpr ⟨hx,?_⟩,ex⟩;rw [ex,kA (by rw [R.len e h1];exact hf)];omega
theorem zV{F:Nat}{es:List cJ}(R:uL F es){k:Nat}(h:lev es k=[]):∀j,lev es (k+j)=[]
 | 0=>h
 | j+1=>by
  have ih:=zV R h j;refine List.eq_nil_iff_forall_not_mem.mpr λx hx=>?_;have:=(EE R (k:=k+j)).mp (aP.mpr ⟨x,hx,rfl⟩);rw [ih] at this;obtain ⟨e,he,_⟩:=this;cases he
theorem OQ{F:Nat}{es:List cJ}(R:uL F es){k:Nat}(h:lev es k=[]):low es k=es:=by
 unfold low;refine List.filter_eq_self.mpr λe he=>?_;refine eA (bU λz=>?_);have:=zV R h (e.1.sum-k);rw [show k+(e.1.sum-k)=e.1.sum by omega] at this;have h2:e∈lev es e.1.sum:=hJ.mpr ⟨he,rfl⟩;rw [this] at h2;cases h2
theorem OR{es:List cJ}{k:Nat}{g:cJ->Rat}(h:∀e∈es,e.1.sum≠k->g e=0):dH es g=dH (lev es k) g:=by
 unfold lev
 induction es with
 | nil=>rfl
 | cons e es ih =>
  have ih:=ih λx hx=>h x (aK _ hx);by_cases q:e.1.sum=k
  ·rw [List.filter_cons_of_pos (by simpa using q),cD,cD,ih]
  ·rw [List.filter_cons_of_neg (by simpa using q),cD,ih,h e (aO ..) q];grind
theorem ML{s:List Fr}(h:∀f∈s,cT f){c:List Nat}(hl:s.length=c.length){j:Nat}(hj:j<s.length):wq s (bS c j)=wq s c*fO s j:=by
 rw [oO h,oO h,qR s c j hj hl]
def eV(F:Nat)(es:List cJ)(s:List Fr)(c:List Nat):Rat:=bV F es c*wq s c
def uV(F:Nat)(es:List cJ)(s:List Fr)(ds:List cJ)(d:List Nat):Rat:=dH ds λe=>eV F es s e.1*s0 e*eZ F λf=>if bS e.1 f=d then fO s f else 0
theorem ON{F:Nat}{es:List cJ}(R:uL F es){s:List Fr}(hs:∀f∈s,cT f)(hl:s.length=F){k:Nat}{d:List Nat}(hd:d.sum=k+1):uV F es s (lev es k) d=eV F es s d:=by
 have e1:bV F es d=dH (lev es k) λe=>bV F es e.1*s0 e*jX F e.1 d:=by
  rw [JP R d,if_neg (λz=>by rw [z,sZ] at hd;omega),<-OR λe he hk=>by rw [pO (R.len e he) Oo];grind];grind
 unfold uV eV;rw [e1];have e2:∀g:cJ->Rat,dH (lev es k) g*wq s d=dH (lev es k) λe=>g e*wq s d:=λg=>by
  rw [Rat.mul_comm,<-yP];exact fR λe _=>by grind
 rw [e2];refine fR λe he=>?_;obtain ⟨he1,_⟩:=hJ.mp he;have le:=R.len e he1;have e3:(eZ F λf=>if bS e.1 f=d then fO s f else 0)*wq s e.1=jX F e.1 d*wq s d:=by
  unfold jX;rw [Rat.mul_comm,<-mQ,Rat.mul_comm (eZ F _),<-mQ];refine fQ λf hf=>?_;by_cases q:bS e.1 f=d
  ·rw [if_pos q,if_pos q,<-q,ML hs Oo Oo];grind
  ·rw [if_neg q,if_neg q];grind
 grind
abbrev NF:Stmt:=(top 47)
theorem pY:bW ["_law_trial_here","_law_rule_here","_law_way","_law_table","_law_now","_law_words","_law_ends","_law_later","_law_counts","_law_says_here","_law_k","_law_part","_law_face","_law_other"] ["_law_trial_here","_law_rule_here","_law_way"] (aT NF):=⟨rfl,rfl,rfl,Kk,rfl,Kk,Kk⟩
theorem zH{H:Hp}:∀(es:List cJ) (xs:List V),bF H (es.map uO) xs->(es.map (·.1)).Nodup->∃kvs:List (List eG × V),Paired (AW H) xs kvs/\kvs.map (·.1)=es.map (λe=>kT (ci e.1))/\∀e∈es,∃v,eY kvs (kT (ci e.1))=some v/\cB H (xE e.2) v
 | [],xs,h,_=>by
  cases (show xs=[] from h);exact ⟨[],.nil,rfl,λe he=>by cases he⟩
 | e::es,xs,h,nd=>by
  obtain ⟨x,xs',rfl,hx,hr⟩:=(show ∃x xs',xs=x::xs'/\cB H (uO e) x/\bF H (es.map uO) xs' by rw [bI] at h;unfold bF at h;exact h);rw [bI,List.nodup_cons] at nd;obtain ⟨b,us,rfl,hb,rus⟩:=fX hx;obtain ⟨u,z,rfl,ru,rz⟩:=kB rus;obtain ⟨cu,rfl,hcu⟩:=iQ ru;obtain ⟨kvs,g1,g2,g3⟩:=zH es xs' hr nd.2;refine ⟨(kT (ci e.1),z)::kvs,.cons ⟨b,cu,rfl,hb,?_⟩ g1,by rw [bI,bI,g2],λe' he'=>?_⟩
  ·show H cu=some (.tup ((kT (ci e.1)).map kV));rw [oI,iK];exact hcu
  ·rcases bE.mp he' with rfl | he'
   ·exact ⟨z,fH rfl,rz⟩
   ·obtain ⟨v,k1,k2⟩:=g3 e' he';refine ⟨v,?_,k2⟩;rw [fI (show ¬kT (ci e.1)=kT (ci e'.1) from λq=>nd.1 (by rw [kN (kL q)];exact aP.mpr ⟨e',he',rfl⟩))];exact k1
structure DN(H:Hp)(kvs:List (List eG × V))(g:List Nat->Rat)(S:List Nat->Prop):Prop where
 ks:∃ks:List (List Nat),kvs.map (·.1)=ks.map (λc=>kT (ci c))/\ks.Nodup/\∀c,c∈ks↔S c
 at_:∀c,(eY kvs (kT (ci c))=none/\g c=0/\¬S c)\/∃v,eY kvs (kT (ci c))=some v/\cB H (eQ (cG (g c))) v/\S c
theorem DN.t{H H':Hp}{kvs:List (List eG × V)}{g:List Nat->Rat}{S:List Nat->Prop}(s:cQ H H')(h:DN H kvs g S):DN H' kvs g S:=⟨h.ks,λc=>by
 rcases h.at_ c with h | ⟨v,h1,h2,h3⟩
 ·exact .inl h
 ·exact .inr ⟨v,h1,h2.flat s (cF _),h3⟩⟩
theorem DN.eq{H:Hp}{kvs:List (List eG × V)}{g g':List Nat->Rat}{S S':List Nat->Prop}(h:DN H kvs g S)(e:∀d,g' d=g d)(e2:∀d,S' d↔S d):DN H kvs g' S':=by
 have:g'=g:=funext e;have:S'=S:=funext λd=>propext (e2 d)
 subst_vars;exact h
theorem DN.put{H:Hp}{kvs:List (List eG × V)}{g:List Nat->Rat}{S:List Nat->Prop}(h:DN H kvs g S){c:List Nat}{v:V}{y:Rat}(r:cB H (eQ (cG (g c+y))) v):DN H (jV kvs (kT (ci c)) v) (λd=>g d+if c=d then y else 0) (λd=>S d\/c=d):=by
 obtain ⟨ks,k1,k2,k3⟩:=h.ks;refine ⟨?_,λd=>?_⟩
 ·rcases h.at_ c with ⟨z,_,hn⟩ | ⟨u,z,_,hs⟩
  ·refine ⟨ks++[c],by rw [pF v z,bN,bN,k1];rfl,List.nodup_append.mpr ⟨k2,by simp,λa ha b hb e=>by cases bR.mp hb;subst e;exact hn ((k3 _).mp ha)⟩,λd=>?_⟩;rw [dP,bR,k3];exact ⟨λq=>q.elim .inl λq=>.inr q.symm,λq=>q.elim .inl λq=>.inr q.symm⟩
  ·refine ⟨ks,by rw [kK (by rw [z];rfl),k1],k2,λd=>?_⟩;rw [k3];exact ⟨.inl,λq=>q.elim id λq=>q ▸ hs⟩
 ·rw [oS];by_cases e:c=d
  ·subst e;rw [if_pos rfl,if_pos rfl];exact .inr ⟨v,rfl,r,.inr rfl⟩
  ·rw [if_neg λq=>e (kN (kL q)).symm,if_neg e,show g d+0=g d by grind];rcases h.at_ d with ⟨h1,h2,h3⟩ | ⟨u,h1,h2,h3⟩
   ·exact .inl ⟨h1,h2,λq=>q.elim h3 e⟩
   ·exact .inr ⟨u,h1,h2,.inl h3⟩
theorem zM:∀{es:List cJ},(es.map (·.1)).Nodup->(es.map λe=>kT (ci e.1)).Nodup
 | [],_=>List.nodup_nil
 | e::es,h=>by
  rw [bI,List.nodup_cons] at h ⊢;refine ⟨λq=>?_,zM h.2⟩;obtain ⟨x,hx,e1⟩:=aP.mp q;exact h.1 (by rw [<-kN (kL e1)];exact aP.mpr ⟨x,hx,rfl⟩)
theorem pT{α:Type}(g:α->Rat):∀l:List α,dO (l.map λx=>eQ (cG (g x)))=true
 | []=>rfl
 | a::l=>by show (eN (eQ (cG (g a)))&&dO (l.map λx=>eQ (cG (g x))))=true;rw [pT g l];rfl
theorem EF:∀{c:List Nat}{x:Nat},x∈c->x<=c.sum
 | a::c,x,h=>by
  rw [List.sum_cons];rcases bE.mp h with rfl | h
  ·omega
  ·have:=EF h;omega
theorem KZ{H:Hp}{d b:Addr}{kvs:List (List eG × V)}{c:List Int}{v:V}{Q:VK}(h:AZ H d kvs)(hb:H b=some (.tup (c.map V.int)))(hv:eY kvs (kT c)=some v)(q:Q v H):WG (.ref d) (.ref b) H Q:=by
 unfold WG;exact ⟨d,v,rfl,hv ▸ h.ct hb,q⟩
theorem PB{es:List cJ}{ks:List (List Nat)}(nd:(es.map (·.1)).Nodup)(kn:ks.Nodup)(h:∀c,c∈ks↔c∈es.map (·.1)):∃ds:List cJ,ds.map (·.1)=ks/\ds.Perm es:=by
 have hex:∀l:List (List Nat),(∀c∈l,c∈es.map (·.1))->∃ds:List cJ,ds.map (·.1)=l/\∀e∈ds,e∈es:=λl=>by
  induction l with
  | nil=>exact λ_=>⟨[],rfl,λe he=>by cases he⟩
  | cons c l ih =>
   intro hc;obtain ⟨e,he,rfl⟩:=aP.mp (hc c (aO ..));obtain ⟨ds,h1,h2⟩:=ih λc hc'=>hc c (aK _ hc');refine ⟨e::ds,by rw [bI,h1],λx hx=>?_⟩;rcases bE.mp hx with rfl | hx
   ·exact he
   ·exact h2 x hx
 obtain ⟨ds,h1,h2⟩:=hex ks λc hc=>(h c).mp hc;have n1:ds.Nodup:=by
  have:(ds.map (·.1)).Nodup:=by rw [h1];exact kn
  exact List.Pairwise.of_map _ (λa b hh e=>hh (by rw [e])) this
 have n2:es.Nodup:=List.Pairwise.of_map _ (λa b hh e=>hh (by rw [e])) nd;have inj:∀a∈es,∀b∈es,a.1=b.1->a=b:=λa ha b hb e=>by
  obtain ⟨i,hi⟩:=cI.mp ha;obtain ⟨j,hj⟩:=cI.mp hb;have e1:(es.map (·.1))[i]?=(es.map (·.1))[j]?:=by rw [aI,aI,hi,hj];exact congrArg some e
  have:=(List.getElem?_inj (by rw [aA];exact (aH.mp hi).1) nd).mp e1;subst this;rw [hi] at hj;exact cO hj
 refine ⟨ds,h1,(List.perm_ext_iff_of_nodup n1 n2).mpr λe=>⟨h2 e,λhe=>?_⟩⟩;have:e.1∈ds.map (·.1):=by rw [h1];exact (h _).mpr (aP.mpr ⟨e,he,rfl⟩)
 obtain ⟨x,hx,ex⟩:=aP.mp this;rw [<-inj x (h2 x hx) e he ex];exact hx
theorem UW{es:List cJ}(nd:(es.map (·.1)).Nodup)(k:Nat):((lev es k).map (·.1)).Nodup:=nd.sublist (List.filter_sublist.map _)
@[irreducible] def oX(K:PySem.W.Frag):Sp:=λvs H Q _=>∃(t r:V) (es:List cJ) (F W M N B Ns:Nat) (fs:List Str) (ws:List (Str × List Fr)) (i:Nat) (x:Str × List Fr),vs=[t,r,.int (i:Int)]/\cB H (uQ fs ws) t/\cB H (uT es) r/\mN F W M N B Ns es/\1<=F/\F<=4/\W<=4/\ws.length=W/\ws[i]?=some x/\(∀f∈x.2,Fn Ns 1 f)/\x.2.length=F/\Ns<2^400/\B<=2^100/\(∀e∈es,e.1.sum<=M) /\
 ∀v wl el wv H',aQ H H'->H' v=some (.tup [.ref wl,.ref el])->H' wl=some (.lst wv)->bF H' ((List.range W).map λj=>eQ (cG (kF F es (wq x.2) j))) wv->Q (.ref v) H'
theorem FT{K:PySem.W.Frag}{H:Hp}{Q:VK}{E:XK}{t r:V}{es:List cJ}{F W M N B Ns:Nat}{fs:List Str}{ws:List (Str × List Fr)}{i:Nat}{x:Str × List Fr}(h1:cB H (uQ fs ws) t)(h2:cB H (uT es) r)(h3:mN F W M N B Ns es)(h4:1<=F)(h5:F<=4)(h6:W<=4)(h7:ws.length=W)(h8:ws[i]?=some x)(h9:∀f∈x.2,Fn Ns 1 f)(h10:x.2.length=F)(h11:Ns<2^400)(k:∀v wl el wv H',aQ H H'->H' v=some (.tup [.ref wl,.ref el])->H' wl=some (.lst wv)->bF H' ((List.range W).map λj=>eQ (cG (kF F es (wq x.2) j))) wv->Q (.ref v) H'):oX K [t,r,.int (i:Int)] H Q E:=by
 unfold oX;exact ⟨t,r,es,F,W,M,N,B,Ns,fs,ws,i,x,rfl,h1,h2,h3,h4,h5,h6,h7,h8,h9,h10,h11,h3.b,h3.sum,k⟩
section
theorem aAA(F:jA K "_law_walk" "_law_walk" NF f fd)(T:kO K mg c)(FQ10:gB dR P w K mg base 2 "_law_mul" ["_law_one","_law_other"] (iN K))(FQ0:gB dR P w K mg base 2 "_law_add" ["_law_one","_law_other"] (mY K))(FQ9:gB dR P w K mg base 1 "_law_more" ["_law_counts","_law_face"] kZ):eJ P w K mg base dR 3 f fd ["_law_trial_here","_law_rule_here","_law_way"] (oX K):=by
 refine F.oky pY λvs H Q E h=>?_;unfold oX at h;obtain ⟨t,r,es,F,W,M,N,B,Ns,fs,ws,i,x,rfl,rt,rr,RG,f1,f4,w4,lws,hx,hsh,lx,nz,bz,sums,k⟩:=h;refine ⟨rfl,λcdv A outer s hr=>?_⟩;have RL:=RG.rl;have lowS:∀f∈x.2,cT f:=λf hf=>(hsh f hf).low;obtain ⟨at',af,aw,xf,xw,rfl,hat',haf,haw,rxf,rxw⟩:=vB rt;obtain ⟨ra,rxs,rfl,hra,rrx⟩:=fX rr;have lxw:xw.length=W:=by rw [rxw.len,aA,lws]
 have lrx:rxs.length=es.length:=eF rrx;have few:=RG.few;obtain ⟨kvt,p1,p2,p3⟩:=zH es rxs rrx RL.nd;have lkt:kvt.length=es.length:=by have:=congrArg List.length p2;rwa [aA,aA] at this
 obtain ⟨Pn,hPn⟩:∃Pn,Pn=N*Ns^M*Ns:=⟨_,rfl⟩;have pn0:0<Pn:=by rw [hPn];exact Nat.mul_pos (Nat.mul_pos RG.n0 (Nat.pow_pos RG.s1)) RG.s1
 have pn1:Pn<2^2500:=by
  rw [hPn];have h1:N*Ns^M*Ns<=2^2000*2^400:=Nat.mul_le_mul (Nat.le_of_lt RG.z) (Nat.le_of_lt nz);have h2:2^2000*2^400<2^2500:=Kk;omega
 have qA:∀e∈es,Qn Pn B (eV F es x.2 e.1):=λe he=>by rw [hPn];exact (RG.aq hsh he).dvd ⟨Ns,rfl⟩
 have qV:∀e∈es,∀v,Qn Pn B (eV F es x.2 e.1*fO e.2 v):=λe he v=>by rw [hPn];exact (RG.aqs hsh he v).dvd ⟨Ns,rfl⟩
 have qN:∀e∈es,∀j,j<F->Qn Pn B (eV F es x.2 e.1*s0 e*fO x.2 j):=λe he j hj=>by
  have h1:=RG.aqs hsh he 0;have h2:Qn Ns 1 (fO x.2 j):=(hsh _ (rH (a:=(0,1)) Oo)).q;have:=h1.mul h2;rw [Nat.mul_one] at this;rw [hPn];exact this
 have b1:B<=2^200:=aZ bz (bB yd yd);have b2:∀n,n<=1000->n*B<=2^200:=λn hn=>by
  have h1:=Nat.mul_le_mul hn bz;have h2:1000*2^100<=2^200:=Kk;omega
 refine ⟨_,(aL (bL (i:=3) pY.nd rfl (Or.inl rfl) (jF (LI hr.units rfl) (by rfl) T.b_dict Kk (aJ (aG 1) aE)))
  (aL (bL (i:=4) pY.nd rfl (Or.inl rfl) (yJ hr.u1 (aW aR (aW aR (aG 1) aD (λ_ _=>rfl)) aD (λ_ _=>rfl)) (dZ (aJ aD (aJ aD aE)))))
  (aL (oA (i:=5) (dM.of (psc:=aT NF) (N:=["_law_trial_here","_law_rule_here","_law_way","_law_table","_law_now","_law_words","_law_ends","_law_later","_law_counts","_law_says_here","_law_k","_law_part","_law_face","_law_other"]) (N':=["_law_one"]) (js:=[]) Kk rfl rfl rfl) pY.nd rfl rfl (lM (aW aR (aG 0) aD (λ_ _=>rfl))) (λ_ _ _ _=>eI) (λ_ _ _ _=>(dZ (aJ aD (aJ aD aE)))))
  (aL (bL (i:=6) pY.nd rfl (Or.inl rfl) (eR aE))
  (aL (oN PassesOwn.never (fW (UN hr.units hr.u1) (aG 4) oR (nomark _)) (aL (bL (i:=7) pY.nd rfl (Or.inl rfl) oR)
  (aL (lL (tE PySem.F.plainAttrs_list PySem.F.slot_list_append PySem.F.type_list_append rE (aG 6) (aJ (dZ (aJ aD (aJ aD aE))) aE)))
  (aL (eP PassesOwn.never rfl (yG (aG 4)) (cW (i:=8) pY.nd rfl (Or.inl rfl)) (aL (bL (i:=9) pY.nd rfl (Or.inl rfl) (lO hr.u1 (aG 3) (aG 8)))
  (aL (eP PassesOwn.never rfl (dX rfl T.b_range (aJ (eU gI (by rfl) T.b_len Kk (aJ (aG 5) aE)) aE)) (cW (i:=10) pY.nd rfl (Or.inl rfl)) (aL (bL (i:=11) pY.nd rfl (Or.inl rfl) (bQ FQ10 (hr.mono yd) (aJ (lO hr.u1 (aG 4) (aG 8)) (aJ (aW aR (aG 9) (bT eS aD (aG 10)) (λ_ _=>rfl)) aE))))
  (aL (kH (bQ FQ0 (hr.mono yd) (aJ (aW aR (aG 5) (aG 10) (λ_ _=>rfl)) (aJ (aG 11) aE))) (kI (aG 5) (aG 10) gT))
  (bA (kH (bQ FQ0 (hr.mono yd) (aJ (aW aR (aG 6) (IK BE aD) (λ_ _=>rfl)) (aJ (aG 11) aE))) (kI (aG 6) (IK BE aD) gT))))))
  (bA (eP PassesOwn.never rfl (dX rfl T.b_range (aJ (bT dC (eU gI (by rfl) T.b_len Kk (aJ (aG 8) aE)) (jF rP (by rfl) T.b_int Kk (aJ (lP (KG hr.units) (aW aR (aG 9) aD (λ_ _=>rfl)) (dZ (aJ aD (aJ aD aE))) (nomark _)) aE))) aE)) (cW (i:=12) pY.nd rfl (Or.inl rfl)) (aL (bL (i:=13) pY.nd rfl (Or.inl rfl) (bQ FQ9 (hr.mono yd) (aJ (aG 8) (aJ (aG 12) aE))))
  (aL (bL (i:=11) pY.nd rfl (Or.inl rfl) (bQ FQ10 (hr.mono yd) (aJ (bQ FQ10 (hr.mono yd) (aJ (lO hr.u1 (aG 4) (aG 8)) (aJ (aW aR (aG 9) aD (λ_ _=>rfl)) aE))) (aJ (aW aR (aW aR (aW aR (aW aR (aG 0) aD (λ_ _=>rfl)) (aG 2) (λ_ _=>rfl)) aD (λ_ _=>rfl)) (aG 12) (λ_ _=>rfl)) aE))))
  (bA (sM hr.u1 (aG 7) (aG 13) (bQ FQ0 (hr.mono yd) (aJ (CW hr.u1 (aG 7) (aG 13) (dZ (aJ aD (aJ aD aE)))) (aJ (aG 11) aE))))))))))))
  (bA (bL (i:=4) pY.nd rfl (Or.inl rfl) (aG 7)))))))
  (bA (cH (dZ (aJ (aG 5) (aJ (aG 6) aE)))))))))),?_⟩
 refine ⟨_,rfl,?_⟩;refine rdcz hra p1 (by rw [p2];exact zM RL.nd) Oo λTb H1 hTb fz1 s1=>?_;intro Nw hNw;have s2:=aQ.upd (o:=.dT []) hNw;have e2:(upd H1 Nw (.dT [])) Nw=some (.dT []):=bK;generalize upd H1 Nw (.dT [])=H2 at s2 e2 ⊢;obtain ⟨e0,er,ees,ez0⟩:=RL.root;have e0m:e0∈es:=by rw [ees];exact aO ..
 have S2:=s1.trans s2;obtain ⟨x0,hx0⟩:∃x0,rxs[0]?=some x0:=⟨_,aB (by rw [lrx,ees];exact Nat.succ_pos _)⟩;obtain ⟨e0',he0',re0⟩:=dQ rrx hx0;rw [ees] at he0';cases (show e0=e0' by simpa using he0');obtain ⟨eb,us,rfl,heb,rus⟩:=fX re0;obtain ⟨u0,z0,rfl,ru0,rz0⟩:=kB rus;obtain ⟨cu0,rfl,hcu0⟩:=iQ ru0;refine ⟨_,rfl,?_⟩;refine fZ (S2 _ _ hra) (cK (j:=0) hx0) ?_;refine fZ (S2 _ _ heb) rfl ?_;refine qH (by show 2<=64;decide) λq3 H3 hq3 e3 s3=>?_;refine XC (c:=ci e0.1) (by rw [iK];exact s3 _ _ (S2 _ _ hcu0)) (s3 _ _ e2) λH4 e4 b4=>?_;have S4:aQ H H4:=aQ.thru (s1.free hNw) (S2.trans s3) b4;have t4:=aN.tT b4 (s3 _ _ e2);have S14:aQ H1 H4:=aQ.thru hNw (s2.trans s3) b4;have hNwH:H Nw=none:=s1.free hNw;have flow0:eV F es x.2 e0.1=1:=by
  have h1:bV F es e0.1=1:=by
   rw [JP RL,if_pos ez0,fR (g:=λ_=>0) λe he=>by rw [pO (RL.len e he) (by rw [ez0,sZ];omega)];grind,qJ];grind
  unfold eV;rw [h1,ez0,CV lowS];grind
 have lev0:∀c,c∈(lev es 0).map (·.1)↔c=e0.1:=λc=>by
  constructor
  ·intro hc;obtain ⟨e,he,rfl⟩:=aP.mp hc;obtain ⟨h1,h2⟩:=hJ.mp he;rw [ez0];refine List.eq_replicate_iff.mpr ⟨RL.len e h1,λb hb=>?_⟩;have:=EF hb;omega
  ·rintro rfl;exact aP.mpr ⟨e0,hJ.mpr ⟨e0m,by rw [ez0,sZ]⟩,rfl⟩
 have D4:DN H4 [(kT (ci e0.1),V.ref q3)] (λd=>if d=e0.1 then 1 else 0) (λd=>d∈(lev es 0).map (·.1)):=by
  refine ⟨⟨[e0.1],rfl,by simp,λc=>by rw [lev0,bR]⟩,λd=>?_⟩;by_cases q:d=e0.1
  ·subst q;rw [if_pos rfl];exact .inr ⟨V.ref q3,fH rfl,by rw [jJ];exact dU (f:=(1,1)) (t4 _ _ e3),(lev0 _).mpr rfl⟩
  ·rw [if_neg q];refine .inl ⟨?_,rfl,λz=>q ((lev0 _).mp z)⟩;rw [fI (show ¬kT (ci e0.1)=kT (ci d) from λz=>q (kN (kL z)).symm)]
   rfl
 refine ⟨_,rfl,?_⟩;refine fZ (S4 _ _ hat') rfl ?_;refine ⟨aw,rfl,⟨_,gK.of (S4 _ _ haw)⟩,?_⟩;refine nO (λ_ y H'=>cB H' (eQ (0,1)) y) (λ_ y Ha Hb s h=>h.flat s (cF _)) Oo (S4 _ _ haw) (λj y H' Q' hy s' k'=>qH (by show 2<=64;decide) λq5 H5 hq5 e5 s5=>k' _ H5 s5 (dU (f:=(0,1)) e5)) (λWl wv0 H5 hWl e5 s5 hy5 hr5=>?_);have rw0:bF H5 ((List.range W).map λj=>eQ (cG (dH (low es 0) λe=>eV F es x.2 e.1*fO e.2 (1+j)))) wv0:=bF.ofIdx (by rw [hy5,lxw,aA,cV]) λj y hj=>by
  have hj':j<W:=by have:=(aH.mp hj).1;omega
  refine ⟨_,by rw [aI,cR hj'];rfl,?_⟩;show cB H5 (eQ (cG (dH (low es 0) _))) y;rw [KL,jY];exact hr5 j y hj
 refine sT (by show 0<=64;decide) λEl H6 hEl e6 s6=>?_;have S6:=(S4.trans s5).trans s6;have hWlH:H Wl=none:=S4.free hWl;have hElH:H El=none:=(S4.trans s5).free hEl;have nWE:El≠Wl:=λz=>by rw [z,e5] at hEl;cases hEl
 have nWN:Nw≠Wl:=λz=>by rw [<-z,e4] at hWl;cases hWl
 have nEN:Nw≠El:=λz=>by rw [<-z,s5 _ _ e4] at hEl;cases hEl
 have fz6:AZ H6 Tb kvt:=fz1.same ((S14.trans s5).trans s6);refine sO (λm σ H'=>∃(o7 o8 o9 o10 o11 o12 o13:Option V) (Nw:Addr) (kvn:List (List eG × V)) (g:List Nat->Rat) (wv ev:List V) (kk:Nat),σ=[some (.ref at'),some (.ref ra),some (.int (i:Int)),some (.ref Tb),some (.ref Nw),some (.ref Wl),some (.ref El),o7,o8,o9,o10,o11,o12,o13]/\aQ H H'/\AZ H' Tb kvt/\H' Nw=some (.dT kvn)/\DN H' kvn g (λc=>c∈(lev es kk).map (·.1))/\(∀c∈(lev es kk).map (·.1),g c=eV F es x.2 c)/\H' Wl=some (.lst wv)/\bF H' ((List.range W).map λj=>eQ (cG (dH (low es kk) λe=>eV F es x.2 e.1*fO e.2 (1+j)))) wv/\H' El=some (.lst ev)/\ev.length<=kk/\Nw≠Wl/\Nw≠El/\H Nw=none/\kk<=M+1/\m=M+2-kk)
  (λσ H'=>∃(o4 o7 o8 o9 o10 o11 o12 o13:Option V) (wv:List V),σ=[some (.ref at'),some (.ref ra),some (.int (i:Int)),some (.ref Tb),o4,some (.ref Wl),some (.ref El),o7,o8,o9,o10,o11,o12,o13]/\aQ H H'/\H' Wl=some (.lst wv)/\bF H' ((List.range W).map λj=>eQ (cG (kF F es (wq x.2) j))) wv)
  _ ⟨_,_,_,_,_,_,_,Nw,_,_,wv0,[],0,rfl,S6,fz6,s6 _ _ (s5 _ _ e4),D4.t (s5.trans s6).t,λc hc=>by rw [(lev0 c).mp hc,if_pos rfl,flow0],s6 _ _ e5,rw0.same s6,e6,aF _,nWN,nEN,hNwH,cM _,rfl⟩ ?_ ?_
 ·clear D4 rw0 S6 fz6 e6 s6 e5 s5 e4 b4 S4 t4 S14 e3 s3 e2 s2 S2 nWN nEN hNwH hNw hr5 hy5 hWl hEl;rintro m σ H6 ⟨o7,o8,o9,o10,o11,o12,o13,Nw,kvn,g,wv,ev,kk,rfl,S6,fz6,eN6,D6,hg6,eW6,rW6,eE6,lE6,nNW,nNE,hNwH,hkk,rfl⟩;refine ⟨_,rfl,?_⟩;intro Dz hDz;have s7:=aQ.upd (o:=.dT []) hDz;have e7z:(upd H6 Dz (.dT [])) Dz=some (.dT []):=bK;generalize upd H6 Dz (.dT [])=H7 at s7 e7z ⊢;refine ZX (s7 _ _ eN6) e7z ?_;refine ⟨_,rfl,?_⟩;obtain ⟨ks,k1,k2,k3⟩:=D6.ks;have lks:kvn.length=ks.length:=by have:=congrArg List.length k1;rwa [aA,aA] at this
  by_cases hz:kvn=[]
  ·refine pL (by rw [hz];rfl) ?_;have hk0:ks=[]:=List.length_eq_zero_iff.mp (by rw [<-lks,hz];rfl);have hlev:lev es kk=[]:=List.eq_nil_iff_forall_not_mem.mpr λe he=>by
    have:=(k3 e.1).mpr (aP.mpr ⟨e,he,rfl⟩);rw [hk0] at this;cases this
   refine ⟨_,_,_,_,_,_,_,_,wv,rfl,S6.trans s7,s7 _ _ eW6,?_⟩;rw [OQ RL hlev] at rW6;exact rW6.same s7
  ·have hne:ks≠[]:=λz=>hz (List.length_eq_zero_iff.mp (by rw [lks,z];rfl));refine XZ (by cases kvn with | nil=>exact absurd rfl hz | cons _ _=>rfl) ?_;obtain ⟨ds,d1,d2⟩:=PB (UW RL.nd kk) k2 k3;have dm:∀e∈ds,e∈es/\e.1.sum=kk:=λe he=>hJ.mp (d2.mem_iff.mp he);have lds:ds.length=kvn.length:=by rw [lks,<-d1,aA]
   have lds64:ds.length<=64:=by
    have:=d2.length_eq;have h2:(lev es kk).length<=es.length:=List.length_filter_le _ _;omega
   have hkM:kk<=M:=by
    obtain ⟨c0,hc0⟩:=List.exists_mem_of_ne_nil ks hne;obtain ⟨e,he,_⟩:=aP.mp ((k3 c0).mp hc0);obtain ⟨h1,h2⟩:=hJ.mp he;have:=sums e h1;omega
   intro Lt hLt;have s8:=aQ.upd (o:=.dT []) hLt;have e8:(upd H7 Lt (.dT [])) Lt=some (.dT []):=bK;generalize upd H7 Lt (.dT [])=H8 at s8 e8 ⊢;have s68:=s7.trans s8;have hLtH:H Lt=none:=(S6.trans s7).free hLt;have nLN:Lt≠Nw:=λz=>by rw [z,s7 _ _ eN6] at hLt;cases hLt
   have nLW:Lt≠Wl:=λz=>by rw [z,s7 _ _ eW6] at hLt;cases hLt
   have nLE:Lt≠El:=λz=>by rw [z,s7 _ _ eE6] at hLt;cases hLt
   refine ⟨_,rfl,SA (s68 _ _ eE6),?_⟩;refine qH (by show 2<=64;decide) λq9 H9 hq9 e9 s9=>?_;refine HM (s9 _ _ (s68 _ _ eE6)) (by have:=RG.m;omega) λH10 e10 b10=>?_;have t10:=b10.t (s9 _ _ (s68 _ _ eE6));have S10:aQ H H10:=aQ.thru hElH ((S6.trans s68).trans s9) b10;have s69:=s68.trans s9;have eN10:=b10.at nNE (s69 _ _ eN6);refine ⟨_,rfl,?_⟩;refine rdf (.inl eN10) λo H11 e11 b11=>?_;have t11:=aN.tT b11 eN10;have S11:aQ H H11:=aQ.thru hNwH S10 b11;have t611:cQ H6 H11:=(s69.t.trans t10).trans t11;have nTN:Tb≠Nw:=λz=>by obtain ⟨o',h⟩:=fz6;rw [z,eN6] at h;cases h
   have nTE:Tb≠El:=λz=>by obtain ⟨o',h⟩:=fz6;rw [z,eE6] at h;cases h
   have nTW:Tb≠Wl:=λz=>by obtain ⟨o',h⟩:=fz6;rw [z,eW6] at h;cases h
   have nTL:Tb≠Lt:=λz=>by obtain ⟨o',h⟩:=fz6;rw [z] at h;rw [s7 _ _ h] at hLt;cases hLt
   have fz11:AZ H11 Tb kvt:=by
    obtain ⟨o',h⟩:=fz6;exact ⟨o',b11.at nTN (b10.at nTE (s69 _ _ h))⟩
   have D11:=D6.t t611;refine AB (d:=Nw) (o:=o) (kvs:=kvn) (λa σ H'=>∃(o8 o9 o10 o11 o12 o13:Option V) (kvl:List (List eG × V)) (wv:List V) (y:V) (E:Rat),σ=[some (.ref at'),some (.ref ra),some (.int (i:Int)),some (.ref Tb),some (.ref Nw),some (.ref Wl),some (.ref El),some (.ref Lt),o8,o9,o10,o11,o12,o13]/\aQ H H'/\cQ H11 H'/\AZ H' Tb kvt/\H' Nw=some (.frz o (.dT kvn))/\H' Lt=some (.dT kvl)/\kvl.length<=4*a/\DN H' kvl (uV F es x.2 (ds.take a)) (λd=>∃e∈ds.take a,s0 e≠0/\∃f,f<F/\d=bS e.1 f)/\H' Wl=some (.lst wv)/\bF H' ((List.range W).map λj=>eQ (cG ((dH (low es kk) λe=>eV F es x.2 e.1*fO e.2 (1+j))+dH (ds.take a) λe=>eV F es x.2 e.1*fO e.2 (1+j)))) wv/\H' El=some (.lst (ev++[y]))/\cB H' (eQ (cG E)) y/\Qn Pn (4*a*B) E)
    ⟨_,_,_,_,_,_,[],wv,.ref q9,0,rfl,S11,λ_ _ h=>h,fz11,e11,?_,cM _,?_,?_,?_,?_,?_,Qn.zero _ _⟩ (λa σ H' _ q=>?_) ?_ ?_
   ·exact b11.at nLN (b10.at nLE (s9 _ _ e8))
   ·refine ⟨⟨[],rfl,List.nodup_nil,λd=>⟨(λh=>by cases h),λ⟨e,he,_⟩=>by rw [List.take_zero] at he;cases he⟩⟩,λd=>.inl ⟨rfl,?_,λ⟨e,he,_⟩=>by rw [List.take_zero] at he;cases he⟩⟩;unfold uV;rw [List.take_zero,eK]
   ·exact b11.at nNW.symm (b10.at nWE.symm (s69 _ _ eW6))
   ·have:∀j,(dH (low es kk) λe=>eV F es x.2 e.1*fO e.2 (1+j))+dH (ds.take 0) (λe=>eV F es x.2 e.1*fO e.2 (1+j))=dH (low es kk) λe=>eV F es x.2 e.1*fO e.2 (1+j):=λj=>by rw [List.take_zero,eK];grind
    rw [cZ (g:=λj=>eQ (cG (dH (low es kk) λe=>eV F es x.2 e.1*fO e.2 (1+j)))) λj _=>by rw [this j]];exact rW6.flat t611 (pT _ _)
   ·exact b11.at nNE.symm e10
   ·rw [jY];exact dU (f:=(0,1)) (t11 _ _ (t10 _ _ e9))
   ·obtain ⟨_,_,_,_,_,_,_,_,_,_,_,_,_,_,q,_⟩:=q;exact q
   ·rintro a p b σ H12 hp hb ⟨o8,o9,o10,o11,o12,o13,kvl,wv2,y,E,rfl,S12,t12,fz12,eN12,eL12,lL12,D12,eW12,rW12,eE12,rE12,qE⟩;have ha:a<kvn.length:=(aH.mp hp).1;obtain ⟨e,he⟩:∃e,ds[a]?=some e:=⟨_,aB Oo⟩;have hem:=aM he;obtain ⟨hes,hesum⟩:=dm e hem;have hel:=RL.len e hes;have hpk:p.1=kT (ci e.1):=by
     have h1:(kvn.map (·.1))[a]?=(ks.map λc=>kT (ci c))[a]?:=by rw [k1]
     rw [<-d1,List.map_map,aI,aI,hp,he] at h1;exact cO h1
    rw [hpk,oI] at hb;have ha64:a<64:=Oo;obtain ⟨zv,hzv,rzv⟩:=p3 e hes;obtain ⟨sa,sx,rfl,hsa,rsx⟩:=qQ (rzv.same S12);have syg:=RG.sy e hes;obtain ⟨f0,fr,efs,l0,z0,nn0,v0,on0⟩:=syg.hd;have lsx:sx.length=1+W:=by rw [rsx.len,aA];exact syg.len
    obtain ⟨va,hva,rva⟩:∃va,eY kvn (kT (ci e.1))=some va/\cB H12 (eQ (cG (eV F es x.2 e.1))) va:=by
     have hS:e.1∈(lev es kk).map (·.1):=aP.mpr ⟨e,hJ.mpr ⟨hes,hesum⟩,rfl⟩;rcases D11.at_ e.1 with ⟨_,_,z⟩ | ⟨v,h1,h2,h3⟩
     ·exact absurd hS z
     ·rw [hg6 _ hS] at h2;exact ⟨v,h1,h2.flat t12 (cF _)⟩
    have szA:iZ 4000 (cG (eV F es x.2 e.1)):=iA (qA e hes) pn0 pn1 b1;refine ⟨_,rfl,_,rfl,?_⟩;refine KZ fz12 hb hzv ?_;have lwv:wv2.length=W:=by rw [rW12.len,aA,cV]
    obtain ⟨bs0,hbs⟩:∃bs0:Nat->Rat,bs0=λj=>(dH (low es kk) λe=>eV F es x.2 e.1*fO e.2 (1+j))+dH (ds.take a) λe=>eV F es x.2 e.1*fO e.2 (1+j):=⟨_,rfl⟩;have rW12:bF H12 ((List.range W).map λj=>eQ (cG (bs0 j))) wv2:=by rw [hbs];exact rW12
    have qb:∀j,Qn Pn (200*B) (bs0 j):=λj=>by
     rw [hbs];have h1:=Qn.sumL (N:=Pn) (B:=B) (l:=low es kk) (f:=λe=>eV F es x.2 e.1*fO e.2 (1+j)) λe he=>qV e (List.mem_filter.mp he).1 _;have h2:=Qn.sumL (N:=Pn) (B:=B) (l:=ds.take a) (f:=λe=>eV F es x.2 e.1*fO e.2 (1+j)) λe he=>qV e (dm e (List.mem_of_mem_take he)).1 _;refine (h1.add h2).le ?_;rw [<-Nat.add_mul];refine cC _ ?_;have h3:(low es kk).length<=es.length:=List.length_filter_le _ _;have h4:(ds.take a).length<=64:=by rw [bP];omega
     omega
    refine ⟨_,rfl,?_⟩;refine TK eW12 ?_;refine ⟨_,rfl,Oo,Oo,?_⟩;rw [lwv,show ((W:Nat):Int).toNat=W by omega];have stay:∀{H':Hp},(∀q o,q≠Wl->q≠El->H12 q=some o->H' q=some o)->cQ H12 H'/\aQ H H':=λhk=>⟨λq us h=>hk q _ (λz=>by rw [z,eW12] at h;cases h) (λz=>by rw [z,eE12] at h;cases h) h,λq o h=>hk q o (λz=>by rw [z,hWlH] at h;cases h) (λz=>by rw [z,hElH] at h;cases h) (S12 _ _ h)⟩;refine gM (λj σ H'=>∃(o10 o11:Option V) (wv:List V) (y:V) (E':Rat),σ=[some (.ref at'),some (.ref ra),some (.int (i:Int)),some (.ref Tb),some (.ref Nw),some (.ref Wl),some (.ref El),some (.ref Lt),some (.ref b),some (.ref sa),o10,o11,o12,o13]/\(∀q o,q≠Wl->q≠El->H12 q=some o->H' q=some o)/\H' Wl=some (.lst wv)/\bF H' ((List.range W).map λt=>eQ (cG (bs0 t+if t<j then eV F es x.2 e.1*fO e.2 (1+t) else 0))) wv/\H' El=some (.lst (ev++[y]))/\cB H' (eQ (cG E')) y/\Qn Pn (4*a*B+j*B) E') ⟨_,_,wv2,y,E,rfl,λ_ _ _ _ h=>h,eW12,?_,eE12,rE12,qE.le Oo⟩ ?_ ?_
    ·rw [cZ (g:=λj=>eQ (cG (bs0 j))) λj _=>by rw [if_neg (Nat.not_lt_zero _),show bs0 j+0=bs0 j by grind]];exact rW12
    ·rintro j σ H13 hj ⟨o10',o11',wv3,y3,E3,rfl,hk13,eW13,rW13,eE13,rE13,qE3⟩;rw [show (0:Int)+(j:Int)=(j:Int) by omega];obtain ⟨t13,S13⟩:=stay hk13;have lwv3:wv3.length=W:=by rw [rW13.len,aA,cV]
     have fN13:AZ H13 Nw kvn:=⟨o,hk13 _ _ nNW nNE eN12⟩;have hb13:=t13 _ _ hb;have hsa13:=t13 _ _ hsa;obtain ⟨gy,hgy⟩:∃gy,sx[1+j]?=some gy:=⟨_,aB Oo⟩;obtain ⟨gf,hgf,rgf⟩:=dQ rsx hgy;obtain ⟨lg,ng,zg⟩:=syg.at_ gf (aM hgf);have evf:fO e.2 (1+j)=rv gf:=BD hgf;refine ⟨_,rfl,_,rfl,?_⟩;refine KZ fN13 hb13 hva ?_;refine ⟨_,rfl,_,rfl,_,_,rfl,rfl,?_⟩;refine fZ hsa13 (by rw [show (1:Int)+(j:Int)=((1+j:Nat):Int) by omega];exact cK hgy) ?_;refine kE (fP.of (rva.flat t13 (cF _))) (fP.of (rgf.flat t13 (cF _))) (aY _) lg szA (zg.up yd) λq14 H14 hq14 e14 s14=>?_;have em:lX (cG (eV F es x.2 e.1)) gf=cG (eV F es x.2 e.1*fO e.2 (1+j)):=fS (iV (aY _) lg) (aY _) (by rw [lV (aY _).pos lg.pos,cP,cP,evf]);rw [em] at e14;have qp:=qV e hes (1+j);obtain ⟨wy,hwy⟩:∃wy,wv3[j]?=some wy:=⟨_,aB Oo⟩;obtain ⟨wj,hwj,rwj⟩:=dQ (g:=λt=>eQ (cG (bs0 t+if t<j then eV F es x.2 e.1*fO e.2 (1+t) else 0))) rW13 hwy;rw [cR Oo] at hwj;cases hwj;have rwj:cB H13 (eQ (cG (bs0 j))) wy:=by
      have h1:cB H13 (eQ (cG (bs0 j+if j<j then eV F es x.2 e.1*fO e.2 (1+j) else 0))) wy:=rwj
      rwa [if_neg (cE _),show bs0 j+0=bs0 j by grind] at h1
     refine ⟨_,rfl,_,rfl,?_⟩;refine kC (s14 _ _ eW13) (cK hwy) ?_;refine ⟨_,rfl,?_⟩;refine oE (fP.of (rwj.same s14)) (fP.new e14) (aY _) (aY _) (iA (qb j) pn0 pn1 (b2 200 yd)) (iA qp pn0 pn1 b1) λq15 H15 hq15 e15 s15=>?_;rw [CL] at e15;refine ⟨_,rfl,_,rfl,?_⟩;have hjx:vS wv3.length (j:Int)=some j:=by
      unfold vS;rw [if_pos Oo,if_pos Oo];rfl
     refine JA (s15 _ _ (s14 _ _ eW13)) hjx λH16 e16 b16=>?_;have s1315:=s14.trans s15;have t16:=b16.t (s1315 _ _ eW13);have eE16:=b16.at nWE (s1315 _ _ eE13);refine ⟨_,rfl,?_⟩;refine ⟨_,rfl,?_⟩;refine kC eE16 (LR ev y3) ?_;refine ⟨_,rfl,?_⟩;have qE3':4*a*B+j*B<=2^200:=by
      rw [<-Nat.add_mul];exact b2 _ Oo
     refine oE (fP.of ((rE13.same s1315).flat t16 (cF _))) (fP.new (t16 _ _ (s15 _ _ e14))) (aY _) (aY _) (iA qE3 pn0 pn1 qE3') (iA qp pn0 pn1 b1) λq17 H17 hq17 e17 s17=>?_;rw [CL] at e17;refine ⟨_,rfl,?_⟩;refine ⟨_,rfl,?_⟩;have hlx:vS (ev++[y3]).length (-1)=some ev.length:=by
      unfold vS;rw [if_neg yd,if_pos (by rw [bC,List.length_singleton];omega)];congr 1;rw [bC,List.length_singleton];omega
     refine JA (s17 _ _ eE16) hlx λH18 e18 b18=>?_;have t18:=b18.t (s17 _ _ eE16);have t1618:cQ H16 H18:=s17.t.trans t18;refine ⟨_,_,wv3.set j (.ref q15),.ref q17,_,rfl,λq o h1 h2 h3=>b18.at h2 (s17 _ _ (b16.at h1 (s1315 _ _ (hk13 q o h1 h2 h3)))),b18.at nWE.symm (s17 _ _ e16),?_,?_,dU (t18 _ _ e17),?_⟩
     ·refine bF.ofIdx (by rw [List.length_set,aA,cV];exact lwv3) λt y hy=>?_;have ht:t<W:=by have:=(aH.mp hy).1;rw [List.length_set] at this;omega
      refine ⟨_,by rw [aI,cR ht];rfl,?_⟩;by_cases q:t=j
      ·subst q;rw [List.getElem?_set_self Oo] at hy;cases hy;show cB H18 (eQ (cG (bs0 t+if t<t+1 then _ else _))) _;rw [if_pos Oo];exact dU (t1618 _ _ (t16 _ _ e15))
      ·rw [List.getElem?_set_ne (λz=>q z.symm)] at hy;obtain ⟨t',ht',rt'⟩:=dQ (g:=λt=>eQ (cG (bs0 t+if t<j then eV F es x.2 e.1*fO e.2 (1+t) else 0))) rW13 hy;rw [cR ht] at ht';cases ht';have rt':cB H13 (eQ (cG (bs0 t+if t<j then eV F es x.2 e.1*fO e.2 (1+t) else 0))) y:=rt';show cB H18 (eQ (cG (bs0 t+if t<j+1 then _ else _))) y;have:(if t<j+1 then eV F es x.2 e.1*fO e.2 (1+t) else 0)=if t<j then eV F es x.2 e.1*fO e.2 (1+t) else 0:=by
        by_cases q2:t<j
        ·rw [if_pos q2,if_pos Oo]
        ·rw [if_neg q2,if_neg Oo]
       rw [this];exact (rt'.same s1315).flat (t16.trans t1618) (cF _)
     ·rw [e18];congr 2;rw [List.set_append_right _ _ (aF _),Nat.sub_self];rfl
     ·refine (qE3.add qp).le ?_;rw [show 4*a*B+(j+1)*B=4*a*B+j*B+B by rw [Nat.add_mul j 1 B,Nat.one_mul];omega];exact aF _
    ·rintro σ H13 ⟨o10',o11',wv3,y3,E3,rfl,hk13,eW13,rW13,eE13,rE13,qE3⟩;obtain ⟨t13,S13⟩:=stay hk13;have hb13:=t13 _ _ hb;have hsa13:=t13 _ _ hsa;obtain ⟨y0,hy0⟩:∃y0,sx[0]?=some y0:=⟨_,aB Oo⟩;obtain ⟨f0',hf0',ry0⟩:=dQ rsx hy0;rw [efs] at hf0';cases (show f0=f0' by simpa using hf0');have es0:s0 e=rv f0:=v0;refine ⟨_,rfl,?_⟩;refine MD hb13 ?_;refine ⟨_,rfl,?_⟩;refine fZ hsa13 (cK (j:=0) hy0) ?_;refine qH (by show 2<=64;decide) λq14 H14 hq14 e14 s14=>?_;refine reD ((ry0.flat t13 (cF _)).same s14) (dU (f:=(0,1)) e14) rfl rfl ?_;refine .inr ⟨_,rfl,?_⟩;have lci:((ci e.1).map V.int).length=F:=by unfold ci;rw [aA,aA];exact hel
     obtain ⟨cn,hcn,hon⟩:∃cn:Nat,((((ci e.1).map V.int).length:Nat):Int)*(if (false == PyData.eqv (eQ f0) (eQ (0,1)))=true then 1 else 0)=(cn:Int)/\cn=if f0=(0,1) then 0 else F:=by
      rw [KW,lci];by_cases z:f0=(0,1)
      ·exact ⟨0,by rw [eA z];simp,by rw [if_pos z]⟩
      ·exact ⟨F,by rw [dF z];simp,by rw [if_neg z]⟩
     have cnF:cn<=F:=by rw [hon];split <;> omega
     refine ⟨_,_,rfl,rfl,IntMulOk.of_left (PySem.intBits_le_64 Oo Oo),?_⟩;refine ⟨_,rfl,?_⟩;show _/\_/\_;rw [hcn];refine ⟨Oo,Oo,?_⟩;have s0on:¬f0=(0,1)↔s0 e≠0:=by
      rw [es0];constructor
      ·intro h1 q;exact h1 (fS l0 KN (by rw [q];exact lU.symm))
      ·intro h1 q;exact h1 (by rw [q];exact lU)
     obtain ⟨wx,hwx,rwx⟩:=iD rxw hx;obtain ⟨wa,wus,rfl,hwa,rwus⟩:=fX rwx;obtain ⟨wu,wz,rfl,rwu,rwz⟩:=kB rwus;obtain ⟨ha',hx',rfl,hha,rhx⟩:=qQ rwz;have lhx:hx'.length=F:=by rw [rhx.len,aA];exact lx
     have k14:∀q o,q≠Wl->q≠El->H12 q=some o->H14 q=some o:=λq o h1 h2 h3=>s14 _ _ (hk13 q o h1 h2 h3);have eL14:=k14 _ _ nLW nLE eL12;have tk:ds.take (a+1)=ds.take a++[e]:=eO he;have t1214:=t13.trans s14.t;have S14:=S13.trans s14;refine gM (λg' σ H'=>∃(o11 o12 o13:Option V) (kvl:List (List eG × V)),σ=[some (.ref at'),some (.ref ra),some (.int (i:Int)),some (.ref Tb),some (.ref Nw),some (.ref Wl),some (.ref El),some (.ref Lt),some (.ref b),some (.ref sa),o10',o11,o12,o13]/\aN Lt H14 H'/\H' Lt=some (.dT kvl)/\kvl.length<=4*a+g'/\DN H' kvl (λd=>uV F es x.2 (ds.take a) d+eV F es x.2 e.1*s0 e*eZ g' λf=>if bS e.1 f=d then fO x.2 f else 0) (λd=>(∃e∈ds.take a,s0 e≠0/\∃f,f<F/\d=bS e.1 f)\/∃f,f<g'/\d=bS e.1 f))
      ⟨_,_,_,kvl,rfl,(aQ.refl _).but,eL14,Oo,(D12.t t1214).eq (λd=>by rw [fD];grind) (λd=>⟨λq=>q.elim id λ⟨f,hf,_⟩=>absurd hf (Nat.not_lt_zero _),.inl⟩)⟩ ?_ ?_
     ·rintro g' σ H15 hg' ⟨o11'',o12'',o13'',kv15,rfl,b15,e15,lk15,D15⟩;rw [show (0:Int)+(g':Int)=(g':Int) by omega];have t15:=aN.tT b15 eL14;have hb15:=t15 _ _ (s14 _ _ hb13);have T15:cQ H12 H15:=t1214.trans t15;have gF:g' < F:=Oo;refine ⟨_,rfl,_,rfl,?_⟩;refine tJ (cs:=e.1) (jE (by rw [<-iK];exact hb15)) Oo Oo λv16 H16 s16 r16=>?_;obtain ⟨a16,rfl,ha16⟩:=iQ r16;have fN16:AZ H16 Nw kvn:=⟨o,s16 _ _ (b15.at nLN.symm (k14 _ _ nNW nNE eN12))⟩;refine ⟨_,rfl,_,rfl,?_⟩;refine KZ fN16 (s16 _ _ hb15) hva ?_;refine ⟨_,rfl,?_⟩;refine fZ (s16 _ _ (T15 _ _ hsa)) (cK (j:=0) hy0) ?_;refine kE (fP.of ((rva.flat T15 (cF _)).same s16)) (fP.of ((ry0.flat T15 (cF _)).same s16)) (aY _) l0 szA (z0.up yd) λq17 H17 hq17 e17 s17=>?_;have em:lX (cG (eV F es x.2 e.1)) f0=cG (eV F es x.2 e.1*s0 e):=fS (iV (aY _) l0) (aY _) (by rw [lV (aY _).pos l0.pos,cP,cP,es0]);rw [em] at e17;obtain ⟨hy,hhy⟩:∃hy,hx'[g']?=some hy:=⟨_,aB Oo⟩;obtain ⟨hf,hhf,rhf⟩:=dQ rhx hhy;have evh:fO x.2 g'=rv hf:=BD hhf;have fh:=hsh hf (aM hhf);have hbot:∀{q:Addr} {us:List V},H q=some (.tup us)->H17 q=some (.tup us):=λh=>s17 _ _ (s16 _ _ (T15 _ _ (S12 _ _ h)));refine ⟨_,rfl,?_⟩;refine fZ (hbot hat') rfl ?_;refine ⟨_,rfl,?_⟩;refine fZ (hbot haw) (cK hwx) ?_;refine fZ (hbot hwa) rfl ?_;refine ⟨_,rfl,?_⟩;refine fZ (hbot hha) (cK hhy) ?_;have szh:iZ 4000 hf:=rW fh RG.s1 (Nat.lt_trans nz (Nat.pow_lt_pow_right yd yd)) Nat.one_le_two_pow;have szs0:iZ 4000 (cG (eV F es x.2 e.1*s0 e)):=iA (qV e hes 0) pn0 pn1 b1
      refine kE (fP.new e17) (fP.of ((rhf.same S12).flat ((T15.trans s16.t).trans s17.t) (cF _))) (aY _) fh.low szs0 szh λq18 H18 hq18 e18 s18=>?_;have em2:lX (cG (eV F es x.2 e.1*s0 e)) hf=cG (eV F es x.2 e.1*s0 e*fO x.2 g'):=fS (iV (aY _) fh.low) (aY _) (by rw [lV (aY _).pos fh.low.pos,cP,cP,evh]);rw [em2] at e18;have qn:=qN e hes g' gF;have s1518:=(s16.trans s17).trans s18;have e18d:=s1518 _ _ e15;refine ⟨_,rfl,Lt,rfl,.inr ⟨kv15,.inl e18d⟩,_,rfl,?_⟩;refine qH (by show 2<=64;decide) λq19 H19 hq19 e19 s19=>?_;have ha19:H19 a16=some (.tup ((ci (bS e.1 g')).map V.int)):=by rw [iK];exact s19 _ _ (s18 _ _ (s17 _ _ ha16))
      refine ⟨_,mG.ct (c:=ci (bS e.1 g')) (s19 _ _ e18d) ha19,?_⟩;refine ⟨_,rfl,?_⟩;have D19:=D15.t (s1518.trans s19).t;have old:fP K H19 (cG (uV F es x.2 (ds.take a) (bS e.1 g')+eV F es x.2 e.1*s0 e*eZ g' λf=>if bS e.1 f=bS e.1 g' then fO x.2 f else 0)) ((eY kv15 (kT (ci (bS e.1 g')))).getD (.ref q19)):=by
       rcases D19.at_ (bS e.1 g') with ⟨z1,z2,_⟩ | ⟨v1,z1,z2,_⟩
       ·have z2:(uV F es x.2 (ds.take a) (bS e.1 g')+eV F es x.2 e.1*s0 e*eZ g' λf=>if bS e.1 f=bS e.1 g' then fO x.2 f else 0)=0:=z2;rw [z1,z2,jY];exact fP.new (f:=(0,1)) e19
       ·rw [z1];exact fP.of z2
      have qo:Qn Pn (300*B) (uV F es x.2 (ds.take a) (bS e.1 g')+eV F es x.2 e.1*s0 e*eZ g' λf=>if bS e.1 f=bS e.1 g' then fO x.2 f else 0):=by
       have one:∀e' ∈ es,∀n,n<=F->Qn Pn (4*B) (eV F es x.2 e'.1*s0 e' * eZ n λf=>if bS e'.1 f=bS e.1 g' then fO x.2 f else 0):=λe' he' n hn=>by
        rw [<-mQ];refine (Qn.sumR (N:=Pn) (B:=B) (n:=n) λf hf=>?_).le (cC _ Oo);split
        ·exact qN e' he' f Oo
        ·rw [show eV F es x.2 e'.1*s0 e' * 0=0 by grind];exact Qn.zero _ _
       have h1:=Qn.sumL (N:=Pn) (B:=4*B) (l:=ds.take a) (f:=λe'=>eV F es x.2 e'.1*s0 e' * eZ F λf=>if bS e'.1 f=bS e.1 g' then fO x.2 f else 0) λe' he'=>one e' (dm e' (List.mem_of_mem_take he')).1 F (aF _);refine (h1.add (one e hes g' Oo)).le ?_;have h4:(ds.take a).length<=64:=by rw [bP];omega
       have h5:=cC (4*B) h4;omega
      refine oE old (fP.new (s19 _ _ e18)) (aY _) (aY _) (iA qo pn0 pn1 (b2 300 yd)) (iA qn pn0 pn1 b1) λq20 H20 hq20 e20 s20=>?_;rw [CL] at e20;refine ⟨_,rfl,_,rfl,?_⟩;refine ZF (s20 _ _ (s19 _ _ e18d)) (c:=ci (bS e.1 g')) (s20 _ _ ha19) Oo λH21 e21 b21=>?_;have t21:=aN.tT b21 (s20 _ _ (s19 _ _ e18d));refine ⟨_,_,_,_,rfl,(b15.trans ((s1518.trans s19).trans s20).but).trans b21,e21,?_,?_⟩
      ·have:=gG kv15 (kT (ci (bS e.1 g'))) (V.ref q20);omega
      ·refine (((D19.t s20.t).put (c:=bS e.1 g') (v:=.ref q20) (y:=eV F es x.2 e.1*s0 e*fO x.2 g') (dU e20)).t t21).eq (λd=>?_) (λd=>?_)
       ·rw [dJ];by_cases q:bS e.1 g'=d
        ·rw [if_pos q,if_pos q];grind
        ·rw [if_neg q,if_neg q];grind
       ·constructor
        ·rintro (h | ⟨f,hf,e1⟩)
         ·exact .inl (.inl h)
         ·by_cases q:f=g'
          ·subst q;exact .inr e1.symm
          ·exact .inl (.inr ⟨f,Oo,e1⟩)
        ·rintro ((h | ⟨f,hf,e1⟩) | h)
         ·exact .inl h
         ·exact .inr ⟨f,Oo,e1⟩
         ·exact .inr ⟨g',Oo,h.symm⟩
     ·rintro σ H15 ⟨o11'',o12'',o13'',kv15,rfl,b15,e15,lk15,D15⟩;have t15:=aN.tT b15 eL14;have T15:cQ H12 H15:=t1214.trans t15;have S15:aQ H H15:=aQ.thru hLtH S14 b15;have W15:=b15.at nLW.symm (s14 _ _ eW13);have E15:=b15.at nLE.symm (s14 _ _ eE13);have fT15:AZ H15 Tb kvt:=by
       obtain ⟨o',h⟩:=fz12;exact ⟨o',b15.at nTL (k14 _ _ nTW nTE h)⟩
      refine ⟨_,_,_,_,_,_,kv15,wv3,y3,E3,rfl,S15,t12.trans T15,fT15,b15.at nLN.symm (k14 _ _ nNW nNE eN12),e15,Oo,D15.eq (λd=>?_) (λd=>?_),W15,?_,E15,(rE13.same s14).flat t15 (cF _),qE3.le ?_⟩
      ·unfold uV;rw [tk,nK];by_cases z:f0=(0,1)
       ·have hs:s0 e=0:=bU λq=>(s0on.mpr q) z;rw [hs];grind
       ·rw [hon,if_neg z,show ((F:Nat):Int).toNat=F by omega]
      ·rw [tk];constructor
       ·rintro ⟨e',he',h0,f,hf,e1⟩;rcases dP.mp he' with he' | he'
        ·exact .inl ⟨e',he',h0,f,hf,e1⟩
        ·rw [bR.mp he'] at h0 e1;have z:=s0on.mpr h0;rw [if_neg z] at hon;exact .inr ⟨f,Oo,e1⟩
       ·rintro (⟨e',he',h⟩ | ⟨f,hf,e1⟩)
        ·exact ⟨e',bZ _ he',h⟩
        ·by_cases z:f0=(0,1)
         ·rw [if_pos z] at hon;omega
         ·exact ⟨e,bH _ (bR.mpr rfl),s0on.mp z,f,Oo,e1⟩
      ·rw [cZ (g:=λt=>eQ (cG (bs0 t+if t<W then eV F es x.2 e.1*fO e.2 (1+t) else 0))) λt ht=>by
        rw [if_pos (cU.mp ht),hbs,tk,nK];congr 2;grind]
       exact (rW13.same s14).flat t15 (pT _ _)
      ·rw [<-Nat.add_mul];exact cC _ Oo
   ·rintro σ H12 ⟨o8,o9,o10,o11,o12,o13,kvl,wv2,y,E,rfl,S12,t12,fz12,eN12,eL12,lL12,D12,eW12,rW12,eE12,rE12,qE⟩;rw [<-lds,bG] at D12 rW12;refine ⟨_,rfl,?_⟩;refine ⟨M+2-(kk+1),Oo,_,_,_,_,_,_,_,Lt,kvl,_,wv2,ev++[y],kk+1,rfl,S12,fz12,eL12,D12.eq (λ_=>rfl) (λd=>?_),λd hd=>?_,eW12,?_,eE12,by rw [bC,List.length_singleton];omega,nLW,nLE,hLtH,Oo,rfl⟩
    ·rw [EE RL];exact ⟨λ⟨e,he,h⟩=>⟨e,d2.mem_iff.mpr he,h⟩,λ⟨e,he,h⟩=>⟨e,d2.mem_iff.mp he,h⟩⟩
    ·obtain ⟨e,he,rfl⟩:=aP.mp hd;unfold uV;rw [vD d2];exact ON RL lowS lx (hJ.mp he).2
    ·rw [cZ (g:=λj=>eQ (cG ((dH (low es kk) λe=>eV F es x.2 e.1*fO e.2 (1+j))+dH ds λe=>eV F es x.2 e.1*fO e.2 (1+j)))) λj _=>by rw [KM,vD d2]];exact rW12
 ·rintro σ H6 ⟨o4,o7,o8,o9,o10,o11,o12,o13,wv,rfl,S6,eW6,rW6⟩;refine ⟨_,rfl,_,rfl,?_⟩;refine qH (by show 2<=64;decide) λq7 H7 hq7 e7 s7=>?_;exact k q7 Wl El wv H7 (S6.trans s7) e7 (s7 _ _ eW6) (rW6.same s7)
end
theorem Qn.le1{D C:Nat}{x:Rat}(h:Qn D C x)(d0:0<D)(h0:0<=x)(h1:x<=1):Qn D 1 x:=by
 obtain ⟨X,eX,bX⟩:=h;have dp:(0:Rat)<(D:Rat):=by exact_mod_cast d0
 have X0:0<=X:=by
  have:(0:Rat)<=(X:Rat):=by rw [<-eX];exact fC h0 (Rat.le_of_lt dp)
  exact_mod_cast this
 have X1:X<=(D:Int):=by
  have:(X:Rat)<=(D:Rat):=by
   rw [<-eX];have:=Rat.mul_le_mul_of_nonneg_right h1 (Rat.le_of_lt dp);grind
  have:((X:Int):Rat)<=((D:Int):Rat):=by rw [nD];exact this
  exact_mod_cast this
 exact ⟨X,eX,Oo⟩
theorem kG{Ds:Nat}{s:Rat}(hs:Qn Ds 1 s)(ds:0<Ds)(h0:0<=s)(h1:s<=1):Qn Ds 1 (1-s) :=
 Qn.le1 ((Qn.one' Ds).sub hs) ds (by grind) (by grind)
section
variable{F W M N B Ns:Nat}{es:List cJ}{s:List Fr}
theorem mN.sdnn(R:mN F W M N B Ns es)(hs:∀f∈s,cT f/\0<=f.1)(w:Nat):0<=kF F es (wq s) w:=by
 have all:∀l:List cJ,(∀e∈l,e∈es)->0<=dH l λe=>bV F es e.1*wq s e.1*fO e.2 (1+w):=λl=>by
  induction l with
  | nil=>intro _;rw [eK];exact Rat.le_refl
  | cons e l ih =>
   intro h;have h1:=ih λx hx=>h x (aK _ hx);have he:=h e (aO ..);have h2:=fC (fC (R.rl.nnf e.1) (QG (c:=e.1) hs)) ((R.sy e he).nn (1+w));rw [cD];grind
 exact all es λe he=>he
theorem mN.sd1(R:mN F W M N B Ns es)(hs:∀f∈s,cT f/\0<=f.1)(h1:mR (s.map rv)=1)(hl:s.length=F){w:Nat}(hw:w<W):kF F es (wq s) w<=1:=by
 have lowS:∀f∈s,cT f:=λf hf=>(hs f hf).1;have e1:=R.rl.all (wq s);rw [CV lowS] at e1;have e2:(dH es λe=>bV F es e.1*s0 e*eZ F λf=>wq s (bS e.1 f))=dH es λe=>bV F es e.1*wq s e.1*s0 e:=fR λe he=>by
  have:=RT lowS h1 (c:=e.1) (by rw [R.rl.len e he,hl]);rw [hl] at this;rw [<-this];grind
 rw [e2] at e1;have all:∀l:List cJ,(∀e∈l,e∈es)->(dH l λe=>bV F es e.1*wq s e.1*fO e.2 (1+w))<=(dH l λe=>bV F es e.1*wq s e.1)-dH l λe=>bV F es e.1*wq s e.1*s0 e:=λl=>by
  induction l with
  | nil=>intro _;rw [eK,eK,eK];grind
  | cons e l ih =>
   intro h;have h1:=ih λx hx=>h x (aK _ hx);have he:=h e (aO ..);have sy:=R.sy e he;have h2:=sy.rest;have h3:fO e.2 (1+w)<=1-s0 e:=by
    have h4:=yO (λv=>fO e.2 (1+v)) hw;have h5:0<=eZ W (λi=>if i=w then 0 else fO e.2 (1+i)):=DI λi _=>by
     split
     ·exact Rat.le_refl
     ·exact sy.nn _
    have h6:s0 e=fO e.2 0:=rfl;rw [h6];grind
   have h7:=Rat.mul_le_mul_of_nonneg_left h3 (fC (R.rl.nnf e.1) (QG (c:=e.1) hs));rw [cD,cD,cD];grind
 have h:=all es λe he=>he;unfold kF;grind
end
structure HE where
 fs:List Str
 ws:List (Str × List Fr)
 es:List cJ
abbrev hD(h:HE):PyData:=.tuple [uQ h.fs h.ws,uT h.es]
abbrev CA(hs:List HE):PyData:=.tuple (hs.map hD)
theorem OX(h:HE):eN (hD h)=true:=by
 show (eN (uQ h.fs h.ws)&&(eN (uT h.es)&&true))=true;rw [mP,vJ];rfl
theorem nG:∀hs:List HE,dO (hs.map hD)=true
 | []=>rfl
 | h::hs=>by show (eN (hD h)&&dO (hs.map hD))=true;rw [nG hs,OX];rfl
theorem pP(hs:List HE):eN (CA hs)=true:=nG hs
structure uM(D:Nat)(h:HE):Prop where
 ex:∃M Ns,mN h.fs.length h.ws.length M (LC^6) (5^40) Ns h.es/\D=LC^6*Ns^M/\TrG h.ws.length Ns h.ws/\0<Ns/\Ns<2^400
 f2:2<=h.fs.length
 f4:h.fs.length<=4
 w2:2<=h.ws.length
 w4:h.ws.length<=4
 len:∀x∈h.ws,x.2.length=h.fs.length
 nn:∀x∈h.ws,∀f∈x.2,cT f/\0<=f.1
 one:∀x∈h.ws,mR (x.2.map rv)=1
 d1:D<2^600
def oM(h:HE)(j:Nat):Rat:=kF h.fs.length h.es (YZ (QI h.ws) j) j
theorem JG{h:HE}{j:Nat}{x:Str × List Fr}(hx:h.ws[j]?=some x):oM h j=kF h.fs.length h.es (wq x.2) j:=by
 unfold oM;rw [JT hx]
theorem uM.sd{D:Nat}{h:HE}(ok:uM D h){j:Nat}(hj:j<h.ws.length):0<=oM h j/\oM h j<=1/\Qn D 1 (oM h j)/\0<D:=by
 obtain ⟨M,Ns,R,rfl,T,n0,n1⟩:=ok.ex;have hx:=aB hj;have hm:=List.getElem_mem hj;rw [JG hx];have h0:=R.sdnn (ok.nn _ hm) j;have h1:=R.sd1 (ok.nn _ hm) (ok.one _ hm) (ok.len _ hm) hj;have d0:=R.pz.1;exact ⟨h0,h1,Qn.le1 (R.said (T.sh _ hm) j) d0 h0 h1,d0⟩
def pq(xs:List Rat):Rat:=xs.foldr (λx p=>(1-x)*p) 1
theorem DX(xs:List Rat)(x:Rat):pq (xs++[x])=pq xs*(1-x):=by
 induction xs with
 | nil=>show (1-x)*1=1*(1-x);grind
 | cons a xs ih=>show (1-a)*pq (xs++[x])=(1-a)*pq xs*(1-x);rw [ih];grind
def pN(Ds:List Nat):Nat:=Ds.foldr (λd p=>d*p) 1
structure sL(xs:List Rat):Prop where
 part:∀i,0<=pq (xs.take i)/\pq (xs.take i)<=1/\∃P,0<P/\P<2^1000/\Qn P 1 (pq (xs.take i))
 each:∀x∈xs,0<=x/\x<=1/\∃P,0<P/\P<2^1000/\Qn P 1 x
 len:xs.length<=64
theorem pG:∀{Ds:List Nat}(i:Nat),(∀d∈Ds,0<d)->0<pN (Ds.take i)/\pN (Ds.take i)<=pN Ds
 | [],i,_=>by rw [List.take_nil];exact ⟨yd,aF _⟩
 | d::Ds,0,h=>by
  have h1:=(pG (Ds:=Ds) Ds.length λx hx=>h x (aK _ hx)).1;rw [bG] at h1;refine ⟨by rw [List.take_zero];decide,?_⟩;rw [List.take_zero];exact Nat.mul_pos (h d (aO ..)) h1
 | d::Ds,i+1,h=>by
  obtain ⟨h1,h2⟩:=pG (Ds:=Ds) i λx hx=>h x (aK _ hx);have hd:=h d (aO ..);rw [List.take_succ_cons];exact ⟨Nat.mul_pos hd h1,dW _ h2⟩
theorem JW:∀{xs:List Rat}{Ds:List Nat},Paired (λx D=>0<D/\Qn D 1 x/\0<=x/\x<=1) xs Ds->Qn (pN Ds) 1 (pq xs)/\0<=pq xs/\pq xs<=1
 | _,_,.nil=>⟨Qn.one' _,by show (0:Rat)<=1;decide,by show (1:Rat)<=1;decide⟩
 | x::xs,D::Ds,.cons r t=>by
  obtain ⟨h1,h2,h3⟩:=JW t;obtain ⟨d0,q,x0,x1⟩:=r;have h4:=(kG q d0 x0 x1).mul h1;refine ⟨h4,fC (by grind) h2,?_⟩;show (1-x)*pq xs<=1;have h5:(1-x)*pq xs<=(1-x)*1:=Rat.mul_le_mul_of_nonneg_left h3 (by grind);grind
theorem sE{α β:Type}{R:α->β->Prop}:∀{xs:List α}{ys:List β}(i:Nat),Paired R xs ys->Paired R (xs.take i) (ys.take i)
 | _,_,_,.nil=>by rw [List.take_nil,List.take_nil];exact .nil
 | _,_,0,.cons _ _=>.nil
 | _,_,i+1,.cons r t=>.cons r (sE i t)
theorem oF{α β:Type}{R:α->β->Prop}:∀{xs:List α}{ys:List β},Paired R xs ys->(∀x∈xs,∃y∈ys,R x y)/\∀y∈ys,∃x∈xs,R x y
 | _,_,.nil=>⟨(λx h=>by cases h),λx h=>by cases h⟩
 | x::xs,y::ys,.cons r t=>by
  obtain ⟨h1,h2⟩:=oF t;refine ⟨λa ha=>?_,λb hb=>?_⟩
  ·rcases bE.mp ha with rfl | ha
   ·exact ⟨y,aO ..,r⟩
   ·obtain ⟨z,hz,rz⟩:=h1 a ha;exact ⟨z,aK _ hz,rz⟩
  ·rcases bE.mp hb with rfl | hb
   ·exact ⟨x,aO ..,r⟩
   ·obtain ⟨z,hz,rz⟩:=h2 b hb;exact ⟨z,aK _ hz,rz⟩
theorem KD:∀{Ds:List Nat},(∀d∈Ds,0<d)->∀d∈Ds,d<=pN Ds
 | e::Ds,h,d,hd=>by
  have h1:=(pG (Ds:=Ds) Ds.length λx hx=>h x (aK _ hx)).1;rw [bG] at h1;have he:=h e (aO ..);show d<=e*pN Ds;rcases bE.mp hd with rfl | hd
  ·have:=dW d h1;omega
  ·have h2:=KD (λx hx=>h x (aK _ hx)) d hd;have:=cC (pN Ds) he;omega
theorem sL.of{xs:List Rat}{Ds:List Nat}(h:Paired (λx D=>0<D/\Qn D 1 x/\0<=x/\x<=1) xs Ds)(hp:pN Ds<2^1000)(hl:xs.length<=64):sL xs:=by
 obtain ⟨m1,m2⟩:=oF h;have pos:∀d∈Ds,0<d:=λd hd=>let ⟨_,_,r⟩:=m2 d hd;r.1;refine ⟨λi=>?_,λx hx=>?_,hl⟩
 ·obtain ⟨h1,h2,h3⟩:=JW (sE i h);obtain ⟨h4,h5⟩:=pG i pos;exact ⟨h2,h3,_,h4,bJ h5 hp,h1⟩
 ·obtain ⟨D,hD,d0,q,x0,x1⟩:=m1 x hx;exact ⟨x0,x1,D,d0,bJ (KD pos D hD) hp,q⟩
structure eT(hs:List HE):Prop where
 ex:∃Ds,Paired (λh D=>uM D h) hs Ds/\pN Ds<2^1000
 len:hs.length<=3
 ne:1<=hs.length
def mH(hs:List HE)(ks:List Nat):Prop:=Paired (λh k=>k<h.ws.length) hs ks
def wrs:List HE->List Nat->List Rat
 | h::hs,k::ks=>(1-oM h k)::wrs hs ks
 | _,_=>[]
theorem BB:∀{hs:List HE}{ks:List Nat}{Ds:List Nat},mH hs ks->Paired (λh D=>uM D h) hs Ds->Paired (λx D=>0<D/\Qn D 1 x/\0<=x/\x<=1) (wrs hs ks) Ds
 | _,_,_,.nil,.nil=>.nil
 | h::hs,k::ks,D::Ds,.cons r t,.cons r' t'=>by
  obtain ⟨h0,h1,hq,d0⟩:=r'.sd r;exact .cons ⟨d0,kG hq d0 h0 h1,by grind,by grind⟩ (BB t t')
theorem sN:∀{hs:List HE}{ks:List Nat},mH hs ks->(wrs hs ks).length=hs.length
 | _,_,.nil=>rfl
 | _,_,.cons _ t=>by show _+1=_+1;rw [sN t]
theorem wM:∀{hs:List HE}{ks:List Nat},mH hs ks->∀{i:Nat}{h:HE}{k:Nat},hs[i]?=some h->ks[i]?=some k->(wrs hs ks)[i]?=some (1-oM h k)/\k<h.ws.length
 | _,_,.nil,i,h,k,e,_=>by simp at e
 | _,_,.cons r t,0,h,k,e1,e2=>by
  cases (show _=h by simpa using e1);cases (show _=k by simpa using e2);exact ⟨rfl,r⟩
 | _,_,.cons r t,i+1,h,k,e1,e2=>wM t (by simpa using e1) (by simpa using e2)
theorem eT.pr{hs:List HE}{ks:List Nat}(ok:eT hs)(ch:mH hs ks):sL (wrs hs ks):=by
 obtain ⟨Ds,h1,h2⟩:=ok.ex;exact sL.of (BB ch h1) h2 (by rw [sN ch];have:=ok.len;omega)
theorem DY:∀{hs:List HE}{ks ms:List Nat}{Ds:List Nat},mH hs ks->mH hs ms->Paired (λh D=>uM D h) hs Ds->(∀(i:Nat) (h:HE) (k m:Nat),hs[i]?=some h->ks[i]?=some k->ms[i]?=some m->oM h m<=oM h k)->pq (wrs hs ms)<=pq (wrs hs ks)
 | _,_,_,_,.nil,.nil,.nil,_=>Rat.le_refl
 | h::hs,k::ks,m::ms,D::Ds,.cons r t,.cons r1 t1,.cons r2 t2,hl=>by
  have ih:=DY t t1 t2 λi h k m e1 e2 e3=>hl (i+1) h k m (by simpa using e1) (by simpa using e2) (by simpa using e3);have h0:=hl 0 h k m rfl rfl rfl;have a1:=(r2.sd r1).1;have a2:=(r2.sd r).1;have a3:=(JW (BB t1 t2)).2.1;show (1-(1-oM h m))*pq (wrs hs ms)<=(1-(1-oM h k))*pq (wrs hs ks);have b1:oM h m*pq (wrs hs ms)<=oM h k*pq (wrs hs ms):=Rat.mul_le_mul_of_nonneg_right h0 a3;have b2:oM h k*pq (wrs hs ms)<=oM h k*pq (wrs hs ks):=Rat.mul_le_mul_of_nonneg_left ih a2;have e1:1-(1-oM h m)=oM h m:=by grind
  have e2:1-(1-oM h k)=oM h k:=by grind
  rw [e1,e2];exact Rat.le_trans b1 b2
def RE(ws:List (Str × List Fr)):Nat:=pN ((ws.flatMap λx=>x.2).map λf=>f.2.natAbs)
theorem KF:∀{Ds:List Nat}{d:Nat},d∈Ds->d ∣ pN Ds
 | e::Ds,d,h=>by
  show d ∣ e*pN Ds;rcases bE.mp h with rfl | h
  ·exact Nat.dvd_mul_right _ _
  ·exact Nat.dvd_trans (KF h) (Nat.dvd_mul_left _ _)
theorem DZ{B:Nat}:∀{Ds:List Nat},(∀d∈Ds,d<=B)->pN Ds<=B^Ds.length
 | [],_=>aF _
 | d::Ds,h=>by
  show d*pN Ds<=B^(Ds.length+1);rw [Nat.pow_succ,Nat.mul_comm];exact Nat.mul_le_mul (DZ λx hx=>h x (aK _ hx)) (h d (aO ..))
theorem OY{f:Fr}(l:cT f)(h0:0<=f.1)(h1:f.1<=f.2):Fn f.2.natAbs 1 f:=by
 have hp:=l.pos;refine ⟨l,f.1,?_,Oo⟩;have e:=pE hp;have e1:((f.2.natAbs:Nat):Rat)=(f.2:Rat):=by
  have:((f.2.natAbs:Nat):Int)=f.2:=Oo;rw [<-nD,this]
 rw [e1];exact e
theorem AC{F:Nat}:∀{ws:List (Str × List Fr)},(∀x∈ws,x.2.length=F)->(ws.flatMap λx=>x.2).length=ws.length*F
 | [],_=>by simp
 | x::ws,h=>by
  rw [List.flatMap_cons,bC,AC λy hy=>h y (aK _ hy),h x (aO ..),dG,Nat.add_mul];omega
theorem aAO:∀F,F<=4->∀M,M<=5->(2<=F/\(rise F M).length<=40->F*M<=12):=Kk
theorem aAP:∀F,F<=4->∀M,M<=5->(2<=F/\(rise F M).length<=20->F*M<=9):=Kk
theorem fm9:∀F,F<=4->∀M,M<=5->(2<=F/\(rise F M).length<=9->F*M<=4):=Kk
theorem YD{t o F W M:Nat}{fs:List Str}{ws:List (Str × List Fr)}{es:List cJ}(T:yD t o F W fs ws)(R:RN F W M es){Z:Nat}(hz:F*M<=Z)(h12:Z<=12):∃D,uM D ⟨fs,ws,es⟩/\D<=LC^6*1000^(4*Z):=by
 have lF:=T.lenF;have lW:=T.lenW;have hF:=T.hF;have hW:=T.hW;have f1:=R.f1;have lens:∀x∈ws,x.2.length=F:=λx hx=>(T.sh x hx).len;have memD:∀x∈ws,∀f∈x.2,f.2.natAbs∈(ws.flatMap λx=>x.2).map λf=>f.2.natAbs:=λx hx f hf=>aP.mpr ⟨f,List.mem_flatMap.mpr ⟨x,hx,hf⟩,rfl⟩;have allD:∀d∈(ws.flatMap λx=>x.2).map (λf=>f.2.natAbs),0<d/\d<=1000:=λd hd=>by
  obtain ⟨f,hf,rfl⟩:=aP.mp hd;obtain ⟨x,hx,hf⟩:=List.mem_flatMap.mp hf;have h1:=((T.sh x hx).low f hf).pos;have h2:=(T.sh x hx).dn f hf;omega
 have n0:0<RE ws:=by
  have:=(pG (Ds:=(ws.flatMap λx=>x.2).map λf=>f.2.natAbs) ((ws.flatMap λx=>x.2).map λf=>f.2.natAbs).length λd hd=>(allD d hd).1).1;rw [bG] at this;exact this
 have n1:RE ws<=1000^(4*F):=by
  have h1:=DZ (B:=1000) λd hd=>(allD d hd).2;rw [aA,AC lens,lW] at h1;exact aZ h1 (bB yd (cC _ Oo))
 have n2:RE ws^M<=1000^(4*Z):=by
  have h1:=Nat.pow_le_pow_left n1 M;rw [<-Nat.pow_mul,Nat.mul_assoc] at h1;exact aZ h1 (bB yd (dW _ hz))
 have n3:LC^6*RE ws^M<=LC^6*1000^(4*Z):=dW _ n2;have n4:LC^6*1000^(4*Z)<=LC^6*1000^48:=dW _ (bB yd Oo);have n5:LC^6*1000^48<2^600:=Kk;have n6:(2:Nat)^600<2^2000:=Kk;have n7:RE ws<2^400:=bJ (aZ n1 (bB yd (show 4*F<=16 by omega))) Kk;have RG:=R.g n0 (show LC^6*RE ws^M<2^2000 by omega);refine ⟨LC^6*RE ws^M,⟨⟨M,RE ws,by rw [lF,lW];exact RG,rfl,?_,n0,n7⟩,by show 2<=fs.length;omega,by show fs.length<=4;omega,by show 2<=ws.length;omega,by show ws.length<=4;omega,λx hx=>by rw [lF];exact lens x hx,λx hx f hf=>⟨(T.sh x hx).low f hf,(T.sh x hx).pos f hf⟩,λx hx=>?_,Oo⟩,n3⟩
 ·refine ⟨rfl,λx hx f hf=>?_,λx hx=>⟨(T.sh x hx).low,λf hf=>?_,λf hf=>?_⟩⟩
  ·exact (OY ((T.sh x hx).low f hf) ((T.sh x hx).pos f hf) ((T.sh x hx).le f hf)).dvd (KF (memD x hx f hf))
  ·have h1:=(T.sh x hx).pos f hf;have h2:=(T.sh x hx).le f hf;have h3:=(T.sh x hx).dn f hf;have h4:(2:Nat)^10=1024:=yd;omega
  ·have h1:=((T.sh x hx).low f hf).pos;have h3:=(T.sh x hx).dn f hf;have h4:(2:Nat)^10=1024:=yd;omega
 ·have:=(T.sh x hx).one;rw [<-JI x.2 (T.sh x hx).low,this,tP]
abbrev SO:Stmt:=(top 32)
theorem PU:bW ["shares","none","share"] ["shares"] (aT SO):=⟨rfl,rfl,rfl,Kk,rfl,Kk,Kk⟩
abbrev ZU:Stmt:=(top 50)
theorem ZG:bW ["_law_shares_here","_law_none","_law_share"] ["_law_shares_here"] (aT ZU):=⟨rfl,rfl,rfl,Kk,rfl,Kk,Kk⟩
def WB(K:PySem.W.Frag)(H:Hp)(a:Addr)(xs:List Rat):Prop:=∃vs,(H a=some (.lst vs)\/H a=some (.tup vs))/\vs.length=xs.length/\∀(i:Nat) (v:V),vs[i]?=some v->∃x,xs[i]?=some x/\cB H (eQ (cG x)) v
@[irreducible] def iM(K:PySem.W.Frag):Sp:=λvs H Q _=>∃(a:Addr) (xs:List Rat),vs=[.ref a]/\WB K H a xs/\sL xs/\∀v H',aQ H H'->cB H' (eQ (cG (1-pq xs))) v->Q v H'
theorem oY{K:PySem.W.Frag}{H:Hp}{Q:VK}{E:XK}{a:Addr}{xs:List Rat}(h1:WB K H a xs)(h2:sL xs)(k:∀v H',aQ H H'->cB H' (eQ (cG (1-pq xs))) v->Q v H'):iM K [.ref a] H Q E:=by unfold iM;exact ⟨a,xs,rfl,h1,h2,k⟩
@[irreducible] def qO(K:PySem.W.Frag):Sp:=λvs H Q _=>∃(a:Addr) (xs:List Rat),vs=[.ref a]/\WB K H a xs/\sL xs/\∀v H',aQ H H'->cB H' (eQ (cG (1-pq xs))) v->Q v H'
theorem yX{K:PySem.W.Frag}{H:Hp}{Q:VK}{E:XK}{a:Addr}{xs:List Rat}(h1:WB K H a xs)(h2:sL xs)(k:∀v H',aQ H H'->cB H' (eQ (cG (1-pq xs))) v->Q v H'):qO K [.ref a] H Q E:=by unfold qO;exact ⟨a,xs,rfl,h1,h2,k⟩
theorem szq{P:Nat}{x:Rat}(h:Qn P 1 x)(p0:0<P)(p1:P<2^1000):iZ 4000 (cG x):=iA h p0 (Nat.lt_trans p1 (Nat.pow_lt_pow_right yd yd)) Nat.one_le_two_pow
theorem tW{f:Fr}(h:cT f):lw (f.2-f.1) f.2=cG (1-rv f):=by
 refine fS (fM h.pos) (aY _) ?_;rw [sC h.pos,cP,Rat.intCast_sub,Rat.div_def];have e:=pE h.pos;have:=iX h.pos;grind
theorem szd{x:Rat}(h:iZ 4000 (cG x)):(cG x).2.natAbs<2^9000:=Nat.lt_trans h.2 (Nat.pow_lt_pow_right yd yd)
section
theorem aAi(F:jA K "some_of" "some_of" SO f fd)(T:kO K mg c)(FQ34:gB dR P w K mg base 2 "times" ["one","other"] (gQ K))(FQ24:gB dR P w K mg base 3 "less" ["one","other"] (iG K)):eJ P w K mg base dR 4 f fd ["shares"] (iM K):=by
 refine F.oky PU λvs H Q E h=>?_;unfold iM at h;obtain ⟨a,xs,rfl,⟨vs,hat,lv,hv⟩,ok,k⟩:=h;refine ⟨rfl,λcdv A outer s hr=>?_⟩;have len:=ok.len;have hoc:∀H1:Hp,rV K H1 (1,1) (.ref c.ONE):=λH1=>.inr ⟨c.ONE,rfl,T.o_ONE⟩;have szO:iZ 4000 (1,1):=⟨Kk,Kk⟩;refine ⟨_,(aL (bL (i:=1) PU.nd rfl (Or.inl rfl) (jG (v:=.ref c.ONE) rfl T.g_ONE rfl))
  (aL (eP PassesOwn.never rfl (QH (fF (aG 0)) (lM (aG 0))) (cW (i:=2) PU.nd rfl (Or.inl rfl)) (bA (bL (i:=1) PU.nd rfl (Or.inl rfl) (bQ FQ34 (hr.mono yd) (aJ (aG 1) (aJ (bQ FQ24 (hr.mono yd) (aJ (jG (v:=.ref c.ONE) rfl T.g_ONE rfl) (aJ (aG 2) aE))) aE))))))
  (bA (cH (bQ FQ24 (hr.mono yd) (aJ (jG (v:=.ref c.ONE) rfl T.g_ONE rfl) (aJ (aG 1) aE))))))),?_⟩
 have step:∀(i:Nat) (v n:V) (H1:Hp) (Q':VK),vs[i]?=some v->aQ H H1->rV K H1 (cG (pq (xs.take i))) n->(∀q H2,aQ H H2->rV K H2 (cG (pq (xs.take (i+1)))) q->Q' q H2)->iG K [.ref c.ONE,v] H1 (λx1 H2=>gQ K [n,x1] H2 Q' E0) E0:=λi v n H1 Q' hvi s1 rn k'=>by
  obtain ⟨x,hx,rx⟩:=hv i v hvi;obtain ⟨x0,x1,Px,px0,px1,qx⟩:=ok.each x (aM hx);obtain ⟨n0,n1,Pi,pi0,pi1,qi⟩:=ok.part i;refine lS (hoc H1).v (fP.of (rx.same s1)) GM (aY _) szO (szq qx px0 px1) λq2 H2 hq2 e2 s2=>?_;have ef0:lK (1,1) (xM (cG x))=cG (1-x):=by rw [<-jJ,wW]
  rw [ef0] at e2;refine jP (rn.t s2.t).v (fP.new e2) (aY _) (aY _) (szq qi pi0 pi1) (szq (kG qx px0 x0 x1) px0 px1) λq3 H3 hq3 e3 s3=>?_;rw [KJ] at e3;refine k' _ H3 ((s1.trans s2).trans s3) (.inl (dU ?_));rw [eO hx,DX];exact e3
 have fin:∀(n:V) (H1:Hp),aQ H H1->rV K H1 (cG (pq xs)) n->iG K [.ref c.ONE,n] H1 Q E0:=λn H1 s1 rn=>by
  obtain ⟨n0,n1,Pi,pi0,pi1,qi⟩:=ok.part xs.length;rw [bG] at qi;refine lS (hoc H1).v rn.v GM (aY _) szO (szq qi pi0 pi1) λq2 H2 hq2 e2 s2=>?_;have ef0:lK (1,1) (xM (cG (pq xs)))=cG (1-pq xs):=by rw [<-jJ,wW]
  rw [ef0] at e2;exact k _ H2 (s1.trans s2) (dU e2)
 have r0:rV K H (cG (pq (xs.take 0))) (.ref c.ONE):=by
  rw [List.take_zero,show pq []=1 from rfl,jJ];exact hoc H
 rcases hat with ha | ha
 ·refine .inl ⟨_,rfl,a,rfl,⟨_,fE.of ha⟩,?_⟩;refine iJ (xs:=vs) (λi σ H'=>∃(n:V) (o2:Option V),σ=[some (.ref a),some n,o2]/\aQ H H'/\rV K H' (cG (pq (xs.take i))) n) ⟨_,_,rfl,aQ.refl _,r0⟩ (λi σ H' _ p=>?_) ?_ ?_
  ·obtain ⟨n,o2,rfl,s1,_⟩:=p;exact fE.of (s1 _ _ ha)
  ·rintro i v σ H1 hvi ⟨n,o2,rfl,s1,rn⟩;refine ⟨_,rfl,_,rfl,?_⟩;exact step i v n H1 _ hvi s1 rn λq H2 s2 r2=>⟨_,_,rfl,s2,r2⟩
  ·rintro σ H1 ⟨n,o2,rfl,s1,rn⟩;rw [lv,bG] at rn;refine ⟨_,rfl,?_⟩;exact fin n H1 s1 rn
 ·refine .inr ⟨_,rfl,a,rfl,⟨_,gK.of ha⟩,?_⟩;refine pU (xs:=vs) (λi σ H'=>∃(n:V) (o2:Option V),σ=[some (.ref a),some n,o2]/\aQ H H'/\rV K H' (cG (pq (xs.take i))) n) ⟨_,_,rfl,aQ.refl _,r0⟩ (λi σ H' _ p=>?_) ?_ ?_
  ·obtain ⟨n,o2,rfl,s1,_⟩:=p;exact gK.of (s1 _ _ ha)
  ·rintro i v σ H1 hvi ⟨n,o2,rfl,s1,rn⟩;refine ⟨_,rfl,_,rfl,?_⟩;exact step i v n H1 _ hvi s1 rn λq H2 s2 r2=>⟨_,_,rfl,s2,r2⟩
  ·rintro σ H1 ⟨n,o2,rfl,s1,rn⟩;rw [lv,bG] at rn;refine ⟨_,rfl,?_⟩;exact fin n H1 s1 rn
theorem oQ1(F:jA K "_law_any" "_law_any" ZU f fd)(T:kO K mg c)(FQ10:gB dR P w K mg base 2 "_law_mul" ["_law_one","_law_other"] (iN K))(FQ8:gB dR P w K mg base 1 "_law_low" ["_law_n","_law_d"] iO):eJ P w K mg base dR 3 f fd ["_law_shares_here"] (qO K):=by
 refine F.oky ZG λvs H Q E h=>?_;unfold qO at h;obtain ⟨a,xs,rfl,⟨vs,hat,lv,hv⟩,ok,k⟩:=h;refine ⟨rfl,λcdv A outer s hr=>?_⟩;have len:=ok.len;refine ⟨_,(aL (bL (i:=1) ZG.nd rfl (Or.inl rfl) (dZ (aJ aD (aJ aD aE))))
  (aL (eP PassesOwn.never rfl (QH (fF (aG 0)) (lM (aG 0))) (cW (i:=2) ZG.nd rfl (Or.inl rfl)) (bA (bL (i:=1) ZG.nd rfl (Or.inl rfl) (bQ FQ10 (hr.mono yd) (aJ (aG 1) (aJ (bQ FQ8 (hr.mono yd) (aJ (bT qY (aW aR (aG 2) aD (λ_ _=>rfl)) (aW aR (aG 2) aD (λ_ _=>rfl))) (aJ (aW aR (aG 2) aD (λ_ _=>rfl)) aE))) aE))))))
  (bA (cH (bQ FQ8 (hr.mono yd) (aJ (bT qY (aW aR (aG 1) aD (λ_ _=>rfl)) (aW aR (aG 1) aD (λ_ _=>rfl))) (aJ (aW aR (aG 1) aD (λ_ _=>rfl)) aE))))))),?_⟩
 refine qH (by show 2<=64;decide) λq0 H0 hq0 e0 s0=>?_;have r0:cB H0 (eQ (cG (pq (xs.take 0)))) (.ref q0):=by
  rw [List.take_zero,show pq []=1 from rfl,jJ];exact dU (f:=(1,1)) e0
 have fin:∀(n:V) (H1:Hp),aQ H H1->cB H1 (eQ (cG (pq xs))) n->(∃a,n=.ref a/\H1 a=some (.tup [.int (cG (pq xs)).1,.int (cG (pq xs)).2])/\iO [.int ((cG (pq xs)).2-(cG (pq xs)).1),.int (cG (pq xs)).2] H1 Q E0):=λn H1 s1 rn=>by
  obtain ⟨n0,n1,Pi,pi0,pi1,qi⟩:=ok.part xs.length;rw [bG] at qi;obtain ⟨na,rfl,hna⟩:=mE rn;refine ⟨na,rfl,hna,gS (aY _).pos (szd (szq qi pi0 pi1)) λq2 H2 hq2 e2 s2=>?_⟩;rw [tW (aY _),cP] at e2;exact k _ H2 (s1.trans s2) (dU e2)
 have step:∀(i:Nat) (v n:V) (H1:Hp) (Q':VK),vs[i]?=some v->aQ H H1->cB H1 (eQ (cG (pq (xs.take i)))) n->(∀q H2,aQ H H2->cB H2 (eQ (cG (pq (xs.take (i+1))))) q->Q' q H2)->∃(a:Addr) (x:Rat),v=.ref a/\H1 a=some (.tup [.int (cG x).1,.int (cG x).2])/\iO [.int ((cG x).2-(cG x).1),.int (cG x).2] H1 (λx1 H2=>iN K [n,x1] H2 Q' E0) E0:=λi v n H1 Q' hvi s1 rn k'=>by
  obtain ⟨x,hx,rx⟩:=hv i v hvi;obtain ⟨x0,x1,Px,px0,px1,qx⟩:=ok.each x (aM hx);obtain ⟨n0,n1,Pi,pi0,pi1,qi⟩:=ok.part i;obtain ⟨va,rfl,hva⟩:=mE (rx.same s1);refine ⟨va,x,rfl,hva,gS (aY _).pos (szd (szq qx px0 px1)) λq2 H2 hq2 e2 s2=>?_⟩;rw [tW (aY _),cP] at e2;refine kE (fP.of (rn.same s2)) (fP.new e2) (aY _) (aY _) (szq qi pi0 pi1) (szq (kG qx px0 x0 x1) px0 px1) λq3 H3 hq3 e3 s3=>?_;rw [KJ] at e3;refine k' _ H3 ((s1.trans s2).trans s3) (dU ?_);rw [eO hx,DX];exact e3
 rcases hat with ha | ha
 ·refine .inl ⟨_,rfl,a,rfl,⟨_,fE.of (s0 _ _ ha)⟩,?_⟩;refine iJ (xs:=vs) (λi σ H'=>∃(n:V) (o2:Option V),σ=[some (.ref a),some n,o2]/\aQ H H'/\cB H' (eQ (cG (pq (xs.take i)))) n) ⟨_,_,rfl,s0,r0⟩ (λi σ H' _ p=>?_) ?_ ?_
  ·obtain ⟨n,o2,rfl,s1,_⟩:=p;exact fE.of (s1 _ _ ha)
  ·rintro i v σ H1 hvi ⟨n,o2,rfl,s1,rn⟩;obtain ⟨va,x,rfl,hva,hstep⟩:=step i v n H1 _ hvi s1 rn λq H2 s2 r2=>(⟨q,some v,rfl,s2,r2⟩:∃(n:V) (o2:Option V),[some (.ref a),some q,some v]=[some (.ref a),some n,o2]/\aQ H H2/\cB H2 (eQ (cG (pq (xs.take (i+1))))) n);refine ⟨_,rfl,_,rfl,?_⟩;refine fZ hva rfl ?_;refine ⟨_,rfl,?_⟩;refine fZ hva rfl ?_;refine ⟨_,_,rfl,rfl,?_⟩;refine ⟨_,rfl,?_⟩;refine fZ hva rfl ?_;exact hstep
  ·rintro σ H1 ⟨n,o2,rfl,s1,rn⟩;rw [lv,bG] at rn;obtain ⟨na,rfl,hna,hf⟩:=fin n H1 s1 rn;refine ⟨_,rfl,?_⟩;refine fZ hna rfl ?_;refine ⟨_,rfl,?_⟩;refine fZ hna rfl ?_;refine ⟨_,_,rfl,rfl,?_⟩;refine ⟨_,rfl,?_⟩;refine fZ hna rfl ?_;exact hf
 ·refine .inr ⟨_,rfl,a,rfl,⟨_,gK.of (s0 _ _ ha)⟩,?_⟩;refine pU (xs:=vs) (λi σ H'=>∃(n:V) (o2:Option V),σ=[some (.ref a),some n,o2]/\aQ H H'/\cB H' (eQ (cG (pq (xs.take i)))) n) ⟨_,_,rfl,s0,r0⟩ (λi σ H' _ p=>?_) ?_ ?_
  ·obtain ⟨n,o2,rfl,s1,_⟩:=p;exact gK.of (s1 _ _ ha)
  ·rintro i v σ H1 hvi ⟨n,o2,rfl,s1,rn⟩;obtain ⟨va,x,rfl,hva,hstep⟩:=step i v n H1 _ hvi s1 rn λq H2 s2 r2=>(⟨q,some v,rfl,s2,r2⟩:∃(n:V) (o2:Option V),[some (.ref a),some q,some v]=[some (.ref a),some n,o2]/\aQ H H2/\cB H2 (eQ (cG (pq (xs.take (i+1))))) n);refine ⟨_,rfl,_,rfl,?_⟩;refine fZ hva rfl ?_;refine ⟨_,rfl,?_⟩;refine fZ hva rfl ?_;refine ⟨_,_,rfl,rfl,?_⟩;refine ⟨_,rfl,?_⟩;refine fZ hva rfl ?_;exact hstep
  ·rintro σ H1 ⟨n,o2,rfl,s1,rn⟩;rw [lv,bG] at rn;obtain ⟨na,rfl,hna,hf⟩:=fin n H1 s1 rn;refine ⟨_,rfl,?_⟩;refine fZ hna rfl ?_;refine ⟨_,rfl,?_⟩;refine fZ hna rfl ?_;refine ⟨_,_,rfl,rfl,?_⟩;refine ⟨_,rfl,?_⟩;refine fZ hna rfl ?_;exact hf
end
abbrev SX:Stmt:=(top 6)
theorem aA3:bW ["one","other"] ["one","other"] (aT SX):=⟨rfl,rfl,rfl,Kk,rfl,Kk,Kk⟩
abbrev SW:Stmt:=(top 8)
theorem PV:bW ["some","place","k"] ["some"] (aT SW):=⟨rfl,rfl,rfl,Kk,rfl,Kk,Kk⟩
abbrev MZ:Stmt:=(top 31)
theorem aAV:bW ["hall","choice"] ["hall","choice"] (aT MZ):=⟨rfl,rfl,rfl,Kk,rfl,Kk,Kk⟩
abbrev MY:Stmt:=(top 33)
theorem YL:bW ["hall","choice"] ["hall"] (aT MY):=⟨rfl,rfl,rfl,Kk,rfl,Kk,Kk⟩
abbrev ND:Stmt:=(top 34)
theorem aA5:bW ["shares"] ["shares"] (aT ND):=⟨rfl,rfl,rfl,Kk,rfl,Kk,Kk⟩
abbrev SY:Stmt:=(top 35)
theorem aA4:bW ["bound","shares"] ["bound","shares"] (aT SY):=⟨rfl,rfl,rfl,Kk,rfl,Kk,Kk⟩
section
theorem aAu(F:jA K "is_less" "is_less" SX f fd)(T:kO K mg c):eJ P w K mg base dR 1 f fd ["one","other"] (lT K):=by
 refine F.oky aA3 λvs H Q E h=>?_;unfold lT at h;obtain ⟨x,y,⟨a,b⟩,⟨c,d⟩,rfl,h1,h2,⟨za,zb⟩,⟨zc,zd⟩,q⟩:=h;refine ⟨rfl,λcdv A outer s hr=>?_⟩;obtain ⟨p1,rfl,e1⟩:=h1;obtain ⟨p2,rfl,e2⟩:=h2;refine ⟨_,(bA (cH (lP QV (bT dC (aW aR (aG 0) aD (λ_ _=>rfl)) (aW aR (aG 1) aD (λ_ _=>rfl))) (bT dC (aW aR (aG 1) aD (λ_ _=>rfl)) (aW aR (aG 0) aD (λ_ _=>rfl))) (nomark _)))),?_⟩;refine ⟨_,rfl,?_⟩;refine nM e1 rfl ?_;refine ⟨_,rfl,?_⟩;refine nM e2 rfl ?_;refine ⟨_,_,rfl,rfl,lH za zd,?_⟩;refine ⟨_,rfl,?_⟩;refine nM e2 rfl ?_;refine ⟨_,rfl,?_⟩;refine nM e1 rfl ?_;exact ⟨_,_,rfl,rfl,lH zc zb,_,_,rfl,rfl,q⟩
end
@[irreducible] def lA:Sp:=λvs H Q _=>∃a fs,vs=[.ref a]/\(∃xs,H a=some (.lst xs)/\bF H (fs.map eQ) xs)/\(∀f∈fs,cT f/\iZ 4000 f)/\0<fs.length/\fs.length<=64/\∀p y,hZ fs fs.length p y->Q (.int (p:Nat)) H
theorem yV{H:Hp}{Q:VK}{E:XK}{a:Addr}{xs:List V}{fs:List Fr}(h:H a=some (.lst xs))(r:bF H (fs.map eQ) xs)(ok:∀f∈fs,cT f/\iZ 4000 f)(h0:0<fs.length)(h1:fs.length<=64)(q:∀p y,hZ fs fs.length p y->Q (.int (p:Nat)) H):lA [.ref a] H Q E:=by unfold lA;exact ⟨a,fs,rfl,⟨xs,h,r⟩,ok,h0,h1,q⟩
section
theorem aAs(F:jA K "least_place" "least_place" SW f fd)(T:kO K mg c)
  (FQ21:gB dR P w K mg base 1 "is_less" ["one","other"] (lT K)):eJ P w K mg base dR 2 f fd ["some"] lA:=by
 refine F.oky PV λvs H Q E h=>?_;unfold lA at h;obtain ⟨a,fs,rfl,⟨vs,ha,hv⟩,ok,h0,hl,q⟩:=h;refine ⟨rfl,λcdv A outer s hr=>?_⟩;have hlen:=eF hv;refine ⟨_,(aL (bL (i:=1) PV.nd rfl (Or.inl rfl) aD)
  (aL (eP PassesOwn.never rfl (FI rfl T.b_range (aJ aD (aJ (eU gI (by rfl) T.b_len Kk (aJ (aG 0) aE)) aE))) (cW (i:=2) PV.nd rfl (Or.inl rfl)) (bA (mI (wK (bQ FQ21 (hr.mono yd) (aJ (aW aR (aG 0) (aG 2) (λ_ _=>rfl)) (aJ (aW aR (aG 0) (aG 1) (λ_ _=>rfl)) aE)))) (bA (bL (i:=1) PV.nd rfl (Or.inl rfl) (aG 2))) gX)))
  (bA (cH (aG 1))))),?_⟩
 refine ⟨_,rfl,?_⟩;refine TK ha ?_;refine ⟨_,_,rfl,⟨Oo,Oo,Oo,Oo⟩,?_⟩;have e0:∃y,fs[0]?=some y:=⟨_,aB h0⟩;obtain ⟨y0,e0⟩:=e0;refine gM (λi σ H'=>∃(p:Nat) (y:Fr) (o2:Option V),σ=[some (.ref a),some (.int (p:Int)),o2]/\H'=H/\hZ fs (i+1) p y) ⟨0,y0,_,rfl,rfl,hZ.one e0⟩ ?_ ?_
 ·rintro i σ H1 hi ⟨p,y,o2,rfl,rfl,L⟩;have hi1:i+1<fs.length:=Oo;have ez:fs[i+1]?=some fs[i+1]:=aB hi1;generalize fs[i+1]=z at ez;obtain ⟨vz,evz,rz⟩:=iD hv ez;obtain ⟨vy,evy,ry⟩:=iD hv L.at_;have ei:(1:Int)+(i:Int)=((i+1:Nat):Int):=Oo;rw [ei];refine ⟨_,rfl,_,rfl,?_⟩;refine kC ha (cK evz) ?_;refine ⟨_,rfl,_,rfl,?_⟩;refine kC ha (cK evy) ?_;refine vG (fP.of rz) (fP.of ry) (ok _ (aM ez)).2 (ok _ (aM L.at_)).2 ?_;refine ⟨_,rfl,?_⟩;refine tZ (λe=>?_) (λe=>?_)
  ·refine ⟨_,rfl,?_⟩;exact ⟨i+1,z,_,rfl,rfl,L.next (λf hf=>(ok f hf).1) ez e⟩
  ·exact ⟨p,y,_,rfl,rfl,L.stay ez e⟩
 ·rintro σ H1 ⟨p,y,o2,rfl,rfl,L⟩;refine ⟨_,rfl,?_⟩;have:((vs.length:Int)-1).toNat+1=fs.length:=Oo;rw [this] at L;exact q p y L
end
theorem FV{K:PySem.W.Frag}{H:Hp}{Q:VK}{E:XK}{x y:V}{p q:Rat}(h1:fP K H (cG p) x)(h2:fP K H (cG q) y)(z1:iZ 4000 (cG p))(z2:iZ 4000 (cG q))(k:∀b:Bool,(b=true↔p<q)->Q (.bl b) H):lT K [x,y] H Q E :=
 vG h1 h2 z1 z2 (k _ (by
  rw [decide_eq_true_iff];have:=JL (f:=cG p) (g:=cG q) (aY _).pos (aY _).pos
  rwa [cP,cP] at this))
@[irreducible] def iC(K:PySem.W.Frag):Sp:=λvs H Q _=>∃(x:V) (b:Addr) (hs:List HE) (ks:List Nat),vs=[x,.ref b]/\cB H (CA hs) x/\H b=some (.tup (ks.map rL))/\eT hs/\mH hs ks/\∀v H',aQ H H'->cB H' (eQ (cG (1-pq (wrs hs ks)))) v->Q v H'
theorem nV{K:PySem.W.Frag}{H:Hp}{Q:VK}{E:XK}{x:V}{b:Addr}{hs:List HE}{ks:List Nat}(h1:cB H (CA hs) x)(h2:H b=some (.tup (ks.map rL)))(h3:eT hs)(h4:mH hs ks)(k:∀v H',aQ H H'->cB H' (eQ (cG (1-pq (wrs hs ks)))) v->Q v H'):iC K [x,.ref b] H Q E:=by unfold iC;exact ⟨x,b,hs,ks,rfl,h1,h2,h3,h4,k⟩
def wrl(h:HE):List Rat:=(List.range h.ws.length).map λj=>1-oM h j
theorem wN{h:HE}{j:Nat}(hj:j<h.ws.length):(wrl h)[j]?=some (1-oM h j):=by unfold wrl;rw [aI,cR hj];rfl
theorem RS(h:HE):(List.range h.ws.length).map (WC h.fs.length h.ws.length h.es (QI h.ws))=(wrl h).map cG:=by unfold wrl;rw [List.map_map];rfl
@[irreducible] def lB(K:PySem.W.Frag):Sp:=λvs H Q _=>∃(x:V) (xs:List Rat) (D:Nat),vs=[x]/\cB H (xE (xs.map cG)) x/\(∀x∈xs,0<=x/\x<=1/\Qn D 1 x)/\0<D/\D<2^1000/\0<xs.length/\xs.length<=64/\∀(p:Nat) (y:Rat) H',aQ H H'->xs[p]?=some y->(∀z∈xs,z<=y)->Q (.int (p:Nat)) H'
theorem yW{K:PySem.W.Frag}{H:Hp}{Q:VK}{E:XK}{x:V}{xs:List Rat}{D:Nat}(h1:cB H (xE (xs.map cG)) x)(h2:∀x∈xs,0<=x/\x<=1/\Qn D 1 x)(h3:0<D)(h4:D<2^1000)(h5:0<xs.length)(h6:xs.length<=64)(k:∀(p:Nat) (y:Rat) H',aQ H H'->xs[p]?=some y->(∀z∈xs,z<=y)->Q (.int (p:Nat)) H'):lB K [x] H Q E:=by unfold lB;exact ⟨x,xs,D,rfl,h1,h2,h3,h4,h5,h6,k⟩
def YM(hs:List HE)(ms:List Nat):Prop:=∀(i:Nat) (h:HE) (m:Nat),hs[i]?=some h->ms[i]?=some m->∀j,j<h.ws.length->oM h m<=oM h j
@[irreducible] def mT(K:PySem.W.Frag):Sp:=λvs H Q _=>∃(x:V) (hs:List HE),vs=[x]/\cB H (CA hs) x/\eT hs/\∀v y b ms H',aQ H H'->H' v=some (.tup [y,.ref b])->cB H' (eQ (cG (1-pq (wrs hs ms)))) y->H' b=some (.tup (ms.map rL))->mH hs ms->YM hs ms->Q (.ref v) H'
theorem BK{K:PySem.W.Frag}{H:Hp}{Q:VK}{E:XK}{x:V}{hs:List HE}(h1:cB H (CA hs) x)(h2:eT hs)(k:∀v y b ms H',aQ H H'->H' v=some (.tup [y,.ref b])->cB H' (eQ (cG (1-pq (wrs hs ms)))) y->H' b=some (.tup (ms.map rL))->mH hs ms->YM hs ms->Q (.ref v) H'):mT K [x] H Q E:=by unfold mT;exact ⟨x,hs,rfl,h1,h2,k⟩
@[irreducible] def nA(K:PySem.W.Frag):Sp:=λvs H Q _=>∃(x:V) (a:Addr) (q:Rat) (xs:List Rat),vs=[x,.ref a]/\fP K H (cG q) x/\iZ 4000 (cG q)/\WB K H a xs/\sL xs/\∀(b:Bool) H',aQ H H'->(b=true↔1-pq xs<=q)->Q (.bl b) H'
theorem tL{K:PySem.W.Frag}{H:Hp}{Q:VK}{E:XK}{x:V}{a:Addr}{q:Rat}{xs:List Rat}(h1:fP K H (cG q) x)(h2:iZ 4000 (cG q))(h3:WB K H a xs)(h4:sL xs)(k:∀(b:Bool) H',aQ H H'->(b=true↔1-pq xs<=q)->Q (.bl b) H'):nA K [x,.ref a] H Q E:=by unfold nA;exact ⟨x,a,q,xs,rfl,h1,h2,h3,h4,k⟩
theorem zY{H:Hp}{h:HE}{v:V}(r:cB H (hD h) v):∃a t u,v=.ref a/\H a=some (.tup [t,u])/\cB H (uQ h.fs h.ws) t/\cB H (uT h.es) u:=by
 obtain ⟨a,us,rfl,ha,rus⟩:=fX r;obtain ⟨t,u,rfl,rt,ru⟩:=kB rus;exact ⟨a,t,u,rfl,ha,rt,ru⟩
theorem eT.at_{hs:List HE}(ok:eT hs){i:Nat}{h:HE}(e:hs[i]?=some h):∃D,uM D h:=by
 obtain ⟨Ds,h1,_⟩:=ok.ex;obtain ⟨D,_,r⟩:=(oF h1).1 h (aM e);exact ⟨D,r⟩
theorem uM.dz{D:Nat}{h:HE}(ok:uM D h):D<2^1000:=Nat.lt_trans ok.d1 (Nat.pow_lt_pow_right yd yd)
section
theorem CU{H:Hp}{Q:VK}{E:XK}{t u:V}{h:HE}{D:Nat}(ok:uM D h)(rt:cB H (uQ h.fs h.ws) t)(ru:cB H (uT h.es) u)(k:∀v H',aQ H H'->cB H' (xE ((wrl h).map cG)) v->Q v H'):jO K [t,u] H Q E:=by
 obtain ⟨M,Ns,R,rfl,TG,n0,n1⟩:=ok.ex;have f2:=ok.f2;refine BJ rt (TH ru) R Oo ok.f4 ok.w4 TG λv H' s' r'=>k v H' s' ?_;rw [<-RS];exact r'
theorem aAg(F:jA K "together" "together" MZ f fd)(T:kO K mg c)(FQ33:gB dR P w K mg base 4 "some_of" ["shares"] (iM K))(FQ41:gB dR P w K mg base 5 "wrong" ["trial","rule"] (jO K)):eJ P w K mg base dR 6 f fd ["hall","choice"] (iC K):=by
 refine F.oky aAV λvs H Q E h=>?_;unfold iC at h;obtain ⟨x,b,hs,ks,rfl,rx,hb,ok,ch,k⟩:=h;refine ⟨rfl,λcdv A outer s hr=>?_⟩;obtain ⟨a,xs,rfl,ha,rxs⟩:=fX rx;have lx:xs.length=hs.length:=eF rxs;have lk:ks.length=hs.length:=ch.length.symm;have l3:=ok.len;refine ⟨_,(bA (cH (bQ FQ33 (hr.mono yd) (aJ (FK (fL.of (psc:=aT MZ) (N:=["hall","choice"]) (xs:=["test","way"]) (N':=["test","way"]) (js:=[]) Kk rfl rfl rfl) (BC true true rfl T.b_zip (aJ (aG 0) (aJ (aG 1) aE))) (λ_ _ _ _=>eI) (λ_ _ _ _=>(aW (eE K) (bQ FQ41 (hr.mono yd) (aJ (aW (eE K) (aG 0) aD (λ_ _=>rfl)) (aJ (aW (eE K) (aG 0) aD (λ_ _=>rfl)) aE))) (aG 1) (λ_ _=>rfl)))) aE)))),?_⟩;refine ⟨_,rfl,_,rfl,?_⟩;refine ⟨a,b,xs,ks.map rL,rfl,ha,hb,?_⟩;refine HC (b1:=true) (b2:=true) (xs:=xs) (ys:=ks.map rL) (λj y H'=>∃x,(wrs hs ks)[j]?=some x/\cB H' (eQ (cG x)) y) (λj y H1 H2 s ⟨x,h1,h2⟩=>⟨x,h1,h2.flat s (cF _)⟩) Oo ha hb (by rw [aA];omega) (λj v1 v2 H' Q' hv1 hv2 s' k'=>?_) (λD zs H1 hD e1 s1 hz hr1=>?_)
 ·obtain ⟨h,hh,rh⟩:=dQ rxs hv1;rw [aI] at hv2;obtain ⟨kk,hkk,rfl⟩:=fN.mp hv2;obtain ⟨hw1,hw2⟩:=wM ch hh hkk;obtain ⟨Dh,okh⟩:=ok.at_ hh;obtain ⟨ta,tt,tu,rfl,hta,rtt,rtu⟩:=zY (rh.same s');refine ⟨_,rfl,?_⟩;refine fZ hta rfl ?_;refine ⟨_,rfl,?_⟩;refine fZ hta rfl ?_;refine CU okh rtt rtu λv2 H2 s2 r2=>?_;obtain ⟨wa,wx,rfl,hwa,rwx⟩:=qQ r2;obtain ⟨y,hy,ry⟩:=iD rwx (show ((wrl h).map cG)[kk]?=some (cG (1-oM h kk)) by rw [aI,wN hw2];rfl);refine ⟨_,rfl,?_⟩;refine fZ hwa (cK hy) ?_;exact k' _ H2 s2 ⟨_,hw1,ry⟩
 ·refine oY (K:=K) (xs:=wrs hs ks) ⟨zs,.inl e1,by rw [hz,sN ch];exact lx,λi v hv=>hr1 i v hv⟩ (ok.pr ch) λv2 H2 s2 r2=>?_;exact k v2 H2 (s1.trans s2) r2
theorem aAw(F:jA K "greatest_place" "greatest_place" ND f fd)(T:kO K mg c)(FQ23:gB dR P w K mg base 2 "least_place" ["some"] lA)(FQ24:gB dR P w K mg base 3 "less" ["one","other"] (iG K)):eJ P w K mg base dR 4 f fd ["shares"] (lB K):=by
 refine F.oky aA5 λvs H Q E h=>?_;unfold lB at h;obtain ⟨x,xs,D,rfl,rx,hx,d0,d1,l0,l64,k⟩:=h;refine ⟨rfl,λcdv A outer s hr=>?_⟩;obtain ⟨a,ys,rfl,ha,rys⟩:=qQ rx;have ly:ys.length=xs.length:=by rw [eF rys,aA]
 have hno:∀H1:Hp,rV K H1 (0,1) (.ref c.NOUGHT):=λH1=>.inr ⟨c.NOUGHT,rfl,T.o_NOUGHT⟩;have szZ:iZ 4000 (0,1):=⟨Kk,Kk⟩;refine ⟨_,(bA (cH (bQ FQ23 (hr.mono yd) (aJ (fG (dM.of (psc:=aT ND) (N:=["shares"]) (N':=["share"]) (js:=[]) Kk rfl rfl rfl) (lM (aG 0)) (λ_ _ _ _=>eI) (λ_ _ _ _=>(bQ FQ24 (hr.mono yd) (aJ (jG (v:=.ref c.NOUGHT) rfl T.g_NOUGHT rfl) (aJ (aG 0) aE))))) aE)))),?_⟩;refine ⟨_,rfl,a,rfl,⟨_,gK.of ha⟩,?_⟩;refine nO (λj y H'=>∃x,xs[j]?=some x/\cB H' (eQ (cG (0-x))) y) (λj y Ha Hb s ⟨x,h1,h2⟩=>⟨x,h1,h2.flat s (cF _)⟩) Oo ha (λj y H' Q' hy s' k'=>?_) (λL zs H1 hL e1 s1 hz hr1=>?_)
 ·obtain ⟨g,hg,rg⟩:=dQ rys hy;rw [aI] at hg;obtain ⟨x,hxj,rfl⟩:=fN.mp hg;obtain ⟨x0,x1,qx⟩:=hx x (aM hxj);refine ⟨_,rfl,?_⟩;refine lS (hno H').v (fP.of (rg.same s')) KN (aY _) szZ (szq qx d0 d1) λq2 H2 hq2 e2 s2=>?_;rw [<-jY,wW] at e2;exact k' _ H2 s2 ⟨x,hxj,dU e2⟩
 ·have rzs:bF H1 ((xs.map λx=>cG (0-x)).map eQ) zs:=bF.ofIdx (by rw [hz,ly,aA,aA]) λj y hj=>by
   obtain ⟨x,h1,h2⟩:=hr1 j y hj;exact ⟨_,by rw [aI,aI,h1];rfl,h2⟩
  refine yV e1 rzs (λf hf=>?_) (by rw [aA];exact l0) (by rw [aA];exact l64) λp y L=>?_
  ·obtain ⟨x,hxm,rfl⟩:=aP.mp hf;obtain ⟨x0,x1,qx⟩:=hx x hxm;refine ⟨aY _,szq (P:=D) ?_ d0 d1⟩;have:=qx.neg
   rwa [show -x=0-x by grind] at this
  ·have hy:=L.at_;rw [aI] at hy;obtain ⟨x,hxp,rfl⟩:=fN.mp hy;refine k p x H1 s1 hxp λz hz=>?_;obtain ⟨j,hj⟩:=cI.mp hz;have hjl:j<(xs.map λx=>cG (0-x)).length:=by rw [aA];exact (aH.mp hj).1
   have:=L.no j (cG (0-z)) hjl (by rw [aI,hj];rfl);refine bU λq=>this ?_;refine (JL (aY _).pos (aY _).pos).mpr ?_;rw [cP,cP];grind
theorem aAb(F:jA K "worst" "worst" MY f fd)(T:kO K mg c)(FQ19:gB dR P w K mg base 4 "greatest_place" ["shares"] (lB K))(FQ41:gB dR P w K mg base 5 "wrong" ["trial","rule"] (jO K))(FQ35:gB dR P w K mg base 6 "together" ["hall","choice"] (iC K)):eJ P w K mg base dR 7 f fd ["hall"] (mT K):=by
 refine F.oky YL λvs H Q E h=>?_;unfold mT at h;obtain ⟨x,hs,rfl,rx,ok,k⟩:=h;refine ⟨rfl,λcdv A outer s hr=>?_⟩;have rx0:=rx;obtain ⟨a,xs,rfl,ha,rxs⟩:=fX rx;have lx:xs.length=hs.length:=eF rxs;have l3:=ok.len;refine ⟨_,(aL (bL (i:=1) YL.nd rfl (Or.inl rfl) (jF dL (by rfl) T.b_tuple Kk (aJ (fG (dM.of (psc:=aT MY) (N:=["hall","choice"]) (N':=["test"]) (js:=[]) Kk rfl rfl rfl) (lM (aG 0)) (λ_ _ _ _=>eI) (λ_ _ _ _=>(bQ FQ19 (hr.mono yd) (aJ (bQ FQ41 (hr.mono yd) (aJ (aW (eE K) (aG 0) aD (λ_ _=>rfl)) (aJ (aW (eE K) (aG 0) aD (λ_ _=>rfl)) aE))) aE)))) aE)))
  (bA (cH (dZ (aJ (bQ FQ35 (hr.mono yd) (aJ (aG 0) (aJ (aG 1) aE))) (aJ (aG 1) aE)))))),?_⟩
 refine ⟨_,rfl,a,rfl,⟨_,gK.of ha⟩,?_⟩;refine nO (λj y _=>∃(h:HE) (m:Nat),hs[j]?=some h/\y=.int (m:Nat)/\m<h.ws.length/\∀j,j<h.ws.length->oM h m<=oM h j) (λ_ _ _ _ _ h=>h) Oo ha (λj y H' Q' hy s' k'=>?_) (λL zs H1 hL e1 s1 hz hr1=>?_)
 ·obtain ⟨h,hh,rh⟩:=dQ rxs hy;obtain ⟨Dh,okh⟩:=ok.at_ hh;obtain ⟨ta,tt,tu,rfl,hta,rtt,rtu⟩:=zY (rh.same s');have w2:=okh.w2;have w4:=okh.w4;refine ⟨_,rfl,?_⟩;refine fZ hta rfl ?_;refine ⟨_,rfl,?_⟩;refine fZ hta rfl ?_;refine CU okh rtt rtu λv2 H2 s2 r2=>?_;have lw:(wrl h).length=h.ws.length:=by unfold wrl;rw [aA,cV]
  have d0:=(okh.sd (j:=0) Oo).2.2.2;refine yW r2 (λx hx=>?_) d0 okh.dz Oo Oo λp y H3 s3 hp hmax=>?_
  ·obtain ⟨i,hi,rfl⟩:=aP.mp hx;obtain ⟨h0,h1,hq,_⟩:=okh.sd (cU.mp hi);exact ⟨by grind,by grind,kG hq d0 h0 h1⟩
  ·have hpl:p<h.ws.length:=by rw [<-lw];exact (aH.mp hp).1
   rw [wN hpl] at hp;cases hp;refine k' _ H3 (s2.trans s3) ⟨h,p,hh,rfl,hpl,λj hj=>?_⟩;have:=hmax _ (aM (wN hj));grind
 ·obtain ⟨ms,hms,ch,wst⟩:∃ms:List Nat,zs=ms.map rL/\mH hs ms/\YM hs ms:=by
   have all:∀(hs:List HE) (zs:List V),zs.length=hs.length->(∀(j:Nat) (y:V),zs[j]?=some y->∃(h:HE) (m:Nat),hs[j]?=some h/\y=.int (m:Nat)/\m<h.ws.length/\∀j,j<h.ws.length->oM h m<=oM h j)->∃ms:List Nat,zs=ms.map rL/\mH hs ms/\YM hs ms:=λhs=>by
    induction hs with
    | nil =>
     intro zs hl _;rw [List.length_eq_zero_iff.mp hl];exact ⟨[],rfl,.nil,λi h m e=>by simp at e⟩
    | cons h hs ih =>
     intro zs hl hz;cases zs with
     | nil=>cases hl
     | cons z zs =>
      obtain ⟨h',m,e1,rfl,h1,h2⟩:=hz 0 z rfl;cases (show h=h' by simpa using e1);obtain ⟨ms,rfl,c1,c2⟩:=ih zs (by simpa using hl) λj y hy=>by
       obtain ⟨h',m,e1,e2,e3⟩:=hz (j+1) y (by simpa using hy);exact ⟨h',m,by simpa using e1,e2,e3⟩
      refine ⟨m::ms,rfl,.cons h1 c1,λi h'' m' e1 e2=>?_⟩;cases i with
      | zero =>
       cases (show h=h'' by simpa using e1);cases (show m=m' by simpa using e2);exact h2
      | succ i=>exact c2 i h'' m' (by simpa using e1) (by simpa using e2)
   exact all hs zs Oo hr1
  subst hms;refine ⟨L,_,rfl,.inl ⟨fE.of e1,λl hl=>?_⟩⟩;have sl:=aQ.upd (o:=.tup (ms.map rL)) hl;have el:(upd H1 l (.tup (ms.map rL))) l=some (.tup (ms.map rL)):=bK;generalize upd H1 l (.tup (ms.map rL))=H2 at sl el ⊢;refine ⟨_,rfl,_,rfl,?_⟩;refine nV (rx0.same (s1.trans sl)) el ok ch λv3 H3 s3 r3=>?_;refine ⟨_,rfl,?_⟩;refine qH (by show 2<=64;decide) λq4 H4 hq4 e4 s4=>?_;exact k q4 v3 l ms H4 (((s1.trans sl).trans s3).trans s4) e4 (r3.same s4) (s4 _ _ (s3 _ _ el)) ch wst
theorem aAv(F:jA K "is_dealt" "is_dealt" SY f fd)(T:kO K mg c)(FQ21:gB dR P w K mg base 1 "is_less" ["one","other"] (lT K))(FQ33:gB dR P w K mg base 4 "some_of" ["shares"] (iM K)):eJ P w K mg base dR 5 f fd ["bound","shares"] (nA K):=by
 refine F.oky aA4 λvs H Q E h=>?_;unfold nA at h;obtain ⟨x,a,q,xs,rfl,hx,zx,fq,ok,k⟩:=h;refine ⟨rfl,λcdv A outer s hr=>?_⟩;refine ⟨_,(bA (cH (IM (bQ FQ21 (hr.mono yd) (aJ (aG 0) (aJ (bQ FQ33 (hr.mono yd) (aJ (aG 1) aE)) aE)))))),?_⟩;refine ⟨_,rfl,_,rfl,?_⟩;refine oY fq ok λv1 H1 s1 r1=>?_;obtain ⟨n0,n1,Pi,pi0,pi1,qi⟩:=ok.part xs.length;rw [bG] at qi n0 n1;refine FV (fP.same s1 hx) (fP.of r1) zx (szq (kG qi pi0 n0 n1) pi0 pi1) λb hb=>?_;refine ⟨_,rfl,?_⟩;refine k (!b) H1 s1 ?_;cases b
 ·simp only [Bool.not_false,true_iff];have:¬q<1-pq xs:=λz=>by have:=hb.mpr z;cases this
  exact Rat.not_lt.mp this
 ·simp only [Bool.not_true,Bool.false_eq_true,false_iff];have:=hb.mp rfl;exact Rat.not_le.mpr this
end
abbrev ZR:Stmt:=(top 48)
theorem VO:bW ["_law_feed_here","_law_room","_law_many","_law_hall_here","_law_k","_law_trial_here"] ["_law_feed_here"] (aT ZR):=⟨rfl,rfl,rfl,Kk,rfl,Kk,Kk⟩
def xH(n:Nat):Nat:=if n=1 then 40 else if n=2 then 20 else 9
@[irreducible] def mZ:Sp:=λvs H Q _=>∃(p L:Addr),vs=[.ref p]/\bY H p L/\∀v hs H',bY H' p L->aN p H H'->cB H' (CA hs) v->eT hs->Q v H'
theorem tK{H:Hp}{Q:VK}{E:XK}{p L:Addr}(F:bY H p L)(k:∀v hs H',bY H' p L->aN p H H'->cB H' (CA hs) v->eT hs->Q v H'):mZ [.ref p] H Q E:=by unfold mZ;exact ⟨p,L,rfl,F,k⟩
def YT(n:Nat):Nat:=if n=1 then 12 else if n=2 then 9 else 4
structure HDr(n:Nat)(h:HE):Prop where
 ex:∃t o F W M,yD t o F W h.fs h.ws/\RN F W M h.es/\F*M<=YT n
theorem HZ{n F M:Nat}(hn:n=1\/n=2\/n=3)(f2:2<=F)(f4:F<=4)(m5:M<=5)(h:(rise F M).length<=xH n):F*M<=YT n:=by
 rcases hn with rfl | rfl | rfl
 ·exact aAO F f4 M m5 ⟨f2,h⟩
 ·exact aAP F f4 M m5 ⟨f2,h⟩
 ·exact fm9 F f4 M m5 ⟨f2,h⟩
theorem UK{B:Nat}{Ds:List Nat}{n:Nat}(h:∀d∈Ds,d<=B)(hl:Ds.length=n):pN Ds<=B^n:=hl ▸ DZ h
theorem OW{n:Nat}{hs:List HE}(hn:n=1\/n=2\/n=3)(hl:hs.length=n)(h:∀x∈hs,HDr n x):eT hs:=by
 have z12:YT n<=12:=by rcases hn with rfl | rfl | rfl <;> decide
 have all:∀l:List HE,(∀x∈l,HDr n x)->∃Ds:List Nat,Paired (λh D=>uM D h) l Ds/\∀d∈Ds,d<=LC^6*1000^(4*YT n):=λl=>by
  induction l with
  | nil=>exact λ_=>⟨[],.nil,λd hd=>by cases hd⟩
  | cons x l ih =>
   intro hx;obtain ⟨t,o,F,W,M,T,R,hz⟩:=(hx x (aO ..)).ex;obtain ⟨D,h1,h2⟩:=YD T R hz z12;obtain ⟨Ds,g1,g2⟩:=ih λy hy=>hx y (aK _ hy);refine ⟨D::Ds,.cons h1 g1,λd hd=>?_⟩;rcases bE.mp hd with rfl | hd
   ·exact h2
   ·exact g2 d hd
 obtain ⟨Ds,g1,g2⟩:=all hs h;have hl2:Ds.length=n:=by rw [<-g1.length];exact hl
 have hp:=UK g2 hl2;refine ⟨⟨Ds,g1,bJ hp ?_⟩,Oo,Oo⟩;rcases hn with rfl | rfl | rfl <;> decide +kernel
section
theorem oQ7(F:jA K "_law_hall" "_law_hall" ZR f fd)(T:kO K mg c)(FQ4:gB dR P w K mg base 1 "_law_draw" ["_law_feed_here","_law_many"] iH)(FQ14:gB dR P w K mg base 3 "_law_trial" ["_law_feed_here"] mU)(FQ11:gB dR P w K mg base 3 "_law_rule" ["_law_feed_here","_law_faces","_law_ways","_law_room"] mX):eJ P w K mg base dR 4 f fd ["_law_feed_here"] mZ:=by
 refine F.oky VO λvs H Q E h=>?_;unfold mZ at h;obtain ⟨p,L,rfl,FA,k⟩:=h;refine ⟨rfl,λcdv A outer s hr=>?_⟩;refine ⟨_,(aL (bL (i:=1) VO.nd rfl (Or.inl rfl) (eR (aJ aD (aJ aD (aJ aD aE)))))
  (aL (bL (i:=2) VO.nd rfl (Or.inl rfl) (bT eS aD (bQ FQ4 (hr.mono yd) (aJ (aG 0) (aJ aD aE)))))
  (aL (bL (i:=3) VO.nd rfl (Or.inl rfl) (eR aE))
  (aL (eP PassesOwn.never rfl (dX rfl T.b_range (aJ (aG 2) aE)) (cW (i:=4) VO.nd rfl (Or.inl rfl)) (aL (bL (i:=5) VO.nd rfl (Or.inl rfl) (bQ FQ14 (hr.mono yd) (aJ (aG 0) aE)))
  (aL (wL (mI (MK (IE (fW zI (aG 4) aD (nomark _)) (CS (fW zJ (bQ FQ4 (hr.mono yd) (aJ (aG 0) (aJ aD aE))) aD (nomark _))))) (bA (bL (i:=5) VO.nd rfl (Or.inl rfl) (aW aR (aW aR (aG 3) aD (λ_ _=>rfl)) aD (λ_ _=>rfl)))) gX))
  (bA (lL (tE PySem.F.plainAttrs_list PySem.F.slot_list_append PySem.F.type_list_append rE (aG 3) (aJ (dZ (aJ (aG 5) (aJ (bQ FQ11 (hr.mono yd) (aJ (aG 0) (aJ (eU gI (by rfl) T.b_len Kk (aJ (aW aR (aG 5) aD (λ_ _=>rfl)) aE)) (aJ (eU gI (by rfl) T.b_len Kk (aJ (aW aR (aG 5) aD (λ_ _=>rfl)) aE)) (aJ (aW aR (aG 1) (bT qY (aG 2) aD) (λ_ _=>rfl)) aE))))) aE))) aE)))))))
  (bA (cH (jF dL (by rfl) T.b_tuple Kk (aJ (aG 3) aE)))))))),?_⟩
 refine sT (by show 3<=64;decide) λRm H1 hRm e1 s1=>?_;refine ⟨_,rfl,?_⟩;refine dB (FA.same s1) yd Kk λx H2 x0 x1 F2 b2=>?_;obtain ⟨m,rfl⟩:=oH x0;refine ⟨_,_,rfl,rfl,?_⟩;obtain ⟨n,hn,hn3⟩:∃n:Nat,1+(m:Int)=(n:Int)/\(n=1\/n=2\/n=3):=⟨1+m,Oo,Oo⟩;refine sT (by show 0<=64;decide) λHl H3 hHl e3 s3=>?_;have nRp:Rm≠p:=FA.ne hRm;have e3R:=s3 _ _ (b2.at nRp e1);have F3:=F2.same s3;have B3:aN p H H3:=(s1.but.trans b2).trans s3.but;have nHp:Hl≠p:=F2.ne hHl;have nHL:Hl≠L:=F2.neL hHl;have nHR:Hl≠Rm:=λz=>by rw [z,b2.at nRp e1] at hHl;cases hHl
 have hHlH:H Hl=none:=aN.free (p:=p) (s1.but.trans b2) F2.there hHl;refine ⟨_,rfl,_,rfl,?_⟩;show _/\_/\_;rw [hn];refine ⟨Oo,Oo,?_⟩;rw [show ((n:Nat):Int).toNat=n by omega];refine gM (λi σ H'=>∃(o4 o5:Option V) (vs:List V) (hs:List HE),σ=[some (.ref p),some (.ref Rm),some (.int (n:Int)),some (.ref Hl),o4,o5]/\bY H' p L/\aN p H H'/\H' Rm=some (.lst [.int 40,.int 20,.int 9])/\H' Hl=some (.lst vs)/\bF H' (hs.map hD) vs/\hs.length=i/\∀x∈hs,HDr n x) ⟨_,_,[],[],by rw [<-hn];rfl,F3,B3,e3R,e3,bF.nil,rfl,λx hx=>by cases hx⟩ ?_ ?_
 ·rintro i σ H4 hi ⟨o4,o5,vs,hs,rfl,F4,B4,eR4,e4,r4,l4,d4⟩;rw [show (0:Int)+(i:Int)=(i:Int) by omega];refine ⟨_,rfl,?_⟩;refine BL F4 λv t o nF nW fs ws H5 F5 b5 r5 T5=>?_;have t5:=F4.t b5;have e5:=b5.at nHp e4;have eR5:=b5.at nRp eR4;have r5h:=r4.flat t5 (nG _);have B5:=B4.trans b5;refine ⟨λσ H'=>∃(v:V) (t o nF nW:Nat) (fs:List Str) (ws:List (Str × List Fr)),σ=[some (.ref p),some (.ref Rm),some (.int (n:Int)),some (.ref Hl),some (.int (i:Int)),some v]/\bY H' p L/\aN p H H'/\H' Rm=some (.lst [.int 40,.int 20,.int 9])/\H' Hl=some (.lst vs)/\bF H' (hs.map hD) vs/\cB H' (uQ fs ws) v/\yD t o nF nW fs ws,?_,?_⟩
  ·rintro σ H6 ⟨v,t,o,nF,nW,fs,ws,rfl,F6,B6,eR6,e6,r6,rt6,T6⟩;have hF:=T6.hF;have hW:=T6.hW;obtain ⟨at',af,aw,xf,xw,rfl,hat',haf,haw,rxf,rxw⟩:=vB rt6;have lxf:xf.length=nF:=by rw [rxf.len,aA];exact T6.lenF
   have lxw:xw.length=nW:=by rw [rxw.len,aA];exact T6.lenW
   refine ⟨_,rfl,SA e6,_,rfl,_,rfl,_,rfl,?_⟩;refine fZ hat' rfl ?_;refine MD haf ?_;refine ⟨_,rfl,?_⟩;refine fZ hat' rfl ?_;refine MD haw ?_;refine ⟨_,rfl,_,rfl,_,_,rfl,rfl,?_⟩;have hroom:([.int 40,.int 20,.int 9]:List V)[n-1]?=some (.int (xH n:Nat)):=by rcases hn3 with rfl | rfl | rfl <;> rfl
   refine kC eR6 (by rw [show (n:Int)-1=((n-1:Nat):Int) by omega];exact cK hroom) ?_;rw [lxf,lxw];have hr40:1<=xH n/\xH n<=40:=by rcases hn3 with rfl | rfl | rfl <;> decide
   refine BO F6 Oo Oo Oo Oo hr40.1 hr40.2 λv7 es M H7 F7 b7 r7 R7 room7=>?_;have t7:=F6.t b7;refine qH (by show 2<=64;decide) λq8 H8 hq8 e8 s8=>?_;have e8l:=s8 _ _ (b7.at nHp e6);have lvs:vs.length=hs.length:=eF r6;refine HM e8l Oo λH9 e9 b9=>?_;have t9:=b9.t e8l;have t69:cQ H6 H9:=(t7.trans s8.t).trans t9;refine ⟨_,_,vs++[.ref q8],hs++[⟨fs,ws,es⟩],rfl,(F7.same s8).but b9 nHp nHL,aN.thru hHlH ((B6.trans b7).trans s8.but) b9,b9.at nHR.symm (s8 _ _ (b7.at nRp eR6)),e9,?_,by rw [bC,l4];rfl,λx hx=>?_⟩
   ·rw [bN];refine bF.snoc (r6.flat t69 (nG _)) ?_;exact cB.tup (t9 _ _ e8) (bF.cons (rt6.flat t69 (mP _ _)) (bF.cons ((r7.same s8).flat t9 (vJ _)) bF.nil))
   ·rcases dP.mp hx with hx | hx
    ·exact d4 x hx
    ·rw [bR.mp hx];exact ⟨t,o,nF,nW,M,T6,R7,HZ hn3 Oo Oo R7.m5 room7⟩
  ·refine ⟨_,rfl,_,_,rfl,rfl,?_⟩;refine ⟨_,rfl,?_⟩;refine tZ (λhi0=>?_) (λhi0=>?_)
   ·have hi0:0<i:=by have:=hi0;omega
    refine ⟨_,rfl,?_⟩;refine dB F5 yd Kk λz H6 z0 z1 F6 b6=>?_;have t6:=F5.t b6;have e6:=b6.at nHp e5;have eR6:=b6.at nRp eR5;have r6:=r5h.flat t6 (nG _);have B6:=B5.trans b6;have r6t:=r5.flat t6 (mP fs ws);refine ⟨rfl,_,rfl,?_⟩;refine tZ (λhz=>?_) (λhz=>?_)
    ·obtain ⟨h0,hh0⟩:∃h0,hs[0]?=some h0:=⟨_,aB Oo⟩;obtain ⟨y0,hy0,ry0⟩:=iD r6 hh0;obtain ⟨ta,tt,tu,rfl,hta,rtt,rtu⟩:=zY ry0;obtain ⟨t0,o0,F0,W0,M0,T0,_,_⟩:=(d4 h0 (aM hh0)).ex;refine ⟨_,rfl,?_⟩;refine kC e6 (cK (j:=0) hy0) ?_;refine fZ hta rfl ?_;exact ⟨tt,t0,o0,F0,W0,h0.fs,h0.ws,rfl,F6,B6,eR6,e6,r6,rtt,T0⟩
    ·exact ⟨v,t,o,nF,nW,fs,ws,rfl,F6,B6,eR6,e6,r6,r6t,T5⟩
   ·exact ⟨v,t,o,nF,nW,fs,ws,rfl,F5,B5,eR5,e5,r5h,r5,T5⟩
 ·rintro σ H4 ⟨o4,o5,vs,hs,rfl,F4,B4,eR4,e4,r4,l4,d4⟩;refine ⟨_,rfl,?_⟩;refine ⟨Hl,vs,rfl,.inl ⟨fE.of e4,λl hl=>?_⟩⟩;have sl:=aQ.upd (o:=.tup vs) hl;exact k _ hs _ (F4.same sl) (B4.trans sl.but) (cB.tup bK (r4.same sl)) (OW hn3 l4 d4)
end
abbrev YW:Stmt:=(top 49)
theorem VS:bW ["_law_hall_here","_law_found","_law_trial_here","_law_rule_here","_law_longer","_law_one"] ["_law_hall_here"] (aT YW):=⟨rfl,rfl,rfl,Kk,rfl,Kk,Kk⟩
def chs(hs:List HE):List (List Nat):=hs.foldl (λcs h=>cs.flatMap λks=>(List.range h.ws.length).map λk=>ks++[k]) [[]]
theorem uI(hs:List HE)(h:HE):chs (hs++[h])=(chs hs).flatMap λks=>(List.range h.ws.length).map λk=>ks++[k]:=by unfold chs;rw [List.foldl_append];rfl
theorem sF{α β:Type}{R:α->β->Prop}:∀{xs:List α}{ys:List β}{x:α}{y:β},Paired R xs ys->R x y->Paired R (xs++[x]) (ys++[y])
 | _,_,_,_,.nil,h=>.cons h .nil
 | _,_,_,_,.cons r t,h=>.cons r (sF t h)
theorem nY{α β:Type}{R:α->β->Prop}:∀{xs:List α}{zs:List β}{x:α},Paired R (xs++[x]) zs->∃ys y,zs=ys++[y]/\Paired R xs ys/\R x y
 | [],_,_,.cons r .nil=>⟨[],_,rfl,.nil,r⟩
 | a::xs,_,x,.cons r t=>by
  obtain ⟨ys,y,rfl,h1,h2⟩:=nY t;exact ⟨_::ys,y,rfl,.cons r h1,h2⟩
theorem pK(hs:List HE):∀ks,ks∈chs hs↔mH hs ks:=by
 have all:∀(n:Nat) (hs:List HE),hs.length=n->∀ks,ks∈chs hs↔mH hs ks:=λn=>by
  induction n with
  | zero =>
   intro hs hl ks;rw [List.length_eq_zero_iff.mp hl];constructor
   ·intro h;rw [bR.mp (show ks∈[[]] from h)];exact .nil
   ·intro h;cases h;exact bR.mpr rfl
  | succ n ih =>
   intro hs hl ks;obtain ⟨hs',h,rfl⟩:∃hs' h,hs=hs' ++ [h]:=⟨hs.dropLast,hs.getLast (λz=>by rw [z] at hl;cases hl),(List.dropLast_concat_getLast _).symm⟩;have ih:=ih hs' (by rw [bC] at hl;simpa using hl);rw [uI,List.mem_flatMap];constructor
   ·rintro ⟨k0,h0,h1⟩;obtain ⟨j,hj,rfl⟩:=aP.mp h1;exact sF ((ih k0).mp h0) (cU.mp hj)
   ·intro h1;obtain ⟨ys,y,rfl,h2,h3⟩:=nY h1;exact ⟨ys,(ih ys).mpr h2,aP.mpr ⟨y,cU.mpr h3,rfl⟩⟩
 exact all hs.length hs rfl
theorem PN:∀(n:Nat) (hs:List HE),hs.length=n->(∀h∈hs,h.ws.length<=4)->(chs hs).length<=4^n:=λn=>by
 induction n with
 | zero=>intro hs hl _;rw [List.length_eq_zero_iff.mp hl];exact aF _
 | succ n ih =>
  intro hs hl hw;obtain ⟨hs',h,rfl⟩:∃hs' h,hs=hs' ++ [h]:=⟨hs.dropLast,hs.getLast (λz=>by rw [z] at hl;cases hl),(List.dropLast_concat_getLast _).symm⟩;have ih:=ih hs' (by rw [bC] at hl;simpa using hl) λx hx=>hw x (bZ _ hx);have h4:=hw h (bH _ (bR.mpr rfl));rw [uI];have fl:∀l:List (List Nat),(l.flatMap λks=>(List.range h.ws.length).map λk=>ks++[k]).length=l.length*h.ws.length:=λl=>by
   induction l with
   | nil=>simp
   | cons a l ih=>rw [List.flatMap_cons,bC,ih,aA,cV,dG,Nat.add_mul];omega
  rw [fl,Nat.pow_succ];exact Nat.mul_le_mul ih h4
@[irreducible] def jT:Sp:=λvs H Q _=>∃(x:V) (hs:List HE),vs=[x]/\cB H (CA hs) x/\eT hs/\∀D H',aQ H H'->H D=none->AY H' D (chs hs)->Q (.ref D) H'
theorem xA{H:Hp}{Q:VK}{E:XK}{x:V}{hs:List HE}(h1:cB H (CA hs) x)(h2:eT hs)(k:∀D H',aQ H H'->H D=none->AY H' D (chs hs)->Q (.ref D) H'):jT [x] H Q E:=by unfold jT;exact ⟨x,hs,rfl,h1,h2,k⟩
theorem eT.w4{hs:List HE}(ok:eT hs):∀h∈hs,h.ws.length<=4:=λh hh=>by
 obtain ⟨i,hi⟩:=cI.mp hh;obtain ⟨D,r⟩:=ok.at_ hi;exact r.w4
theorem eT.few{hs:List HE}(ok:eT hs)(i:Nat):(chs (hs.take i)).length<=64:=by
 have h1:=PN _ (hs.take i) rfl λh hh=>ok.w4 h (List.mem_of_mem_take hh);have h2:(hs.take i).length<=3:=by rw [bP];have:=ok.len;omega
 exact aZ h1 (bB yd h2)
section
theorem oQ2(F:jA K "_law_choices" "_law_choices" YW f fd)(T:kO K mg c):eJ P w K mg base dR 1 f fd ["_law_hall_here"] jT:=by
 refine F.oky VS λvs H Q E h=>?_;unfold jT at h;obtain ⟨x,hs,rfl,rx,ok,k⟩:=h;refine ⟨rfl,λcdv A outer s hr=>?_⟩;obtain ⟨a,xs,rfl,ha,rxs⟩:=fX rx;have lx:xs.length=hs.length:=eF rxs;have l3:=ok.len;refine ⟨_,(aL (bL (i:=1) VS.nd rfl (Or.inl rfl) (eR (aJ (dZ aE) aE)))
  (aL (eP PassesOwn.never rfl (lM (aG 0)) (oB rfl (eW (cW (i:=2) VS.nd rfl (Or.inl rfl)) (eW (cW (i:=3) VS.nd rfl (Or.inl rfl)) lN))) (aL (bL (i:=4) VS.nd rfl (Or.inl rfl) (eR aE))
  (aL (eP PassesOwn.never rfl (fF (aG 1)) (cW (i:=5) VS.nd rfl (Or.inr rfl)) (bA (lL (tE PySem.F.plainAttrs_list PySem.F.slot_list_extend PySem.F.type_list_extend US (aG 4) (aJ (fG (dM.of (psc:=aT YW) (N:=["_law_hall_here","_law_found","_law_trial_here","_law_rule_here","_law_longer","_law_one"]) (N':=["_law_way","_law_one"]) (js:=[5]) Kk rfl rfl rfl) (dX rfl T.b_range (aJ (eU gI (by rfl) T.b_len Kk (aJ (aW aR (aG 2) aD (λ_ _=>rfl)) aE)) aE)) (λ_ _ _ _=>eI) (λ_ _ _ _=>(bT (pH K) (aG 1) (dZ (aJ (aG 0) aE))))) aE)))))
  (bA (bL (i:=1) VS.nd rfl (Or.inl rfl) (aG 4))))))
  (bA (cH (aG 1))))),?_⟩
 refine qH (by show 0<=64;decide) λq1 H1 hq1 e1 s1=>?_;refine sT (by show 1<=64;decide) λD2 H2 hD2 e2 s2=>?_;have S2:=s1.trans s2;have L2':AY H2 D2 (chs (hs.take 0)):=⟨_,e2,bF.cons (cB.tup (s2 _ _ e1) bF.nil) bF.nil⟩;refine ⟨_,rfl,a,rfl,⟨_,gK.of (S2 _ _ ha)⟩,?_⟩;refine pU (xs:=xs) (λi σ H'=>∃(o2 o3 o4 o5:Option V) (D:Addr),σ=[some (.ref a),some (.ref D),o2,o3,o4,o5]/\aQ H H'/\H D=none/\AY H' D (chs (hs.take i))) ⟨_,_,_,_,D2,rfl,S2,s1.free hD2,L2'⟩ (λi σ H' _ q=>?_) ?_ ?_
 ·obtain ⟨_,_,_,_,_,_,s',_⟩:=q;exact gK.of (s' _ _ ha)
 ·rintro i v σ H3 hv ⟨o2,o3,o4,o5,D,rfl,S3,hD,L3⟩;obtain ⟨h,hh,rh⟩:=dQ rxs hv;obtain ⟨ta,tt,tu,rfl,hta,rtt,rtu⟩:=zY (rh.same S3);obtain ⟨at',af,aw,xf,xw,rfl,hat',haf,haw,rxf,rxw⟩:=vB rtt;have lxw:xw.length=h.ws.length:=eF rxw;have w4:=ok.w4 h (aM hh);obtain ⟨cv,eD,rD,lD⟩:=L3.len;have few:=ok.few i;refine ⟨ta,[.ref at',tu],rfl,gK.of hta,rfl,.ref at',[tu],rfl,tu,[],rfl,rfl,?_⟩;refine sT (by show 0<=64;decide) λLg H4 hLg e4 s4=>?_;have hLgH:=S3.free hLg;have nLD:Lg≠D:=λz=>by rw [z,eD] at hLg;cases hLg
  refine ⟨_,rfl,D,rfl,⟨_,fE.of (s4 _ _ eD)⟩,?_⟩;refine iJ (xs:=cv) (λj σ H'=>∃(o5:Option V) (vs:List V),σ=[some (.ref a),some (.ref D),some (.ref at'),some tu,some (.ref Lg),o5]/\aQ H H'/\cQ H3 H'/\H' D=some (.lst cv)/\H' Lg=some (.lst vs)/\bF H' ((((chs (hs.take i)).take j).flatMap λks=>(List.range h.ws.length).map λk=>ks++[k]).map mL) vs/\vs.length<=4*j) ⟨_,[],rfl,S3.trans s4,s4.t,s4 _ _ eD,e4,by rw [List.take_zero];exact bF.nil,aF _⟩ (λj σ H' _ q=>?_) ?_ ?_
  ·obtain ⟨_,_,_,_,_,q,_⟩:=q;exact fE.of q
  ·rintro j u σ H5 hu ⟨o5',vs5,rfl,S5,t5,eD5,e5,r5,lv5⟩;obtain ⟨ks,hks,rks⟩:=dQ rD hu;have hj:j<cv.length:=(aH.mp hu).1;obtain ⟨ka,rfl,hka⟩:=iQ (rks.flat t5 (iY _));have lks:ks.length<=3:=by
    have:=(pK (hs.take i) ks).mp (aM hks);have h1:=this.length;rw [<-h1,bP];omega
   refine ⟨_,rfl,SA e5,_,rfl,?_⟩;refine fZ (t5 _ _ hat') rfl ?_;refine MD (t5 _ _ haw) ?_;refine ⟨_,rfl,Oo,Oo,?_⟩;refine jN (λk y H'=>cB H' (mL (ks++[k])) y) (λ_ y Ha Hb s h=>h.flat s (iY _)) Oo (λk H' Q' hk s' k'=>?_) (λD6 ys6 H6 hD6 e6 s6 hy6 hr6=>?_)
   ·refine ⟨_,rfl,_,rfl,?_⟩;refine qH (by show 1<=64;decide) λq7 H7 hq7 e7 s7=>?_;refine LK (s7 _ _ (s' _ _ hka)) e7 (by rw [aA];show ks.length+1<=1000;omega) λc8 H8 s8 e8=>?_;refine k' _ H8 (s7.trans s8) (jE ?_);rw [e8,bN];show some (HO.tup (ks.map rL++[.int (0+(k:Int))]))=_;rw [show (0:Int)+(k:Int)=(k:Int) by omega];rfl
   ·have ly6:ys6.length=h.ws.length:=by rw [hy6,lxw];omega
    refine aAQ (s6 _ _ e5) e6 Oo λH7 e7 b7=>?_;have t7:=b7.t (s6 _ _ e5);refine ⟨_,vs5++ys6,rfl,aQ.thru hLgH (S5.trans s6) b7,(t5.trans s6.t).trans t7,b7.at nLD.symm (s6 _ _ eD5),e7,?_,by rw [bC];omega⟩;rw [eO hks,List.flatMap_append,bN];refine bF.app ((r5.same s6).flat t7 (EU _)) ?_;rw [List.flatMap_cons,List.flatMap_nil,List.append_nil,List.map_map];refine bF.ofIdx (by rw [ly6,aA,cV]) λk y hk=>?_;have hk':k<h.ws.length:=by have:=(aH.mp hk).1;omega
    exact ⟨mL (ks++[k]),by rw [aI,cR hk'];rfl,(hr6 k y hk).flat t7 (iY _)⟩
  ·rintro σ H5 ⟨o5',vs5,rfl,S5,t5,eD5,e5,r5,lv5⟩;rw [lD,bG] at r5;refine ⟨_,rfl,?_⟩;refine ⟨_,_,_,_,Lg,rfl,S5,hLgH,vs5,e5,?_⟩;rw [eO hh,uI];exact r5
 ·rintro σ H3 ⟨o2,o3,o4,o5,D,rfl,S3,hD,L3⟩;rw [lx,bG] at L3;exact ⟨_,rfl,k D H3 S3 hD L3⟩
end
abbrev WE:Stmt:=(top 51)
theorem VP:bW ["_law_hall_here","_law_wrongs","_law_trial_here","_law_rule_here","_law_own","_law_found","_law_choice"] ["_law_hall_here"] (aT WE):=⟨rfl,rfl,rfl,Kk,rfl,Kk,Kk⟩
def qB(hs:List HE)(ks:List Nat):Rat:=1-pq (wrs hs ks)
structure MA(H:Hp)(hs:List HE)(kvs:List (List eG × V)):Prop where
 ks:∃cs:List (List Nat),kvs.map (·.1)=cs.map (λc=>kT (ci c))/\cs.Nodup/\∀c,c∈cs↔mH hs c
 at_:∀c,mH hs c->∃v,eY kvs (kT (ci c))=some v/\cB H (eQ (cG (qB hs c))) v
theorem MA.t{H H':Hp}{hs:List HE}{kvs:List (List eG × V)}(s:cQ H H')(h:MA H hs kvs):MA H' hs kvs:=⟨h.ks,λc hc=>by
 obtain ⟨v,h1,h2⟩:=h.at_ c hc;exact ⟨v,h1,h2.flat s (cF _)⟩⟩
theorem MA.len{H:Hp}{hs:List HE}{kvs:List (List eG × V)}(h:MA H hs kvs)(ok:eT hs):kvs.length<=64:=by
 obtain ⟨cs,h1,h2,h3⟩:=h.ks;have:=congrArg List.length h1;rw [aA,aA] at this;rw [this];have h4:=ok.few hs.length;rw [bG] at h4;exact aZ (qZ h2 λc hc=>(pK hs c).mpr ((h3 c).mp hc)) h4
@[irreducible] def pB(K:PySem.W.Frag):Sp:=λvs H Q _=>∃(x:V) (hs:List HE),vs=[x]/\cB H (CA hs) x/\eT hs/\∀D kvs H',aQ H H'->H D=none->H' D=some (.dT kvs)->MA H' hs kvs->Q (.ref D) H'
theorem FX{K:PySem.W.Frag}{H:Hp}{Q:VK}{E:XK}{x:V}{hs:List HE}(h1:cB H (CA hs) x)(h2:eT hs)(k:∀D kvs H',aQ H H'->H D=none->H' D=some (.dT kvs)->MA H' hs kvs->Q (.ref D) H'):pB K [x] H Q E:=by unfold pB;exact ⟨x,hs,rfl,h1,h2,k⟩
def WrL(H:Hp)(hs:List HE)(vs:List V):Prop:=vs.length=hs.length/\∀(i:Nat) (v:V),vs[i]?=some v->∃h a ys,hs[i]?=some h/\v=.ref a/\H a=some (.lst ys)/\bF H ((wrl h).map λx=>eQ (cG x)) ys
theorem IH(h:HE):dO ((wrl h).map λx=>eQ (cG x))=true:=pT id (wrl h)
section
theorem oQ5(F:jA K "_law_dues" "_law_dues" WE f fd)(T:kO K mg c)(FQ15:gB dR P w K mg base 3 "_law_walk" ["_law_trial_here","_law_rule_here","_law_way"] (oX K))(FQ8:gB dR P w K mg base 1 "_law_low" ["_law_n","_law_d"] iO)(FQ2:gB dR P w K mg base 1 "_law_choices" ["_law_hall_here"] jT)(FQ1:gB dR P w K mg base 3 "_law_any" ["_law_shares_here"] (qO K)):eJ P w K mg base dR 4 f fd ["_law_hall_here"] (pB K):=by
 refine F.oky VP λvs H Q E h=>?_;unfold pB at h;obtain ⟨x,hs,rfl,rx,ok,k⟩:=h;refine ⟨rfl,λcdv A outer s hr=>?_⟩;have rx0:=rx;obtain ⟨a,xs,rfl,ha,rxs⟩:=fX rx;have lx:xs.length=hs.length:=eF rxs;have l3:=ok.len;refine ⟨_,(aL (bL (i:=1) VP.nd rfl (Or.inr rfl) (eR aE))
  (aL (eP PassesOwn.never rfl (lM (aG 0)) (oB rfl (eW (cW (i:=2) VP.nd rfl (Or.inr rfl)) (eW (cW (i:=3) VP.nd rfl (Or.inr rfl)) lN))) (aL (oA (i:=4) (dM.of (psc:=aT WE) (N:=["_law_hall_here","_law_wrongs","_law_trial_here","_law_rule_here","_law_own","_law_found","_law_choice"]) (N':=["_law_way","_law_trial_here","_law_rule_here"]) (js:=[2,3]) Kk rfl rfl rfl) VP.nd rfl rfl (dX rfl T.b_range (aJ (eU gI (by rfl) T.b_len Kk (aJ (aW aR (aG 2) aD (λ_ _=>rfl)) aE)) aE)) (λ_ _ _ _=>eI) (λ_ _ _ _=>(aW (eE K) (aW (eE K) (bQ FQ15 (hr.mono yd) (aJ (aG 1) (aJ (aG 2) (aJ (aG 0) aE)))) aD (λ_ _=>rfl)) (aG 0) (λ_ _=>rfl))))
  (bA (lL (tE PySem.F.plainAttrs_list PySem.F.slot_list_append PySem.F.type_list_append rE (aG 1) (aJ (fG (dM.of (psc:=aT WE) (N:=["_law_hall_here","_law_wrongs","_law_trial_here","_law_rule_here","_law_own","_law_found","_law_choice"]) (N':=["_law_one"]) (js:=[]) Kk rfl rfl rfl) (fF (aG 4)) (λ_ _ _ _=>eI) (λ_ _ _ _=>(bQ FQ8 (hr.mono yd) (aJ (bT qY (aW (eE K) (aG 0) aD (λ_ _=>rfl)) (aW (eE K) (aG 0) aD (λ_ _=>rfl))) (aJ (aW (eE K) (aG 0) aD (λ_ _=>rfl)) aE))))) aE))))))
  (aL (bL (i:=5) VP.nd rfl (Or.inl rfl) oR)
  (aL (eP PassesOwn.never rfl (fF (bQ FQ2 (hr.mono yd) (aJ (aG 0) aE))) (cW (i:=6) VP.nd rfl (Or.inr rfl)) (bA (sM hr.u1 (aG 5) (aG 6) (bQ FQ1 (hr.mono yd) (aJ (fG (dM.of (psc:=aT WE) (N:=["_law_hall_here","_law_wrongs","_law_trial_here","_law_rule_here","_law_own","_law_found","_law_choice"]) (N':=["_law_k","_law_wrongs","_law_choice"]) (js:=[1,6]) Kk rfl rfl rfl) (dX rfl T.b_range (aJ (eU gI (by rfl) T.b_len Kk (aJ (aG 0) aE)) aE)) (λ_ _ _ _=>eI) (λ_ _ _ _=>(aW (eE K) (aW (eE K) (aG 1) (aG 0) (λ_ _=>rfl)) (aW (eE K) (aG 2) (aG 0) (λ_ _=>rfl)) (λ_ _=>rfl)))) aE)))))
  (bA (cH (aG 5))))))),?_⟩
 refine sT (by show 0<=64;decide) λWr H1 hWr e1 s1=>?_;refine ⟨_,rfl,a,rfl,⟨_,gK.of (s1 _ _ ha)⟩,?_⟩;refine pU (xs:=xs) (λi σ H'=>∃(o2 o3 o4:Option V) (vs:List V),σ=[some (.ref a),some (.ref Wr),o2,o3,o4,none,none]/\aQ H H'/\H' Wr=some (.lst vs)/\WrL H' (hs.take i) vs/\∀j:Nat,vs[j]? ≠ some (.ref Wr)) ⟨_,_,_,[],rfl,s1,e1,⟨by rw [List.take_zero];rfl,λi v h=>by simp at h⟩,λj=>by simp⟩ (λi σ H' _ q=>?_) ?_ ?_
 ·obtain ⟨_,_,_,_,_,s',_⟩:=q;exact gK.of (s' _ _ ha)
 ·rintro i v σ H2 hv ⟨o2,o3,o4,vs2,rfl,S2,e2,W2,n2⟩;obtain ⟨h,hh,rh⟩:=dQ rxs hv;have hi:i<hs.length:=(aH.mp hh).1;obtain ⟨Dh,okh⟩:=ok.at_ hh;obtain ⟨ta,tt,tu,rfl,hta,rtt,rtu⟩:=zY (rh.same S2);have rtt0:=rtt;obtain ⟨at',af,aw,xf,xw,rfl,hat',haf,haw,rxf,rxw⟩:=vB rtt;have lxw:xw.length=h.ws.length:=eF rxw;have w4:=okh.w4;refine ⟨ta,[.ref at',tu],rfl,gK.of hta,rfl,.ref at',[tu],rfl,tu,[],rfl,rfl,?_⟩;refine ⟨_,rfl,?_⟩;refine fZ hat' rfl ?_;refine MD haw ?_;refine ⟨_,rfl,Oo,Oo,?_⟩;refine jN (λj y H'=>cB H' (eQ (cG (oM h j))) y) (λ_ y Ha Hb s h=>h.flat s (cF _)) Oo (λj H' Q' hj s' k'=>?_) (λD3 ys3 H3 hD3 e3 s3 hy3 hr3=>?_)
  ·rw [show (0:Int)+(j:Int)=(j:Int) by omega];have hjw:j<h.ws.length:=Oo;obtain ⟨wx,hx⟩:∃wx,h.ws[j]?=some wx:=⟨_,aB hjw⟩;have hm:=aM hx;obtain ⟨M,Ns,R,rfl,TG,n0,n1⟩:=okh.ex;have f2:=okh.f2;refine ⟨_,rfl,_,rfl,_,rfl,?_⟩;refine FT (rtt0.same s') (rtu.same s') R Oo okh.f4 w4 rfl hx (TG.sh _ hm) (okh.len _ hm) n1 λv4 wl el wv H4 s4 e4 eW4 rW4=>?_;refine fZ e4 rfl ?_;refine ⟨_,rfl,?_⟩;obtain ⟨y,hy,ry⟩:=iD (g:=λt=>eQ (cG (kF h.fs.length h.es (wq wx.2) t))) rW4 (show (List.range h.ws.length)[j]?=some j from cR hjw);refine kC eW4 (cK hy) ?_;refine k' _ H4 s4 ?_;rw [JG hx];exact ry
  ·have ly3:ys3.length=h.ws.length:=by rw [hy3,lxw];omega
   refine ⟨_,rfl,SA (s3 _ _ e2),_,rfl,D3,rfl,⟨_,fE.of e3⟩,?_⟩;refine nQ (λj y H'=>cB H' (eQ (cG (1-oM h j))) y) (λ_ y Ha Hb s h=>h.flat s (cF _)) Oo e3 (λj y H' Q' hy s' k'=>?_) (λD4 ys4 H4 hD4 e4 s4 hy4 hr4=>?_)
   ·have hjw:j<h.ws.length:=by have:=(aH.mp hy).1;omega
    obtain ⟨h0,h1,hq,d0⟩:=okh.sd hjw;obtain ⟨ya,rfl,hya⟩:=mE ((hr3 j y hy).same s');refine ⟨_,rfl,?_⟩;refine fZ hya rfl ?_;refine ⟨_,rfl,?_⟩;refine fZ hya rfl ?_;refine ⟨_,_,rfl,rfl,?_⟩;refine ⟨_,rfl,?_⟩;refine fZ hya rfl ?_;refine gS (aY _).pos (szd (szq hq d0 okh.dz)) λq5 H5 hq5 e5 s5=>?_;rw [tW (aY _),cP] at e5;exact k' _ H5 s5 (dU e5)
   ·have lv2:vs2.length=i:=by rw [W2.1,bP];omega
    refine HM (s4 _ _ (s3 _ _ e2)) Oo λH5 e5 b5=>?_;have t5:=b5.t (s4 _ _ (s3 _ _ e2));have s24:=s3.trans s4;have nD4:D4≠Wr:=λz=>by rw [z,s3 _ _ e2] at hD4;cases hD4
    refine ⟨_,_,_,vs2++[.ref D4],rfl,aQ.thru hWr (S2.trans s24) b5,e5,⟨by rw [bC,bP];show vs2.length+1=_;omega,λj v hj=>?_⟩,λj hj=>?_⟩
    ·by_cases hji:j<vs2.length
     ·rw [List.getElem?_append_left hji] at hj;obtain ⟨h',a',ys',q1,rfl,q2,q3⟩:=W2.2 j v hj;refine ⟨h',a',ys',?_,rfl,b5.at (λz=>n2 j (by rw [<-z];exact hj)) (s24 _ _ q2),(q3.same s24).flat t5 (IH _)⟩;rw [List.getElem?_take_of_lt Oo] at q1 ⊢;exact q1
     ·rw [List.getElem?_append_right Oo] at hj;have hj0:j-vs2.length=0:=by
       refine bU λz=>?_;rw [dI (by simp;omega)] at hj;cases hj
      rw [hj0] at hj;cases hj;refine ⟨h,D4,ys4,?_,rfl,b5.at nD4 e4,?_⟩
      ·rw [List.getElem?_take_of_lt Oo,show j=i by omega];exact hh
      ·unfold wrl;rw [List.map_map];refine bF.ofIdx (by rw [hy4,ly3,aA,cV]) λt y ht=>?_;have ht':t<h.ws.length:=by have:=(aH.mp ht).1;omega
       exact ⟨_,by rw [aI,cR ht'];rfl,(hr4 t y ht).flat t5 (cF _)⟩
    ·by_cases hji:j<vs2.length
     ·rw [List.getElem?_append_left hji] at hj;exact n2 j hj
     ·rw [List.getElem?_append_right Oo] at hj;have hj0:j-vs2.length=0:=by
       refine bU λz=>?_;rw [dI (by simp;omega)] at hj;cases hj
      rw [hj0] at hj;have:V.ref D4=V.ref Wr:=cO hj;injection this with this;exact nD4 this
 ·rintro σ H2 ⟨o2,o3,o4,vs2,rfl,S2,e2,W2,n2⟩;rw [lx,bG] at W2;intro Fd hFd;have s3:=aQ.upd (o:=.dT []) hFd;have e3:(upd H2 Fd (.dT [])) Fd=some (.dT []):=bK;generalize upd H2 Fd (.dT [])=H3 at s3 e3 ⊢;have S3:=S2.trans s3;have hFdH:=S2.free hFd;refine ⟨_,rfl,?_⟩;refine xA (rx0.same S3) ok λCd H4 s4 hCd L4=>?_;obtain ⟨cv,eC,rC,lC⟩:=L4.len;have few:=ok.few hs.length;rw [bG] at few;have nCF:Cd≠Fd:=λz=>by rw [z,e3] at hCd;cases hCd
  have s24:=s3.trans s4;have nWF:Wr≠Fd:=λz=>by rw [<-z,e2] at hFd;cases hFd
  refine ⟨Cd,rfl,⟨_,fE.of eC⟩,?_⟩;refine iJ (xs:=cv) (λj σ H'=>∃(o6:Option V) (kvs:List (List eG × V)),σ=[some (.ref a),some (.ref Wr),o2,o3,o4,some (.ref Fd),o6]/\aN Fd H4 H'/\H' Fd=some (.dT kvs)/\(∃cs:List (List Nat),kvs.map (·.1)=cs.map (λc=>kT (ci c))/\cs.Nodup/\∀c,c∈cs↔c∈(chs hs).take j)/\kvs.length<=j/\∀c∈(chs hs).take j,∃v,eY kvs (kT (ci c))=some v/\cB H' (eQ (cG (qB hs c))) v) ⟨_,[],rfl,(aQ.refl _).but,s4 _ _ e3,⟨[],rfl,List.nodup_nil,λc=>by rw [List.take_zero]⟩,aF _,λc hc=>by rw [List.take_zero] at hc;cases hc⟩ (λj σ H' _ q=>?_) ?_ ?_
  ·obtain ⟨_,_,_,b',_⟩:=q;exact fE.of (b'.at nCF eC)
  ·rintro j u σ H5 hu ⟨o6,kvs,rfl,b5,e5,⟨cs,c1,c2,c3⟩,lk5,at5⟩;obtain ⟨ks,hks,rks⟩:=dQ rC hu;have hj:j<cv.length:=(aH.mp hu).1;have ch:=(pK hs ks).mp (aM hks);have lks:ks.length=hs.length:=ch.length.symm;have t5:=aN.tT b5 (s4 _ _ e3);obtain ⟨ka,rfl,hka⟩:=iQ (rks.flat t5 (iY _));have S5:aQ H H5:=aQ.thru hFdH (S3.trans s4) b5;refine ⟨_,rfl,?_⟩;refine MD (S5 _ _ ha) ?_;refine ⟨_,rfl,Oo,Oo,?_⟩;refine jN (λt y H'=>∃x,(wrs hs ks)[t]?=some x/\cB H' (eQ (cG x)) y) (λ_ y Ha Hb s ⟨x,h1,h2⟩=>⟨x,h1,h2.flat s (cF _)⟩) Oo (λt H' Q' ht s' k'=>?_) (λD6 ys6 H6 hD6 e6 s6 hy6 hr6=>?_)
   ·rw [show (0:Int)+(t:Int)=(t:Int) by omega];have htl:t<hs.length:=Oo;obtain ⟨wv,hwv⟩:∃wv,vs2[t]?=some wv:=⟨_,aB (by rw [W2.1];exact htl)⟩;obtain ⟨h,wa,wy,hh,rfl,hwa,rwy⟩:=W2.2 t wv hwv;obtain ⟨kk,hkk⟩:∃kk,ks[t]?=some kk:=⟨_,aB Oo⟩;obtain ⟨hw1,hw2⟩:=wM ch hh hkk;have nwF:wa≠Fd:=λz=>by rw [z] at hwa;rw [hwa] at hFd;cases hFd
    have hwa':=s' _ _ (b5.at nwF (s24 _ _ hwa));have e2':=s' _ _ (b5.at nWF (s24 _ _ e2));obtain ⟨y,hy,ry⟩:=iD rwy (wN hw2);refine ⟨_,rfl,_,rfl,?_⟩;refine kC e2' (cK hwv) ?_;refine ⟨_,rfl,_,rfl,?_⟩;refine fZ (s' _ _ hka) (cK (by rw [aI,hkk];rfl)) ?_;refine kC hwa' (cK hy) ?_;exact k' _ H' (aQ.refl _) ⟨_,hw1,((ry.same s24).flat t5 (cF _)).same s'⟩
   ·refine yX (K:=K) (xs:=wrs hs ks) ⟨ys6,.inl e6,by rw [hy6,sN ch];omega,λi v hv=>hr6 i v hv⟩ (ok.pr ch) λv7 H7 s7 r7=>?_;have s57:=s6.trans s7;refine ⟨_,rfl,_,rfl,?_⟩;refine ZF (s57 _ _ e5) (c:=ci ks) (by rw [iK];exact s57 _ _ hka) Oo λH8 e8 b8=>?_;have t8:=aN.tT b8 (s57 _ _ e5);have tk:(chs hs).take (j+1)=(chs hs).take j++[ks]:=eO hks;refine ⟨_,_,rfl,(b5.trans s57.but).trans b8,e8,?_,?_,λc hc=>?_⟩
    ·by_cases q:ks∈cs
     ·refine ⟨cs,?_,c2,λc=>?_⟩
      ·obtain ⟨u,hu1,_⟩:=at5 ks ((c3 ks).mp q);rw [kK (by rw [hu1];rfl),c1]
      ·rw [tk,dP,bR,c3];exact ⟨.inl,λh=>h.elim id λh=>by rw [h];exact (c3 ks).mp q⟩
     ·refine ⟨cs++[ks],?_,List.nodup_append.mpr ⟨c2,by simp,λa ha b hb e=>by cases bR.mp hb;subst e;exact q ha⟩,λc=>by rw [tk,dP,dP,c3]⟩;have hn:eY kvs (kT (ci ks))=none:=by
       cases hv:eY kvs (kT (ci ks)) with
       | none=>rfl
       | some u =>
        exfalso;have:=wP hv;rw [c1] at this;obtain ⟨c',hc',e'⟩:=aP.mp this;exact q (by rw [<-kN (kL e')];exact hc')
      rw [pF _ hn,bN,bN,c1];rfl
    ·have:=gG kvs (kT (ci ks)) v7;omega
    ·rw [oS];by_cases q:c=ks
     ·subst q;rw [if_pos rfl];exact ⟨v7,rfl,r7.flat t8 (cF _)⟩
     ·rw [if_neg λz=>q (kN (kL z))];rw [tk] at hc;rcases dP.mp hc with hc | hc
      ·obtain ⟨u,h1,h2⟩:=at5 c hc;exact ⟨u,h1,(h2.same s57).flat t8 (cF _)⟩
      ·exact absurd (bR.mp hc) q
  ·rintro σ H5 ⟨o6,kvs,rfl,b5,e5,⟨cs,c1,c2,c3⟩,lk5,at5⟩;rw [lC,bG] at c3 at5;refine ⟨_,rfl,?_⟩;exact k Fd kvs H5 (aQ.thru hFdH (S3.trans s4) b5) hFdH e5 ⟨⟨cs,c1,c2,λc=>by rw [c3,pK]⟩,λc hc=>at5 c ((pK hs c).mpr hc)⟩
end
abbrev YV:Stmt:=(top 52)
theorem WI:bW ["_law_feed_here","_law_many","_law_shares_here","_law_all_told","_law_bound","_law_due","_law_near"] ["_law_feed_here","_law_many"] (aT YV):=⟨rfl,rfl,rfl,Kk,rfl,Kk,Kk⟩
abbrev GA:Stmt:=(top 53)
theorem CI:bW ["_law_script","_law_feed_here","_law_halls","_law_dues_here","_law_k","_law_choice","_law_found"] ["_law_script"] (aT GA):=⟨rfl,rfl,rfl,Kk,rfl,Kk,Kk⟩
structure Sw(n w:Nat)(d:PyData):Prop where
 sh:PyData.showable d=true
 nd:PyData.hasDict d=false
 dp:PyData.depth d<=n
 wd:MC d<=w
theorem Sw.all{n w:Nat}:∀{ds:List PyData},(∀d∈ds,Sw n w d)->PyData.showableAll ds=true/\PyData.hasDictAll ds=false/\PyData.depthAll ds<=n/\xD ds<=ds.length*(w+2)
 | [],_=>⟨rfl,rfl,cM _,cM _⟩
 | d::ds,h=>by
  obtain ⟨a,b,c,e⟩:=h d (aO ..);obtain ⟨a',b',c',e'⟩:=Sw.all λx hx=>h x (aK d hx);refine ⟨?_,?_,?_,?_⟩
  ·show (PyData.showable d&&PyData.showableAll ds)=true;rw [a,a'];rfl
  ·show (PyData.hasDict d || PyData.hasDictAll ds)=false;rw [b,b'];rfl
  ·show max (PyData.depth d) (PyData.depthAll ds)<=n;omega
  ·show MC d+2+xD ds<=(ds.length+1)*(w+2);rw [Nat.add_mul,Nat.one_mul];omega
theorem Sw.tup{n w k:Nat}{ds:List PyData}(h:∀d∈ds,Sw n w d)(hl:ds.length<=k):Sw (n+1) (k*(w+2)+4) (.tuple ds):=by
 obtain ⟨a,b,c,e⟩:=Sw.all h;refine ⟨a,b,by show PyData.depthAll ds+1<=n+1;omega,?_⟩;show xD ds+4<=_;have:=cC (w+2) hl;omega
theorem Sw.int{x:Int}{k:Nat}(h:x.natAbs<2^k)(hk:k<=1900:=by decide):Sw 1 1921 (.int x) :=
 ⟨MX (n:=1900) (aX h (bB yd hk)),rfl,by simp [PyData.depth],aF _⟩
theorem Sw.fr{f:Fr}(h:iZ 1900 f):Sw 2 3850 (eQ f):=Sw.tup (k:=2) (n:=1) (w:=1921) (λd hd=>by
 simp only [bE,List.not_mem_nil,or_false] at hd;rcases hd with rfl | rfl
 ·exact Sw.int h.1
 ·exact Sw.int h.2) (aF _)
theorem WF{H:Hp}{Q:VK}{x:V}{d:PyData}{n w:Nat}(r:cB H d x)(h:Sw n w d)(hn:n<=60)(hw:w<=16000000)(q:Q (.str d.shown) H):vK [x] H Q :=
 rrI r h.sh h.nd (aZ h.dp hn) (aZ (yY _ h.sh h.nd) (aZ h.wd (aZ hw yd))) q
theorem UO{X:Cx}:oK X (compareOp .Is) (λx y H Q=>∃a b,x=.bl a/\y=.bl b/\Q (.bl (a == b)) H):=by
 intro pins s σ H x y v u Q I rx ry h;obtain ⟨a,b,rfl,rfl,q⟩:=h;cases rx;cases ry;exact PyProof.Rows.is_bool ⟨.bl _,H,I,rfl,q⟩
theorem Sw.bl(b:Bool):Sw 1 10 (.bool b):=⟨rfl,rfl,by simp [PyData.depth],by cases b <;> decide⟩
@[irreducible] def lE(K:PySem.W.Frag):Sp:=λvs H Q _=>∃(p L:Addr) (n:Int),vs=[.ref p,.int n]/\bY H p L/\1<=n/\n<=3/\∀H',bY H' p L->aN p H H'->Q (.bl true) H'
theorem sB{K:PySem.W.Frag}{H:Hp}{Q:VK}{E:XK}{p L:Addr}{n:Int}(h1:bY H p L)(h2:1<=n)(h3:n<=3)(k:∀H',bY H' p L->aN p H H'->Q (.bl true) H'):lE K [.ref p,.int n] H Q E:=by unfold lE;exact ⟨p,L,n,rfl,h1,h2,h3,k⟩
theorem yM{x:Int}(h0:0<=x)(h1:x<13):∃q:Rat,lw x 12=cG q/\Qn 12 1 q/\0<=q/\q<=1:=by
 have f:Fn 12 1 (lw x 12):=Fn.of (n:=x) (d:=12) (B:=1) yd (by show x.natAbs<=1*12;omega);refine ⟨rv (lw x 12),(fS (aY _) f.low (by rw [cP])).symm,f.q,?_,?_⟩
 ·exact JK f.low (Int.ediv_nonneg h0 (Int.natCast_nonneg _))
 ·rw [sC yd,Rat.div_def];have h3:((x:Int):Rat)<=12:=by
   have:x<=12:=Oo
   exact_mod_cast this
  have e:((12:Int):Rat)=12:=rfl;rw [e];grind
theorem XB{xs:List Rat}(h:∀x∈xs,Qn 12 1 x/\0<=x/\x<=1)(hl:xs.length<=3):sL xs:=by
 have all:∀l:List Rat,(∀x∈l,Qn 12 1 x/\0<=x/\x<=1)->Paired (λx D=>0<D/\Qn D 1 x/\0<=x/\x<=1) l (List.replicate l.length 12):=λl=>by
  induction l with
  | nil=>exact λ_=>.nil
  | cons x l ih =>
   intro hx;obtain ⟨h1,h2,h3⟩:=hx x (aO ..);exact .cons ⟨yd,h1,h2,h3⟩ (ih λy hy=>hx y (aK _ hy))
 refine sL.of (all xs h) ?_ Oo;have h1:=DZ (B:=12) (Ds:=List.replicate xs.length 12) λd hd=>by rw [List.eq_of_mem_replicate hd];exact aF _
 rw [cY] at h1;have h2:12^xs.length<=12^3:=bB yd hl;exact bJ (aZ h1 h2) Kk
theorem zW{p q:Rat}:(cG p).1*(cG q).2<=(cG q).1*(cG p).2↔p<=q:=by
 have h:=JL (f:=cG q) (g:=cG p) (aY _).pos (aY _).pos;rw [cP,cP] at h;constructor
 ·intro h1;exact Rat.not_lt.mp λz=>by
   have:=h.mpr z;unfold zQ at this;omega
 ·intro h1;refine bU λz=>?_;have:zQ (cG q) (cG p):=by unfold zQ;omega
  exact absurd (h.mp this) (Rat.not_lt.mpr h1)
theorem OO{A:Rat}(h0:0<=A):∃q:Rat,lw ((cG A).1*999-1) ((cG A).2*999)=cG q/\q<A:=by
 have hp:=(aY A).pos;have hp2:0<(cG A).2*999:=Oo;refine ⟨rv (lw ((cG A).1*999-1) ((cG A).2*999)),(fS (aY _) (fM hp2) (by rw [cP])).symm,?_⟩;rw [sC hp2];have e:=pE hp;rw [cP] at e;have pp:(0:Rat)<((cG A).2:Rat):=by exact_mod_cast hp
 rw [Rat.intCast_sub,Rat.intCast_mul,Rat.intCast_mul];have c999:((999:Int):Rat)=999:=rfl;have c1:((1:Int):Rat)=1:=rfl;rw [c999,c1,<-e];have hne:((cG A).2:Rat)≠0:=by grind
 have:(A*((cG A).2:Rat)*999-1)/(((cG A).2:Rat)*999)=A-1/(((cG A).2:Rat)*999):=by
  rw [Rat.div_def,Rat.div_def];grind
 rw [this];have:0<1/(((cG A).2:Rat)*999):=by
  rw [Rat.div_def,Rat.one_mul];exact Rat.inv_pos.mpr (by grind)
 grind
theorem yK:∀{kvs:List (List eG × V)}{p:List eG × V},(kvs.map (·.1)).Nodup->p∈kvs->eY kvs p.1=some p.2
 | q::kvs,p,nd,h=>by
  rw [bI,List.nodup_cons] at nd;rcases bE.mp h with rfl | h
  ·exact fH rfl
  ·rw [fI (show ¬q.1=p.1 from λz=>nd.1 (by rw [z];exact aP.mpr ⟨p,h,rfl⟩))];exact yK nd.2 h
theorem vO:∀{cs:List (List Nat)},cs.Nodup->(cs.map λc=>kT (ci c)).Nodup
 | [],_=>List.nodup_nil
 | c::cs,h=>by
  rw [List.nodup_cons] at h;rw [bI,List.nodup_cons];refine ⟨λq=>?_,vO h.2⟩;obtain ⟨x,hx,e1⟩:=aP.mp q;exact h.1 (by rw [<-kN (kL e1)];exact hx)
theorem CJ{hs:List HE}{ks:List Nat}(ok:eT hs)(ch:mH hs ks):iZ 1900 (cG (qB hs ks))/\iZ 4000 (cG (qB hs ks)):=by
 have PR:=ok.pr ch;obtain ⟨n0,n1,Pi,pi0,pi1,qi⟩:=PR.part (wrs hs ks).length;rw [bG] at n0 n1 qi;have q:=kG qi pi0 n0 n1;obtain ⟨h1,h2⟩:=q.fq.num pi0;have e:(2:Nat)^1000<2^1900:=Kk;unfold qB;exact ⟨⟨Oo,Oo⟩,szq q pi0 pi1⟩
theorem VU{hs:List HE}{ks ms:List Nat}(ok:eT hs)(h1:mH hs ks)(h2:mH hs ms)(w:YM hs ms):qB hs ks<=qB hs ms:=by
 obtain ⟨Ds,g1,_⟩:=ok.ex;have:=DY h1 h2 g1 λi h k m e1 e2 e3=>w i h m e1 e3 k (wM h1 e1 e2).2;unfold qB;grind
section
theorem oQ3(F:jA K "_law_dealt_right" "_law_dealt_right" YV f fd)(T:kO K mg c)(FQ8:gB dR P w K mg base 1 "_law_low" ["_law_n","_law_d"] iO)(FQ4:gB dR P w K mg base 1 "_law_draw" ["_law_feed_here","_law_many"] iH)(FQ1:gB dR P w K mg base 3 "_law_any" ["_law_shares_here"] (qO K))(FQ20:gB dR P w K mg base 5 "is_dealt" ["bound","shares"] (nA K)):eJ P w K mg base dR 6 f fd ["_law_feed_here","_law_many"] (lE K):=by
 refine F.oky WI λvs H Q E h=>?_;unfold lE at h;obtain ⟨p,L,n,rfl,FA,n1,n3,k⟩:=h;refine ⟨rfl,λcdv A outer s hr=>?_⟩;refine ⟨_,(aL (bL (i:=2) WI.nd rfl (Or.inl rfl) (jF dL (by rfl) T.b_tuple Kk (aJ (fG (dM.of (psc:=aT YV) (N:=["_law_feed_here","_law_many","_law_shares_here","_law_all_told","_law_bound","_law_due","_law_near"]) (N':=["_law_k","_law_feed_here"]) (js:=[0]) Kk rfl rfl rfl) (dX rfl T.b_range (aJ (aG 1) aE)) (λ_ _ _ _=>eI) (λ_ _ _ _=>(bQ FQ8 (hr.mono yd) (aJ (bQ FQ4 (hr.mono yd) (aJ (aG 1) (aJ aD aE))) (aJ aD aE))))) aE)))
  (aL (bL (i:=3) WI.nd rfl (Or.inl rfl) (bQ FQ1 (hr.mono yd) (aJ (aG 2) aE)))
  (aL (eP PassesOwn.never rfl (fF (eR (aJ (aG 3) (aJ (bQ FQ8 (hr.mono yd) (aJ (bQ FQ4 (hr.mono yd) (aJ (aG 0) (aJ aD aE))) (aJ aD aE))) (aJ (dZ (aJ aD (aJ aD aE))) (aJ (dZ (aJ aD (aJ aD aE))) aE)))))) (cW (i:=4) WI.nd rfl (Or.inl rfl)) (aL (bL (i:=5) WI.nd rfl (Or.inl rfl) (lP QW (bT dC (aW aR (aG 3) aD (λ_ _=>rfl)) (aW aR (aG 4) aD (λ_ _=>rfl))) (bT dC (aW aR (aG 4) aD (λ_ _=>rfl)) (aW aR (aG 3) aD (λ_ _=>rfl))) (nomark _)))
  (bA (mI (fW vN (eU (nR hr.gd hr.units) (by rfl) T.b_repr Kk (aJ (bQ FQ20 (hr.mono yd) (aJ (aG 4) (aJ (aG 2) aE))) aE)) (eU (nR hr.gd hr.units) (by rfl) T.b_repr Kk (aJ (aG 5) aE)) (nomark _)) (bA (cH rY)) gX))))
  (aL (bL (i:=6) WI.nd rfl (Or.inl rfl) (bQ FQ8 (hr.mono yd) (aJ (bT qY (bT dC (aW aR (aG 3) aD (λ_ _=>rfl)) aD) aD) (aJ (bT dC (aW aR (aG 3) aD (λ_ _=>rfl)) aD) aE))))
  (bA (cH (WN (lP zJ (aW aR (aG 3) aD (λ_ _=>rfl)) aD (nomark _)) (IL (lP UO (bQ FQ20 (hr.mono yd) (aJ (aG 6) (aJ (aG 2) aE))) rY (nomark _)))))))))),?_⟩
 refine ⟨_,rfl,_,rfl,Oo,Oo,?_⟩;refine AL (bY.like p L) FA (λ_ y H'=>∃q:Rat,cB H' (eQ (cG q)) y/\Qn 12 1 q/\0<=q/\q<=1) (λ_ y H1 H2 s ⟨q,h1,h2⟩=>⟨q,h1.flat s (cF _),h2⟩) Oo (λi H' Q' hi F' s' k'=>?_) (λD ys H1 hD e1 F1 b1 hy hr1=>?_)
 ·refine ⟨_,rfl,?_⟩;refine dB F' yd Kk λx H2 x0 x1 F2 b2=>?_;refine gS yd Kk λq3 H3 hq3 e3 s3=>?_;obtain ⟨q,eq,h1,h2,h3⟩:=yM x0 x1;rw [eq] at e3;exact k' _ H3 (F2.same s3) (b2.trans s3.but) ⟨q,dU e3,h1,h2,h3⟩
 refine ⟨D,ys,rfl,.inl ⟨fE.of e1,λl2 hl2=>?_⟩⟩;have s2:=aQ.upd (o:=.tup ys) hl2;have e2:(upd H1 l2 (.tup ys)) l2=some (.tup ys):=bK;generalize upd H1 l2 (.tup ys)=H2 at s2 e2 ⊢;have F2:=F1.same s2;have B2:aN p H H2:=b1.trans s2.but;have ly:ys.length<=3:=Oo;obtain ⟨xs,lxs,hxs,okx⟩:∃xs:List Rat,xs.length=ys.length/\(∀(i:Nat) (v:V),ys[i]?=some v->∃x,xs[i]?=some x/\cB H2 (eQ (cG x)) v)/\∀x∈xs,Qn 12 1 x/\0<=x/\x<=1:=by
  have all:∀zs:List V,(∀(i:Nat) (y:V),zs[i]?=some y->∃q:Rat,cB H1 (eQ (cG q)) y/\Qn 12 1 q/\0<=q/\q<=1)->∃xs:List Rat,xs.length=zs.length/\(∀(i:Nat) (v:V),zs[i]?=some v->∃x,xs[i]?=some x/\cB H2 (eQ (cG x)) v)/\∀x∈xs,Qn 12 1 x/\0<=x/\x<=1:=λzs=>by
   induction zs with
   | nil=>exact λ_=>⟨[],rfl,λi v h=>by simp at h,λx h=>by cases h⟩
   | cons z zs ih =>
    intro h;obtain ⟨q,h1,h2⟩:=h 0 z rfl;obtain ⟨xs,g1,g2,g3⟩:=ih λi y hy=>h (i+1) y (by simpa using hy);refine ⟨q::xs,by rw [dG,dG,g1],λi v hv=>?_,λx hx=>?_⟩
    ·cases i with
     | zero=>cases (show z=v by simpa using hv);exact ⟨q,rfl,h1.same s2⟩
     | succ i=>exact g2 i v (by simpa using hv)
    ·rcases bE.mp hx with rfl | hx
     ·exact h2
     ·exact g3 x hx
  exact all ys λi y hi=>hr1 i y hi
 have PR:=XB okx Oo;obtain ⟨n0,n1',Pi,pi0,pi1,qi⟩:=PR.part xs.length;rw [bG] at n0 n1' qi;have fqs:∀{H':Hp},cQ H2 H'->WB K H' l2 xs:=λt=>⟨ys,.inr (t _ _ e2),lxs.symm,λi v hv=>by
  obtain ⟨x,h1,h2⟩:=hxs i v hv;exact ⟨x,h1,h2.flat t (cF _)⟩⟩
 refine ⟨_,rfl,?_⟩;refine yX (fqs λ_ _ h=>h) PR λva H3 s3 r3=>?_;have F3:=F2.same s3;obtain ⟨Aq,hAq⟩:∃Aq,Aq=1-pq xs:=⟨_,rfl⟩;rw [<-hAq] at r3;have A0:0<=Aq:=by rw [hAq];grind
 have A1:Aq<=1:=by rw [hAq];grind
 have qA:Qn Pi 1 Aq:=by rw [hAq];exact kG qi pi0 n0 n1'
 have zA:iZ 4000 (cG Aq):=szq qA pi0 pi1;refine ⟨_,rfl,_,rfl,?_⟩;refine dB F3 yd Kk λx H4 x0 x1 F4 b4=>?_;have t4:=F3.t b4;refine gS yd Kk λq5 H5 hq5 e5 s5=>?_;obtain ⟨q,eq,hq1,hq2,hq3⟩:=yM x0 x1;rw [eq] at e5;refine qH (by show 2<=64;decide) λq6 H6 hq6 e6 s6=>?_;refine qH (by show 2<=64;decide) λq7 H7 hq7 e7 s7=>?_;refine sT (by show 4<=64;decide) λBl H8 hBl e8 s8=>?_;have s58:=(s6.trans s7).trans s8;have t38:cQ H3 H8:=(t4.trans s5.t).trans s58.t;have F8:=(F4.same s5).same s58;have B8:aN p H H8:=((B2.trans s3.but).trans b4).trans (s5.trans s58).but;have bnd:∀(i:Nat) (v:V),([va,.ref q5,.ref q6,.ref q7]:List V)[i]?=some v->∃q:Rat,cB H8 (eQ (cG q)) v/\iZ 4000 (cG q):=λi v hv=>by
  match i,hv with
  | 0,hv=>cases hv;exact ⟨Aq,r3.flat t38 (cF _),zA⟩
  | 1,hv=>cases hv;exact ⟨q,dU (s58 _ _ e5),szq hq1 yd Kk⟩
  | 2,hv=>cases hv;exact ⟨0,by rw [jY];exact dU (f:=(0,1)) ((s7.trans s8) _ _ e6),by rw [jY];exact ⟨Kk,Kk⟩⟩
  | 3,hv=>cases hv;exact ⟨1,by rw [jJ];exact dU (f:=(1,1)) (s8 _ _ e7),by rw [jJ];exact ⟨Kk,Kk⟩⟩
  | i+4,hv=>simp at hv
 refine ⟨Bl,rfl,⟨_,fE.of e8⟩,?_⟩;refine iJ (xs:=[va,.ref q5,.ref q6,.ref q7]) (λi σ H'=>∃(o4 o5:Option V),σ=[some (.ref p),some (.int n),some (.ref l2),some va,o4,o5,none]/\aQ H8 H') ⟨_,_,rfl,aQ.refl _⟩ (λi σ H' _ q=>?_) ?_ ?_
 ·obtain ⟨_,_,_,s'⟩:=q;exact fE.of (s' _ _ e8)
 ·rintro i v σ H9 hv ⟨o4,o5,rfl,s9⟩;obtain ⟨bq,rb,zb⟩:=bnd i v hv;obtain ⟨ba,rfl,hba⟩:=mE (rb.same s9);obtain ⟨aa,rfl,haa⟩:=mE ((r3.flat t38 (cF _)).same s9);refine ⟨_,rfl,?_⟩;refine fZ haa rfl ?_;refine ⟨_,rfl,?_⟩;refine fZ hba rfl ?_;refine ⟨_,_,rfl,rfl,lH zA.1 zb.2,?_⟩;refine ⟨_,rfl,?_⟩;refine fZ hba rfl ?_;refine ⟨_,rfl,?_⟩;refine fZ haa rfl ?_;refine ⟨_,_,rfl,rfl,lH zb.1 zA.2,?_⟩;refine ⟨_,_,rfl,rfl,?_⟩;refine ⟨_,rfl,_,rfl,?_⟩;refine tL (fP.new hba) zb (fqs ((s3.t.trans t38).trans s9.t)) PR λb H10 s10 hb=>?_;rw [<-hAq] at hb;refine WF (d:=.bool b) rfl (Sw.bl b) yd yd ?_;refine ⟨_,rfl,?_⟩;have eb:decide ((cG Aq).1*(cG bq).2<=(cG bq).1*(cG Aq).2)=b:=by
   rw [Bool.eq_iff_iff,decide_eq_true_iff,hb,zW]
  show vK [V.bl (decide ((cG Aq).1*(cG bq).2<=(cG bq).1*(cG Aq).2))] _ _;rw [eb];refine WF (d:=.bool b) rfl (Sw.bl b) yd yd ?_;refine ⟨rfl,_,rfl,?_⟩;refine pL (by simp) ?_;exact ⟨_,_,rfl,s9.trans s10⟩
 ·rintro σ H9 ⟨o4,o5,rfl,s9⟩;obtain ⟨aa,rfl,haa⟩:=mE ((r3.flat t38 (cF _)).same s9);have F9:=F8.same s9;have B9:=B8.trans s9.but;obtain ⟨nq,enq,hlt⟩:=OO A0;have zn:iZ 4000 (cG nq):=by
   have hp:=(aY Aq).pos;have hp2:0<(cG Aq).2*999:=Oo;obtain ⟨g1,g2⟩:=qA.fq.num pi0;obtain ⟨h1,h2⟩:=EB (n:=(cG Aq).1*999-1) hp2;rw [enq] at h1 h2;have hnp:=(aY nq).pos;have e4:2^1000*1000<2^4000:=Kk;exact ⟨Oo,Oo⟩
  refine ⟨_,rfl,?_⟩;refine fZ haa rfl ?_;refine ⟨_,_,rfl,rfl,lH zA.1 (show (999:Int).natAbs<2^4000 by decide +kernel),?_⟩;refine ⟨_,_,rfl,rfl,?_⟩;refine ⟨_,rfl,?_⟩;refine fZ haa rfl ?_;refine ⟨_,_,rfl,rfl,lH zA.2 (show (999:Int).natAbs<2^4000 by decide +kernel),?_⟩;refine gS (by have:=(aY Aq).pos;omega) (iE (tF zA.2 (show (999:Int).natAbs<2^4000 by decide +kernel))) λq10 H10 hq10 e10 s10=>?_;rw [enq] at e10;refine ⟨_,rfl,?_⟩;refine fZ (s10 _ _ haa) rfl ?_;refine ⟨rfl,_,rfl,?_⟩;have F10:=F9.same s10;have B10:=B9.trans s10.but;refine tZ (λ_=>k H10 F10 B10) (λ_=>?_);refine ⟨_,rfl,_,rfl,?_⟩;refine tL (fP.new e10) zn (fqs (((s3.t.trans t38).trans s9.t).trans s10.t)) PR λb H11 s11 hb=>?_;rw [<-hAq] at hb;have hbf:b=false:=by
   cases b
   ·rfl
   ·exact absurd (hb.mp rfl) (Rat.not_le.mpr hlt)
  subst hbf;exact ⟨_,_,rfl,rfl,k H11 (F10.same s11) (B10.trans s11.but)⟩
theorem aAt(F:jA K "law" "law" GA f fd)(T:kO K mg c)(FQ6:gB dR P w K mg base 1 "_law_feed" ["_law_script"] (pA K))(FQ4:gB dR P w K mg base 1 "_law_draw" ["_law_feed_here","_law_many"] iH)(FQ7:gB dR P w K mg base 4 "_law_hall" ["_law_feed_here"] mZ)(FQ5:gB dR P w K mg base 4 "_law_dues" ["_law_hall_here"] (pB K))(FQ35:gB dR P w K mg base 6 "together" ["hall","choice"] (iC K))(FQ40:gB dR P w K mg base 7 "worst" ["hall"] (mT K))(FQ3:gB dR P w K mg base 6 "_law_dealt_right" ["_law_feed_here","_law_many"] (lE K)):eJ P w K mg base dR 8 f fd ["_law_script"] (qM K):=by
 refine F.oky CI λvs H Q E h=>?_;unfold qM at h;obtain ⟨a,ns,rfl,hS,hl,k⟩:=h;refine ⟨rfl,λcdv A outer s hr=>?_⟩;refine ⟨_,(aL (bL (i:=1) CI.nd rfl (Or.inl rfl) (bQ FQ6 (hr.mono yd) (aJ (aG 0) aE)))
  (aL (bL (i:=2) CI.nd rfl (Or.inl rfl) (eR (aJ (bQ FQ7 (hr.mono yd) (aJ (aG 1) aE)) (aJ (bQ FQ7 (hr.mono yd) (aJ (aG 1) aE)) aE))))
  (aL (oA (i:=3) (dM.of (psc:=aT GA) (N:=["_law_script","_law_feed_here","_law_halls","_law_dues_here","_law_k","_law_choice","_law_found"]) (N':=["_law_hall_here"]) (js:=[]) Kk rfl rfl rfl) CI.nd rfl rfl (fF (aG 2)) (λ_ _ _ _=>eI) (λ_ _ _ _=>(bQ FQ5 (hr.mono yd) (aJ (aG 0) aE))))
  (aL (eP PassesOwn.never rfl (fF (eR (aJ aD (aJ aD (aJ aD aE))))) (cW (i:=4) CI.nd rfl (Or.inl rfl)) (aL (eP PassesOwn.never rfl (yG (aW aR (aG 3) (aG 4) (λ_ _=>rfl))) (cW (i:=5) CI.nd rfl (Or.inl rfl)) (bA (mI (fW vN (eU (nR hr.gd hr.units) (by rfl) T.b_repr Kk (aJ (bQ FQ35 (hr.mono yd) (aJ (aW aR (aG 2) (aG 4) (λ_ _=>rfl)) (aJ (aG 5) aE))) aE)) (eU (nR hr.gd hr.units) (by rfl) T.b_repr Kk (aJ (lO hr.u1 (aW aR (aG 3) (aG 4) (λ_ _=>rfl)) (aG 5)) aE)) (nomark _)) (bA (cH rY)) gX)))
  (aL (bL (i:=6) CI.nd rfl (Or.inr rfl) (bQ FQ40 (hr.mono yd) (aJ (aW aR (aG 2) (aG 4) (λ_ _=>rfl)) aE)))
  (aL (mI (MK (ID (IF (wK (eU LH (by rfl) T.b_isinstance Kk (aJ (aG 6) (aJ (CY (v:=.ty "tuple") (u:=.type "tuple") rfl T.b_tuple Kk rfl) aE))))) (ID (fW vN (eU gI (by rfl) T.b_len Kk (aJ (aG 6) aE)) aD (nomark _)) (IC (fW (GH hr.u1) (aW aR (aG 6) aD (λ_ _=>rfl)) (aW aR (aG 3) (aG 4) (λ_ _=>rfl)) (by with_unfolding_all rfl)))))) (bA (cH rY)) gX)
  (aL (mI (MK (ID (fW vN (eU (nR hr.gd hr.units) (by rfl) T.b_repr Kk (aJ (aW aR (aG 6) aD (λ_ _=>rfl)) aE)) (eU (nR hr.gd hr.units) (by rfl) T.b_repr Kk (aJ (lO hr.u1 (aW aR (aG 3) (aG 4) (λ_ _=>rfl)) (aW aR (aG 6) aD (λ_ _=>rfl))) aE)) (nomark _)) (IC (IF (wK (eU LH (by rfl) T.b_isinstance Kk (aJ (aW aR (aG 6) aD (λ_ _=>rfl)) (aJ (CY (v:=.ty "tuple") (u:=.type "tuple") rfl T.b_tuple Kk rfl) aE)))))))) (bA (cH rY)) gX)
  (bA (mI (fW (UP (K:=K)) rY (fG (dM.of (psc:=aT GA) (N:=["_law_script","_law_feed_here","_law_halls","_law_dues_here","_law_k","_law_choice","_law_found"]) (N':=["_law_one","_law_found"]) (js:=[6]) Kk rfl rfl rfl) (MM (aW aR (aG 3) (aG 4) (λ_ _=>rfl))) (λ_ _ _ _=>eI) (λ_ _ _ _=>(lP zI (bT dC (aW (eE K) (aG 0) aD (λ_ _=>rfl)) (aW (eE K) (aW (eE K) (aG 1) aD (λ_ _=>rfl)) aD (λ_ _=>rfl))) (bT dC (aW (eE K) (aW (eE K) (aG 1) aD (λ_ _=>rfl)) aD (λ_ _=>rfl)) (aW (eE K) (aG 0) aD (λ_ _=>rfl))) (nomark _)))) (by with_unfolding_all rfl)) (bA (cH rY)) gX)))))))
  (bA (cH (RX (bQ FQ3 (hr.mono yd) (aJ (aG 1) (aJ (bT eS aD (bQ FQ4 (hr.mono yd) (aJ (aG 1) (aJ aD aE)))) aE))) (IL (bQ FQ3 (hr.mono yd) (aJ (aG 1) (aJ aD aE))))))))))),?_⟩
 refine ⟨_,rfl,?_⟩;refine FW hS hl λp L H1 F1 s1 _ _=>?_;refine ⟨_,rfl,?_⟩;refine tK F1 λv1 hs1 H2 F2 b2 r2 ok1=>?_;refine ⟨_,rfl,?_⟩;refine tK F2 λv2 hs2 H3 F3 b3 r3 ok2=>?_;refine sT (by show 2<=64;decide) λHl H4 hHl e4 s4=>?_;have t3:=F2.t b3;have r4a:cB H4 (CA hs1) v1:=(r2.flat t3 (pP _)).same s4;have r4b:cB H4 (CA hs2) v2:=r3.same s4;have F4:=F3.same s4;have hall:∀i:Nat,i<2->∃(v:V) (hs:List HE),([v1,v2]:List V)[i]?=some v/\cB H4 (CA hs) v/\eT hs/\hs=if i=0 then hs1 else hs2:=λi hi=>by
  rcases (show i=0\/i=1 by omega) with rfl | rfl
  ·exact ⟨v1,hs1,rfl,r4a,ok1,rfl⟩
  ·exact ⟨v2,hs2,rfl,r4b,ok2,rfl⟩
 refine ⟨_,rfl,Hl,rfl,⟨_,fE.of e4⟩,?_⟩;refine CF (λi y H'=>∃d kvs,y=.ref d/\H' d=some (.dT kvs)/\MA H' (if i=0 then hs1 else hs2) kvs/\d≠p) (λi y Ha Hb s ⟨d,kvs,h1,h2,h3,h4⟩=>⟨d,kvs,h1,s _ _ h2,h3.t s.t,h4⟩) (λi y Ha Hb D zs hD s ⟨d,kvs,h1,h2,h3,h4⟩=>⟨d,kvs,h1,s.at (λz=>by rw [z,hD] at h2;cases h2) h2,h3.t (s.t hD),h4⟩) (by show 2<=100000;decide) e4 (λi x H' Q' hx s' k'=>?_) (λDd ys H5 hDd e5 s5 hy5 hr5=>?_)
 ·have hi:i<2:=(aH.mp hx).1;obtain ⟨v,hs,hv,rv,okv,ehs⟩:=hall i hi;rw [hv] at hx;cases hx;refine ⟨_,rfl,?_⟩;refine FX (rv.same s') okv λD kvs H6 s6 hD e6 d6=>?_;exact k' _ H6 s6 ⟨D,kvs,rfl,e6,by rw [<-ehs];exact d6,(F4.same s').ne hD⟩
 have F5:=F4.same s5;obtain ⟨y1,y2,eys⟩:∃y1 y2,ys=[y1,y2]:=by
  have:ys.length=2:=hy5
  match ys,this with
  | [y1,y2],_=>exact ⟨y1,y2,rfl⟩
 subst eys;obtain ⟨d1,kv1,rfl,hd1,dp1,nd1⟩:=hr5 0 y1 rfl;obtain ⟨d2,kv2,rfl,hd2,dp2,nd2⟩:=hr5 1 y2 rfl;have dp1:MA H5 hs1 kv1:=dp1;have dp2:MA H5 hs2 kv2:=dp2;have ndp:p≠d1/\p≠d2:=⟨nd1.symm,nd2.symm⟩;refine sT (by show 3<=64;decide) λLl H6 hLl e6 s6=>?_;have s46:=s5.trans s6;have nDd:Dd≠Hl:=λz=>by rw [z,e4] at hDd;cases hDd
 refine ⟨Ll,rfl,⟨_,fE.of e6⟩,?_⟩;refine iJ (xs:=[.int 0,.int 1,.int 0]) (λi σ H'=>∃(o4 o5 o6:Option V),σ=[some (.ref a),some (.ref p),some (.ref Hl),some (.ref Dd),o4,o5,o6]/\bY H' p L/\cQ H6 H'/\H' Hl=some (.lst [v1,v2])/\H' Dd=some (.lst [.ref d1,.ref d2])/\H' Ll=some (.lst [.int 0,.int 1,.int 0])/\DF H' d1 kv1/\DF H' d2 kv2) ⟨_,_,_,rfl,F5.same s6,λ_ _ h=>h,s46 _ _ e4,s6 _ _ e5,e6,.inl (s6 _ _ hd1),.inl (s6 _ _ hd2)⟩ (λi σ H' _ q=>?_) ?_ ?_
 ·obtain ⟨_,_,_,_,_,_,_,_,q,_⟩:=q;exact fE.of q
 ·rintro i u σ H7 hu ⟨o4,o5,o6,rfl,F7,t7,eH7,eD7,eL7,df1,df2⟩;obtain ⟨m,rfl,hm⟩:∃m:Nat,u=.int (m:Int)/\m<2:=by
   match i,hu with
   | 0,hu=>cases hu;exact ⟨0,rfl,yd⟩
   | 1,hu=>cases hu;exact ⟨1,rfl,yd⟩
   | 2,hu=>cases hu;exact ⟨0,rfl,yd⟩
   | i+3,hu=>simp at hu
  obtain ⟨v,hs,d,kv,hv,hdm,rv,okv,dpv,dfv,back⟩:∃(v:V) (hs:List HE) (d:Addr) (kv:List (List eG × V)),([v1,v2]:List V)[m]?=some v/\([.ref d1,.ref d2]:List V)[m]?=some (.ref d)/\cB H7 (CA hs) v/\eT hs/\MA H7 hs kv/\DF H7 d kv/\∀{H8:Hp} (o:Obj),H8 d=some (.frz o (.dT kv))->(∀q u,q≠d->H7 q=some u->H8 q=some u)->DF H8 d1 kv1/\DF H8 d2 kv2:=by
   have t47:cQ H4 H7:=s46.t.trans t7;have t57:cQ H5 H7:=s6.t.trans t7;rcases (show m=0\/m=1 by omega) with rfl | rfl
   ·refine ⟨v1,hs1,d1,kv1,rfl,rfl,r4a.flat t47 (pP _),ok1,dp1.t t57,df1,λo h1 h2=>⟨.inr ⟨o,h1⟩,?_⟩⟩;by_cases z:d2=d1
    ·subst z;rw [hd1] at hd2;cases hd2;exact .inr ⟨o,h1⟩
    ·exact df2.keep λu hu=>h2 _ _ z hu
   ·refine ⟨v2,hs2,d2,kv2,rfl,rfl,r4b.flat t47 (pP _),ok2,dp2.t t57,df2,λo h1 h2=>⟨?_,.inr ⟨o,h1⟩⟩⟩;by_cases z:d1=d2
    ·subst z;rw [hd1] at hd2;cases hd2;exact .inr ⟨o,h1⟩
    ·exact df1.keep λu hu=>h2 _ _ z hu
  obtain ⟨cs,c1,c2,c3⟩:=dpv.ks;refine ⟨_,rfl,_,rfl,?_⟩;refine kC eD7 (cK hdm) ?_;refine rdf dfv λo H8 e8 b8=>?_;have keep8:∀q u,q≠d->H7 q=some u->H8 q=some u:=λq u n h=>b8.at n h;have ndT:∀{q:Addr} {us:List V},H7 q=some (.tup us)->q≠d:=λh z=>by
   rcases dfv with h' | ⟨_,h'⟩ <;> (rw [z,h'] at h;cases h)
  have ndL:∀{q:Addr} {us:List V},H7 q=some (.lst us)->q≠d:=λh z=>by
   rcases dfv with h' | ⟨_,h'⟩ <;> (rw [z,h'] at h;cases h)
  have t8:cQ H7 H8:=λq us h=>keep8 q _ (ndT h) h;have eH8:=keep8 _ _ (ndL eH7) eH7;have eD8:=keep8 _ _ (ndL eD7) eD7;have eL8:=keep8 _ _ (ndL eL7) eL7;obtain ⟨xsF,hxsF⟩:=F7.lst;have F8:bY H8 p L:=by
   obtain ⟨ns,i0,r0,k0,q1,q2,q3⟩:=F7.ex;exact ⟨ns,i0,r0,k0,keep8 _ _ (ndL q1) q1,keep8 _ _ (ndL q2) q2,q3⟩
  have rv8:=rv.flat t8 (pP _);have dp8:=dpv.t t8;have fz8:AZ H8 d kv:=⟨o,e8⟩;refine AB (d:=d) (o:=o) (kvs:=kv) (λj σ H'=>∃(o5 o6:Option V),σ=[some (.ref a),some (.ref p),some (.ref Hl),some (.ref Dd),some (.int (m:Int)),o5,o6]/\aQ H8 H') ⟨_,_,rfl,aQ.refl _⟩ (λj σ H' _ q=>?_) ?_ ?_
  ·obtain ⟨_,_,_,s'⟩:=q;exact s' _ _ e8
  ·rintro j pr b σ H9 hpr hb ⟨o5',o6',rfl,s9⟩;obtain ⟨cc,hcc⟩:∃cc,cs[j]?=some cc:=⟨_,aB (by
    have h1:=congrArg List.length c1;rw [aA,aA] at h1;rw [<-h1];exact (aH.mp hpr).1)⟩
   have epr:pr.1=kT (ci cc):=by
    have h1:(kv.map (·.1))[j]?=(cs.map λc=>kT (ci c))[j]?:=by rw [c1]
    rw [aI,aI,hpr,hcc] at h1;exact cO h1
   have ch:=(c3 cc).mp (aM hcc);rw [epr,oI] at hb;obtain ⟨z1,z4⟩:=CJ okv ch;obtain ⟨vu,hvu,rvu⟩:=dp8.at_ cc ch;refine ⟨_,rfl,_,rfl,?_⟩;refine kC (s9 _ _ eH8) (cK hv) ?_;refine ⟨_,rfl,?_⟩;refine nV (rv8.same s9) (by rw [<-iK];exact hb) okv ch λv10 H10 s10 r10=>?_;refine WF r10 (Sw.fr z1) yd yd ?_;refine ⟨_,rfl,_,rfl,?_⟩;refine kC (s10 _ _ (s9 _ _ eD8)) (cK hdm) ?_;refine ⟨_,rfl,?_⟩;refine KZ ((fz8.same s9).same s10) (s10 _ _ hb) hvu ?_;refine WF ((rvu.same s9).same s10) (Sw.fr z1) yd yd ?_;refine ⟨rfl,_,rfl,?_⟩;refine pL (by unfold qB;simp) ?_;exact ⟨_,_,rfl,s9.trans s10⟩
  ·rintro σ H9 ⟨o5',o6',rfl,s9⟩;refine ⟨_,rfl,_,rfl,?_⟩;refine kC (s9 _ _ eH8) (cK hv) ?_;refine BK (rv8.same s9) okv λw10 y10 b10 ms H10 s10 e10 r10 eb10 ch wst=>?_;have s810:=s9.trans s10;obtain ⟨z1,z4⟩:=CJ okv ch;have rw10:cB H10 (.tuple [eQ (cG (1-pq (wrs hs ms))),mL ms]) (.ref w10):=cB.tup e10 (bF.cons r10 (bF.cons (jE eb10) bF.nil));obtain ⟨vu,hvu,rvu⟩:=dp8.at_ ms ch;have eD10:=s810 _ _ eD8;refine ⟨_,rfl,?_⟩;refine riI rw10 ?_;refine ⟨_,rfl,?_⟩;refine pL rfl ?_;refine ⟨_,rfl,?_⟩;refine MD e10 ?_;refine ⟨rfl,_,rfl,?_⟩;refine pL (by simp) ?_;refine ⟨_,rfl,?_⟩;refine fZ e10 rfl ?_;refine ⟨_,rfl,_,rfl,?_⟩;refine kC eD10 (cK hdm) ?_;refine rind ((fz8.same s810).ct (c:=ci ms) (by rw [iK];exact eb10)) ?_;rw [hvu];refine ⟨_,rfl,?_⟩;refine pL rfl ?_;refine ⟨_,rfl,?_⟩;refine fZ e10 rfl ?_;refine WF r10 (Sw.fr z1) yd yd ?_;refine ⟨_,rfl,_,rfl,?_⟩;refine kC eD10 (cK hdm) ?_;refine ⟨_,rfl,?_⟩;refine fZ e10 rfl ?_;refine KZ (fz8.same s810) (c:=ci ms) (by rw [iK];exact eb10) hvu ?_;refine WF (rvu.same s810) (Sw.fr z1) yd yd ?_;refine ⟨rfl,_,rfl,?_⟩;refine pL (by unfold qB;simp) ?_;refine ⟨_,rfl,?_⟩;refine fZ e10 rfl ?_;refine riI (jE eb10) ?_;refine ⟨_,rfl,?_⟩;refine pL rfl ?_;obtain ⟨ya,rfl,hya⟩:=mE r10;refine ⟨_,rfl,_,rfl,?_⟩;refine kC eD10 (cK hdm) ?_;refine ⟨d,o,kv,rfl,s810 _ _ e8,?_⟩;have lkv:=dpv.len okv;refine GZ (λ_ y _=>y=.bl false) (λ_ _ _ _ _ h=>h) Oo (s810 _ _ e8) (λj pr H' Q' hpr s' k'=>?_) (λD11 ys11 H11 hD11 e11 s11 hy11 hr11=>?_)
   ·obtain ⟨cc,hcc⟩:∃cc,cs[j]?=some cc:=⟨_,aB (by
     have h1:=congrArg List.length c1;rw [aA,aA] at h1;rw [<-h1];exact (aH.mp hpr).1)⟩
    have epr:pr.1=kT (ci cc):=by
     have h1:(kv.map (·.1))[j]?=(cs.map λc=>kT (ci c))[j]?:=by rw [c1]
     rw [aI,aI,hpr,hcc] at h1;exact cO h1
    have ch':=(c3 cc).mp (aM hcc);obtain ⟨vu',hvu',rvu'⟩:=dp8.at_ cc ch';obtain ⟨z1',z4'⟩:=CJ okv ch';have ev:pr.2=vu':=by
     have h1:=yK (kvs:=kv) (p:=pr) (by rw [c1];exact vO c2) (aM hpr);rw [epr,hvu'] at h1;exact (cO h1).symm
    rw [ev];obtain ⟨ua,rfl,hua⟩:=mE ((rvu'.same s810).same s');have hle:=VU okv ch' ch wst;refine ⟨_,rfl,?_⟩;refine fZ hua rfl ?_;refine ⟨_,rfl,?_⟩;refine fZ (s' _ _ e10) rfl ?_;refine fZ (s' _ _ hya) rfl ?_;refine ⟨_,_,rfl,rfl,lH z4'.1 z4.2,?_⟩;refine ⟨_,rfl,?_⟩;refine fZ (s' _ _ e10) rfl ?_;refine fZ (s' _ _ hya) rfl ?_;refine ⟨_,rfl,?_⟩;refine fZ hua rfl ?_;refine ⟨_,_,rfl,rfl,lH z4.1 z4'.2,?_⟩;refine ⟨_,_,rfl,rfl,?_⟩;refine k' _ H' (aQ.refl _) ?_;show V.bl (decide ((cG (qB hs cc)).1*(cG (qB hs ms)).2 > (cG (qB hs ms)).1*(cG (qB hs cc)).2))=V.bl false;rw [dF (by have:=zW.mpr hle;omega)]
   ·have eys:ys11=List.replicate ys11.length (.bl false):=List.eq_replicate_iff.mpr ⟨rfl,λy hy=>by
     obtain ⟨j,hj⟩:=cI.mp hy;exact hr11 j y hj⟩
    have hno:ZE (.bl true) ys11=false/\ys11.all pV=true:=by
     rw [eys];generalize ys11.length=n
     induction n with
     | zero=>exact ⟨rfl,rfl⟩
     | succ n ih=>rw [List.replicate_succ];exact ⟨by unfold ZE at ih ⊢;rw [List.any_cons,ih.1];rfl,by rw [List.all_cons,ih.2];rfl⟩
    refine ⟨D11,ys11,rfl,.inl (fE.of e11),rfl,hno.2,?_⟩;refine ⟨_,rfl,?_⟩;refine pL (by rw [hno.1];rfl) ?_;have s811:=s810.trans s11;obtain ⟨df1',df2'⟩:=back (H8:=H11) o (s811 _ _ e8) λq u n h=>s811 _ _ (keep8 q u n h);exact ⟨_,_,_,rfl,F8.same s811,(t7.trans t8).trans s811.t,s811 _ _ eH8,s811 _ _ eD8,s811 _ _ eL8,df1',df2'⟩
 ·rintro σ H7 ⟨o4,o5,o6,rfl,F7,t7,eH7,eD7,eL7,df1,df2⟩;refine ⟨_,rfl,_,rfl,?_⟩;refine dB F7 yd Kk λx H8 x0 x1 F8 b8=>?_;refine ⟨_,_,rfl,rfl,?_⟩;refine sB F8 Oo Oo λH9 F9 b9=>?_;refine ⟨_,rfl,?_⟩;refine aAM ?_;refine ⟨_,rfl,?_⟩;refine sB F9 yd yd λH10 F10 b10=>?_;exact k H10
end
theorem aAK{α:Type}{us:List α}(h:us.length=1):∃a,us=[a]:=match us,h with | [a],_=>⟨a,rfl⟩
theorem aAJ{α:Type}{us:List α}(h:us.length=2):∃a b,us=[a,b]:=match us,h with | [a,b],_=>⟨a,b,rfl⟩
theorem aAI{α:Type}{us:List α}(h:us.length=3):∃a b c,us=[a,b,c]:=match us,h with | [a,b,c],_=>⟨a,b,c,rfl⟩
theorem aAH{α:Type}{us:List α}(h:us.length=4):∃a b c d,us=[a,b,c,d]:=match us,h with | [a,b,c,d],_=>⟨a,b,c,d,rfl⟩
theorem VI{K:PySem.W.Frag}{x q:Str}{st:Stmt}{f:Addr}{fd:FuncData}(F:jA K x q st f fd)(P:FuncData->Prop)(h:P fd):∃fd,P fd:=⟨fd,h⟩
inductive Dn (K:PySem.W.Frag) (n:Str) (st:Stmt):Prop
 | mk {f:Addr} {oc:Value} {od:Option Addr} {kV dc pm:Value} {an:Option Addr} {cd ct:Value} {sl:Array (Option Value)} (a:PySem.W.nsIn K mainGlobals n=some (some (.ref f))) (l:K.lookup f=some ⟨oc,od,.func (PySem.W.fnOf n n (nN st) (jK st) (aT st) .none kV dc pm an cd ct),sl⟩) (c:PySem.W.codeIn K cd n=true) (k:PySem.W.keepIn K (.ref f)=true):Dn K n st
theorem fnd(l:PySem.W.OpenLaw)(w:World){K:PySem.W.Frag}{h:Heap}{mg:Str->Option Value}(X:K.In h)(G:h.Ns mainGlobals mg)(base:Heap){n:Str}{st:Stmt}{L:Nat}{ps:List Str}{sp:Sp}(d:Dn K n st)(o:∀{f:Addr}{fd:FuncData},jA K n n st f fd->eJ l.prog w K mg base dR L f fd ps sp)(b:∀(kV doc pm:Value) (an:Option Addr) (cdv ct:Value) (us:List Value),us.length=ps.length->bindArgs (PySem.W.fnOf n n (nN st) (jK st) (aT st) .none kV doc pm an cdv ct) ⟨us,[]⟩=pure (ps.zip us):=by intro _ _ _ _ _ _ us hl;first | (obtain ⟨_,rfl⟩:=aAK hl;rfl) | (obtain ⟨_,_,rfl⟩:=aAJ hl;rfl) | (obtain ⟨_,_,_,rfl⟩:=aAI hl;rfl) | (obtain ⟨_,_,_,_,rfl⟩:=aAH hl;rfl) | (obtain ⟨_,_,_,_,_,rfl⟩:=len5 hl;rfl)):gB dR l.prog w K mg base L n ps sp:=by
 obtain ⟨a,l',c,k⟩:=d;exact ⟨_,_,o (CB l' c k),PySem.W.mg_of X G a,k,(CB l' c k).binds b⟩
open PySem.W (nsIn fnOf codeIn keepIn mg_of mg_none_of) in
theorem VV{l:PySem.W.OpenLaw}{w:World}{K:PySem.W.Frag}{h:Heap}{mg:Str->Option Value}{fa:Addr}{c_ONE:Addr}{c_NOUGHT:Addr}{tok_LOOKS_ON:Tok}(X:K.In h)(G:h.Ns mainGlobals mg)(hfa:mg "law" = some (.ref fa))
  (u_ONE:nsIn K mainGlobals "ONE" = some (some (.ref c_ONE)))
  (u_NOUGHT:nsIn K mainGlobals "NOUGHT" = some (some (.ref c_NOUGHT)))
  (u_LOOKS_ON:nsIn K mainGlobals "LOOKS_ON" = some (some (.int 0 tok_LOOKS_ON)))
  (o_ONE:oJ K c_ONE [1,1]=true)
  (o_NOUGHT:oJ K c_NOUGHT [0,1]=true)
  (d0:Dn K "_law_low" ZQ)
  (d1:Dn K "_law_feed" ZS)
  (d2:Dn K "_law_draw" ZT)
  (d3:Dn K "_law_shares" GB)
  (d4:Dn K "_law_trial" NG)
  (d5:Dn K "common_divisor" SZ)
  (d6:Dn K "plus" SS)
  (d7:Dn K "times" SN)
  (d8:Dn K "less" SV)
  (d9:Dn K "total" SM)
  (d10:Dn K "ways_of" SK)
  (d11:Dn K "way_shares" SL)
  (d12:Dn K "power" SR)
  (d13:Dn K "weight" SJ)
  (d14:Dn K "one_more" ST)
  (d15:Dn K "ones_more" NB)
  (d16:Dn K "looks_on" SU)
  (d17:Dn K "noughts" NC)
  (d18:Dn K "rule_faces" SQ)
  (d19:Dn K "amounts" NE)
  (d20:Dn K "comings" TB)
  (d21:Dn K "said_of" NA)
  (d22:Dn K "wrong" SI)
  (d23:Dn K "_law_more" ZP)
  (d24:Dn K "_law_says" JH)
  (d25:Dn K "_law_rule" NH)
  (d26:Dn K "_law_add" ZV)
  (d27:Dn K "_law_mul" TC)
  (d28:Dn K "_law_walk" NF)
  (d29:Dn K "some_of" SO)
  (d30:Dn K "_law_any" ZU)
  (d31:Dn K "is_less" SX)
  (d32:Dn K "least_place" SW)
  (d33:Dn K "together" MZ)
  (d34:Dn K "greatest_place" ND)
  (d35:Dn K "worst" MY)
  (d36:Dn K "is_dealt" SY)
  (d37:Dn K "_law_hall" ZR)
  (d38:Dn K "_law_choices" YW)
  (d39:Dn K "_law_dues" WE)
  (d40:Dn K "_law_dealt_right" YV)
  (d41:Dn K "law" GA) (z0:nsIn K mainGlobals "list" = some none) (z1:nsIn K mainGlobals "len" = some none) (z2:nsIn K mainGlobals "abs" = some none) (z3:nsIn K mainGlobals "range" = some none) (z4:nsIn K mainGlobals "sum" = some none) (z5:nsIn K mainGlobals "int" = some none) (z6:nsIn K mainGlobals "sorted" = some none) (z7:nsIn K mainGlobals "dict" = some none) (z8:nsIn K mainGlobals "isinstance" = some none) (z9:nsIn K mainGlobals "tuple" = some none) (z10:nsIn K mainGlobals "zip" = some none) (z11:nsIn K mainGlobals "repr" = some none) :
  ∃fd:FuncData,(∀(s:Shared) (v:Value),BindsTo s fd ⟨[v],[]⟩ [("_law_script",v)])/\∀base:Heap,K.In base->base.Ns mainGlobals mg->eJ l.prog w K mg base dR 8 fa fd ["_law_script"] (qM K):=by
 obtain ⟨a41,l41,c41,k41⟩:=d41;have e:=hfa.symm.trans (mg_of X G a41);cases e;generalize hcl:(⟨c_ONE,c_NOUGHT,tok_LOOKS_ON⟩:Cl)=c;have T:kO K mg c:=by rw [<-hcl];exact ⟨mg_none_of X G z0,mg_none_of X G z1,mg_none_of X G z2,mg_none_of X G z3,mg_none_of X G z4,mg_none_of X G z5,mg_none_of X G z6,mg_none_of X G z7,mg_none_of X G z8,mg_none_of X G z9,mg_none_of X G z10,mg_none_of X G z11,mg_of X G u_ONE,mg_of X G u_NOUGHT,mg_of X G u_LOOKS_ON,o_ONE,o_NOUGHT⟩
 have F41:=CB (st:=GA) l41 c41 k41;refine VI F41 _ ⟨λs v=>.of_eq rfl,λbase _ _=>?_⟩;have N:=@fnd l w K h mg X G base;have GQ8:=N d0 λF=>oQ8 F T;have GQ6:=N d1 λF=>oQ6 F T;have GQ4:=N d2 λF=>oQ4 F T;have GQ13:=N d3 λF=>aAC F T GQ4 GQ8;have GQ14:=N d4 λF=>aAB F T GQ4 GQ13;have GQ18:=N d5 λF=>aAx F T;have GQ29:=N d6 λF=>aAm F T GQ18;have GQ34:=N d7 λF=>aAh F T GQ18;have GQ24:=N d8 λF=>aAr F T GQ29;have GQ36:=N d9 λF=>aAf F T GQ29;have GQ38:=N d10 λF=>aAd F T;have GQ37:=N d11 λF=>aAe F T;have GQ30:=N d12 λF=>aAl F T;have GQ39:=N d13 λF=>aAc F T GQ37 GQ34 GQ30;have GQ27:=N d14 λF=>aAo F T;have GQ28:=N d15 λF=>aAn F T GQ27;have GQ25:=N d16 λF=>aAq F T;have GQ26:=N d17 λF=>aAp F T;have GQ31:=N d18 λF=>aAk F T;have GQ16:=N d19 λF=>aAz F T GQ26 GQ31 GQ25 GQ34 GQ28 GQ29;have GQ17:=N d20 λF=>aAy F T GQ16 GQ34 GQ39;have GQ32:=N d21 λF=>aAj F T GQ36 GQ34;have GQ41:=N d22 λF=>aAa F T GQ38 GQ24 GQ32 GQ17;have GQ9:=N d23 λF=>oQ9 F T;have GQ12:=N d24 λF=>aAD F T GQ4 GQ8;have GQ11:=N d25 λF=>aAE F T GQ4 GQ12 GQ9;have GQ0:=N d26 λF=>oQ0 F T GQ8;have GQ10:=N d27 λF=>aAF F T GQ8;have GQ15:=N d28 λF=>aAA F T GQ10 GQ0 GQ9;have GQ33:=N d29 λF=>aAi F T GQ34 GQ24;have GQ1:=N d30 λF=>oQ1 F T GQ10 GQ8;have GQ21:=N d31 λF=>aAu F T;have GQ23:=N d32 λF=>aAs F T GQ21;have GQ35:=N d33 λF=>aAg F T GQ33 GQ41;have GQ19:=N d34 λF=>aAw F T GQ23 GQ24;have GQ40:=N d35 λF=>aAb F T GQ19 GQ41 GQ35
 have GQ20:=N d36 λF=>aAv F T GQ21 GQ33;have GQ7:=N d37 λF=>oQ7 F T GQ4 GQ14 GQ11;have GQ2:=N d38 λF=>oQ2 F T;have GQ5:=N d39 λF=>oQ5 F T GQ15 GQ8 GQ2 GQ1;have GQ3:=N d40 λF=>oQ3 F T GQ8 GQ4 GQ1 GQ20;exact aAt F41 T GQ6 GQ4 GQ7 GQ5 GQ35 GQ40 GQ3
end Kw
namespace PySem.W.Fast
def tw7030221931017900818 := ()
def tw5449541910498509658 := ()
def tw17679470083621027735 := ()
def tw7473174810367484193 := ()
def tw10090682764101457670 := ()
def tw15845089196837690169 := ()
def tw18223270020560020597 := ()
def tw17485391754897797585 := ()
def tw12926947111739502648 := ()
def tw8801762491635091341 := ()
def tw7014050881763396603 := ()
def tw11352797154336722494 := ()
def tw4941632159194788554 := ()
def tw11028900870327342549 := ()
def tw13145764952647845494 := ()
def tw244785678856657631 := ()
def tw15147641381766692647 := ()
def tw11682268323801099654 := ()
def tw8720401569613730780 := ()
def tw10784042633432463880 := ()
def tw14680099451028288935 := ()
def tw16711878309838687281 := ()
def tw6502117719926785703 := ()
def tw2487768231089839518 := ()
end PySem.W.Fast
open PySem PySem.W PyProof.Rows
set_option maxRecDepth 100000 in
set_option maxHeartbeats 0 in
theorem PySem.Challenge.cw_earlystop_k75_together_and_worst_holds : PySem.Challenge.rw_earlystop_k75_together_and_worst.Holds := by
  w_on;o_law;k_head;(case hw=>w_witness2)
  k_fill
  refine L2.IN (l:=PySem.Challenge.rw_earlystop_k75_together_and_worst) (n:=63) (k:=8) (x := "_law_script") (CX:=L2.dR) (sp:=λK=>Kw.qM K) rfl yd rfl ⟨rfl,yd,yd,rfl⟩ (λw h Y=>PySem.W.kIn_of Y) ?F (λK H a ns hl _ hS=>Kw.JC hS hl) (λ_ _ _ _ z=>z)
  case F =>
    intro w mg fa h KX G hmg
    refine' Kw.VV KX G hmg ?u_ONE ?u_NOUGHT ?u_LOOKS_ON ?o_ONE ?o_NOUGHT ?d0 ?d1 ?d2 ?d3 ?d4 ?d5 ?d6 ?d7 ?d8 ?d9 ?d10 ?d11 ?d12 ?d13 ?d14 ?d15 ?d16 ?d17 ?d18 ?d19 ?d20 ?d21 ?d22 ?d23 ?d24 ?d25 ?d26 ?d27 ?d28 ?d29 ?d30 ?d31 ?d32 ?d33 ?d34 ?d35 ?d36 ?d37 ?d38 ?d39 ?d40 ?d41 ?z0 ?z1 ?z2 ?z3 ?z4 ?z5 ?z6 ?z7 ?z8 ?z9 ?z10 ?z11
    (case u_ONE|u_NOUGHT|u_LOOKS_ON|z0|z1|z2|z3|z4|z5|z6|z7|z8|z9|z10|z11=>k_is);(case d0|d1|d2|d3|d4|d5|d6|d7|d8|d9|d10|d11|d12|d13|d14|d15|d16|d17|d18|d19|d20|d21|d22|d23|d24|d25|d26|d27|d28|d29|d30|d31|d32|d33|d34|d35|d36|d37|d38|d39|d40|d41=>refine' Kw.Dn.mk ?a ?l ?c ?k;(case a=>k_is);(case l=>k_is);(case c=>k_is);(case k=>k_is));(case o_ONE=>kernel_rfl);(case o_NOUGHT=>kernel_rfl)
