import PyProof.Rows.All
import Wide.All
import OpenK.AllK
import Wide.FinOn
import Lean
import PyProof.EqAt
import PyProof.EqKinds
import PyProof.TupleCall
import KE.IntBitsLaws
import PyProof.ZipIter
import PyProof.ListMulRoad
import PyProof.AutoListH
import PyProof.Rows.SeqMore
import PyProof.Rows.SumAny
import PyProof.SliceStr2
import PyProof.WalksMore
import KE.KSortTup
import PyProof.AttrMissHeap
import PyProof.TupleIter
import KE.KDictOf
import PyProof.DictWalks
import PyProof.DictValues
import KE.KDictList
import PyProof.Rows.MinMaxN
import PyProof.Rows.TupDisplay
import PyProof.DictTruth
import PyProof.Rows.SortRev
import PyProof.Rows.CallKwBuiltin
import PyProof.EnumMake
import PyProof.Rows.StrJoin2
import PyProof.StrBlockG
import PyProof.Rows.Digits
import PyProof.Rows.StrOr
import PyProof.StrCalls2
import PyProof.StrBlock2
import KE.KIntText
import KE.KRevIter
import KE.LcSums
import PyProof.StationsW
import PyProof.Rows.CatchBare
import OpenK.KRaise
import KE.KIsAll
import OpenK.KOwn
import PyProof.ExcInit
import PySem.Challenge.RW_earlystop_k30_whole_mixed_shares
set_option Elab.async false
set_option linter.all false
set_option maxHeartbeats 0
set_option maxRecDepth 100000
theorem Oo{p:Prop}(h:p:=by omega):p:=h
theorem Dd{p:Prop}(h:p:=by decide):p:=h
theorem Kk{p:Prop}(h:p:=by decide +kernel):p:=h
namespace PySem
abbrev aA:=@List.length_map
abbrev aB:=@Heap.get?_push_of_some
abbrev aC:=@List.getElem?_eq_getElem
abbrev aD:=@List.mem_map
abbrev aH:=@List.getElem?_map
abbrev aJ:=@Nat.le_refl
abbrev aL:=@List.mem_cons_self
abbrev aM:=@List.mem_cons_of_mem
abbrev aN:=@List.getElem?_eq_some_iff
abbrev aO:=@Nat.pow_le_pow_right
abbrev aP:=@List.map_cons
abbrev aQ:=@Nat.lt_of_le_of_lt
abbrev aT:=@List.getD_eq_getElem?_getD
abbrev aU:=@Heap.get?_push_size
abbrev aV:=@Nat.lt_of_lt_of_le
abbrev aW:=@Nat.le_trans
abbrev aX:=@List.length_append
abbrev aY:=@Heap.lt_size
abbrev aZ:=@List.mem_of_getElem?
abbrev bA:=@List.mem_cons
abbrev bC:=@List.size_toArray
abbrev bH:=@List.length_range
abbrev bJ:=@List.getElem?_append_left
abbrev bL:=@List.mem_append_right
abbrev bM:=@List.mem_singleton
abbrev bO:=@List.map_append
abbrev bP:=@List.getElem?_range
abbrev bS:=@Bool.false_ne_true
abbrev bU:=@List.length_replicate
abbrev cB:=@Classical.byContradiction
abbrev cC:=@Nat.mul_le_mul_right
abbrev cG:=@Nat.lt_irrefl
abbrev cH:=@List.length_take
abbrev cI:=@decide_eq_false
abbrev cJ:=@List.mem_append_left
abbrev cK:=@Nat.ne_of_lt
abbrev cL:=@Rat.mul_nonneg
abbrev cM:=@Nat.zero_le
abbrev cN:=@List.getElem?_append_right
abbrev cP:=@List.take_length
abbrev cS:=@List.length_cons
abbrev cT:=@List.mem_append
abbrev cV:=@decide_eq_true
abbrev dC:=@List.mem_range
abbrev dI:=@List.getElem?_eq_none
abbrev dP:=@Bool.and_eq_true
abbrev dQ:=@Nat.mul_le_mul_left
abbrev dR:=@List.map_congr_left
abbrev dX:=@Option.some.inj
abbrev dY:=@List.mem_filter
abbrev eG:=@Heap.size_push
abbrev fI:=@List.take_add_one
abbrev fZ:=@Int.natAbs_mul
abbrev gA:=@List.mem_iff_getElem?
abbrev iA:=@Heap.get?_update_ne
abbrev kR:=@Nat.mul_pos
end PySem
open PySem
namespace L2
open PySem PySem.Spec PyProof.Rows
abbrev dS:=Sum Int Str
def xQ:dS->Value->Bool
 | .inl k,v=>Value.isInt k v
 | .inr x,v=>Value.isStrOf x v
def aCF(w:World):dS->Int
 | .inl k=>hashInt k
 | .inr x=>hashStr w x
theorem fH:∀{k:dS}{v:Value},xQ k v=true->(∃i t,k=Sum.inl i/\v=Value.int i t)\/(∃x t,k=Sum.inr x/\v=Value.str x t)
 | .inl i,v,h=>by
  obtain ⟨t,e⟩:=Value.isInt_shape (k:=i) (v:=v) h;exact .inl ⟨i,t,rfl,e⟩
 | .inr x,v,h=>by
  obtain ⟨t,e⟩:=Value.isStrOf_shape (x:=x) (v:=v) h;exact .inr ⟨x,t,rfl,e⟩
theorem IZ(i:Int)(t:Tok):xQ (.inl i) (.int i t)=true:=by simp [xQ,Value.isInt]
theorem IY(x:Str)(t:Tok):xQ (.inr x) (.str x t)=true:=by simp [xQ,Value.isStrOf]
theorem YS(a b:Int):decide ((Sum.inl a:dS)=Sum.inl b)=(a == b):=by
 by_cases e:a=b
 ·subst e;simp
 ·have h:¬(Sum.inl a:dS)=Sum.inl b:=λq=>e (Sum.inl.inj q);rw [cI h];exact (beq_eq_false_iff_ne.mpr e).symm
theorem YO(a b:Str):decide ((Sum.inr a:dS)=Sum.inr b)=decide (a=b):=by
 by_cases e:a=b
 ·subst e;simp
 ·have h:¬(Sum.inr a:dS)=Sum.inr b:=λq=>e (Sum.inr.inj q);rw [cI h,cI e]
theorem YR(a:Int)(b:Str):decide ((Sum.inl a:dS)=Sum.inr b)=false:=cI (λq=>nomatch q)
theorem YQ(a:Str)(b:Int):decide ((Sum.inr a:dS)=Sum.inl b)=false:=cI (λq=>nomatch q)
def dU(prog:Program)(w:World):PySem.KeyKind prog w dS where
 is:=xQ
 hash:=aCF w
 inj:=λv a b ha hb=>by
  rcases fH ha with ⟨i,t,rfl,rfl⟩ | ⟨x,t,rfl,rfl⟩
  ·rcases fH hb with ⟨j,u,rfl,e⟩ | ⟨y,u,rfl,e⟩
   ·injection e with e1 _;rw [e1]
   ·exact nomatch e
  ·rcases fH hb with ⟨j,u,rfl,e⟩ | ⟨y,u,rfl,e⟩
   ·exact nomatch e
   ·injection e with e1 _;rw [e1]
 byValue:=λk v h=>by
  rcases fH h with ⟨i,t,rfl,rfl⟩ | ⟨x,t,rfl,rfl⟩ <;> rfl
 pyHash:=λhv h=>by
  rcases fH hv with ⟨i,t,rfl,rfl⟩ | ⟨x,t,rfl,rfl⟩
  ·exact wpAny_pyHash_int h
  ·exact wpAny_pyHash_str h
 eqBool:=λhu hv h=>by
  rcases fH hu with ⟨i,t,rfl,rfl⟩ | ⟨x,t,rfl,rfl⟩
  ·rcases fH hv with ⟨j,u,rfl,rfl⟩ | ⟨y,u,rfl,rfl⟩
   ·rw [YS] at h;exact wpAny_eqBool_int h
   ·rw [YR] at h;exact SeqAt.EqAt.int_str i t y u _ _ _ _ h
  ·rcases fH hv with ⟨j,u,rfl,rfl⟩ | ⟨y,u,rfl,rfl⟩
   ·rw [YQ] at h;exact SeqAt.EqAt.str_int x t j u _ _ _ _ h
   ·rw [YO] at h;exact wpAny_eqBool_str h
 «strs» := λk x t v h=>by
  rcases fH h with ⟨i,u,rfl,e⟩ | ⟨y,u,rfl,e⟩
  ·exact nomatch e
  ·injection e with e1 _;subst e1;cases v <;> rfl
theorem BZ(prog:Program)(w:World)(i:Int)(t:Tok):(dU prog w).is (.inl i) (.int i t)=true:=IZ i t
theorem BY(prog:Program)(w:World)(x:Str)(t:Tok):(dU prog w).is (.inr x) (.str x t)=true:=IY x t
inductive V where
 | non | bl (b:Bool) | int (i:Int) | str (x:Str) | byt (b:Array UInt8) | flt (b:UInt64) | ref (a:Addr) | ty (n:String)
 deriving DecidableEq
def dO:V->Value->Prop
 | .non,u=>u=Value.none
 | .bl b,u=>u=Value.bool b
 | .int i,u=>∃t,u=Value.int i t
 | .str x,u=>∃t,u=Value.str x t
 | .byt b,u=>∃t,u=Value.bytes b t
 | .flt b,u=>∃t,u=Value.float b t
 | .ref a,u=>u=Value.ref a
 | .ty n,u=>u=Value.type n
abbrev cZ:List V->List Value->Prop:=Paired dO
theorem cZ.length{xs:List V}{us:List Value}(r:cZ xs us):xs.length=us.length:=Paired.length r
theorem cZ.get:∀{xs:List V}{us:List Value}{i:Nat}{x:V},cZ xs us->xs[i]?=some x->∃u,us[i]?=some u/\dO x u
 | _,_,_,_,.nil,e=>by simp at e
 | _,_,0,_,.cons r _,e=>by simp at e;subst e;exact ⟨_,rfl,r⟩
 | _,_,i+1,x,.cons _ t,e=>by
  obtain ⟨u,h1,h2⟩:=cZ.get (i:=i) (x:=x) t (by simpa using e);exact ⟨u,by simpa using h1,h2⟩
theorem cZ.set{x:V}{u:Value}(r:dO x u):∀{xs:List V}{us:List Value}(i:Nat),cZ xs us->cZ (xs.set i x) (us.set i u)
 | _,_,_,.nil=>.nil
 | _,_,0,.cons _ t=>.cons r t
 | _,_,i+1,.cons q t=>.cons q (cZ.set r i t)
theorem cZ.append:∀{xs ys:List V}{us ws:List Value},cZ xs us->cZ ys ws->cZ (xs++ys) (us++ws)
 | _,_,_,_,.nil,s=>s
 | _,_,_,_,.cons r t,s=>.cons r (cZ.append t s)
theorem cZ.take:∀{xs:List V}{us:List Value}(n:Nat),cZ xs us->cZ (xs.take n) (us.take n)
 | _,_,0,_=>.nil
 | _,_,_+1,.nil=>.nil
 | _,_,n+1,.cons r t=>.cons r (cZ.take n t)
theorem cZ.drop:∀{xs:List V}{us:List Value}(n:Nat),cZ xs us->cZ (xs.drop n) (us.drop n)
 | _,_,0,r=>r
 | _,_,_+1,.nil=>.nil
 | _,_,n+1,.cons _ t=>cZ.drop n t
def tM:Option V->Option Value->Prop
 | some v,some u=>dO v u
 | none,none=>True
 | _,_=>False
def KV{κ:Type}:List (κ × V)->List (κ × Value)->Prop:=Paired λ(p:κ × V) (q:κ × Value)=>p.1=q.1/\dO p.2 q.2
def kV:dS->V
 | .inl i=>.int i
 | .inr x=>.str x
inductive HO where
 /-- a list -/
 | lst (xs:List V)
 /-- a tuple (never changes) -/
 | tup (xs:List V)
 /-- a dict whose keys are ints and texts;one whose keys are tuples of ints and texts (the empty one is both) -/
 | dK (kvs:List (dS × V)) | dT (kvs:List (List dS × V))
 /-- a set of ints: its members,its size -/
 | set (S:Int->Bool) (n:Nat)
 /-- an instance of the class at C,its dict at dx,its attributes -/
 | ins (C dx:Addr) (fs:List (Str × V))
 /-- the dict of the instance at x -/
 | own (x:Addr)
 /-- the dict of an exception -/
 | xd (fs:List (Str × V))
 /-- a bound method,f of x -/
 | met (f x:Addr)
 /-- a range object lo,lo+1,.. below hi -/
 | rng (lo hi:Int)
 /-- a thing that is known to the object (the script;a dict while a loop walks it): read,never written while it is so -/
 | frz (o:Obj) (u:HO)
 /-- a code object's table -/
 | tbl (ps:Array Value)
 /-- any other thing,by what is true of its one object (a def of one's own: SetO a S n:=HO.ext λh=>..) -/
 | ext (φ:Heap->Prop)
abbrev Hp:=Addr->Option HO
def upd(H:Hp)(a:Addr)(o:HO):Hp:=λb=>if b=a then some o else H b
theorem bI{H:Hp}{a:Addr}{o:HO}:upd H a o a=some o:=by unfold upd;rw [if_pos rfl]
theorem cU{H:Hp}{a b:Addr}{o:HO}(h:b≠a):upd H a o b=H b:=by unfold upd;rw [if_neg h]
theorem PX{H:Hp}{a:Addr}{o u:HO}:upd (upd H a o) a u=upd H a u:=by
 funext b;unfold upd;split <;> rfl
theorem vH{H:Hp}{a b:Addr}{o u:HO}(h:H a=some o)(h':H b=some u)(d:o≠u):a≠b:=by
 intro e;subst e;rw [h] at h';exact d (dX h')
theorem cR{H:Hp}{a b:Addr}{o:HO}(h:H a=some o)(h':H b=none):a≠b:=by
 intro e;subst e;rw [h] at h';cases h'
section
variable(P:Program)(w:World)
def eU(H:Hp)(h:Heap)(a:Addr):HO->Prop
 | .lst xs=>xs.length<=sizeLine/\∃(its:List Value) (n:Nat),cZ xs its/\h.get? a=some { cls:=.type "list",data:=.seq its.toArray n }
 | .tup xs=>(xs.length<=sizeLine/\∃o,h.get? a=some o/\o.dict=none)/\∃its:List Value,cZ xs its/\IsTup h a its.toArray
 | .dK kvs=>kvs.length<=sizeLine/\(a == sysModules)=false/\∃vs,KV kvs vs/\h.DictOf (dU P w) a vs
 | .dT kvs=>kvs.length<=sizeLine/\(a == sysModules)=false/\∃xs:List (List dS × Addr × Value),
   Paired (λ(p:List dS × V) (q:List dS × Addr × Value)=>p.1=q.1/\H q.2.1=some (.tup (p.1.map kV))/\dO p.2 q.2.2) kvs xs /\
   ∃o es ep,h.get? a=some o/\o.ExactDict/\o.data=.dict es ep/\es.toList=xs.map (entryOfKey (tupleKind (dU P w)))/\(xs.map (·.1)).Nodup
 | .set S n=>h.SetOf (intKind P w) a S n
 | .ins C dx fs=>H dx=some (.own a)/\fs.length<=1000/\dx≠a/\h.get? a=some (PySem.W.instObj C dx) /\
   ∃mA,h.Ns1 dx mA/\(∀f,tM (fs.lookup f) (mA f))/\PySem.Within mA (fs.map (·.1))
 | .own _=>∃o,h.get? a=some o
 | .xd fs=>∃mA,h.Ns1 a mA/\∀f,tM (fs.lookup f) (mA f)
 | .rng lo hi=>∃t u v,h.get? a=some { cls:=.type "range",data:=.fields #[.int lo t,.int hi u,.int 1 v] }
 | .frz o u=>h.get? a=some o/\eU H h a u
 | .tbl ps=>h.get? a=some { cls:=.none,data:=.fields ps }
 | .met f x=>h.get? a=some (PySem.W.methodObj (.ref f) (.ref x))
 | .ext φ=>φ h/\(∃o,h.get? a=some o)/\∀h1 h2:Heap,φ h1->(∀o,h1.get? a=some o->h2.get? a=some o)->φ h2
def nI(H:Hp)(h:Heap):Prop:=∀a o,H a=some o->eU P w H h a o
end
section
variable{P:Program}{w:World}{H H':Hp}{h h':Heap}{a:Addr}{o:HO}
theorem eU.lt(x:eU P w H h a o):a<h.objs.size:=by
 cases o with
 | lst xs=>obtain ⟨_,_,_,_,e⟩:=x;exact aY e
 | tup xs=>obtain ⟨_,_,_,p⟩:=x;exact p.lt
 | dK kvs=>obtain ⟨_,_,_,_,o,_,_,e,_⟩:=x;exact aY e
 | dT kvs=>obtain ⟨_,_,_,_,o,_,_,e,_⟩:=x;exact aY e
 | set S n=>obtain ⟨o,_,_,_,e,_⟩:=x;exact aY e
 | ins C dx fs=>obtain ⟨_,_,_,e,_⟩:=x;exact aY e
 | own y=>obtain ⟨_,e⟩:=x;exact aY e
 | xd fs=>obtain ⟨_,⟨_,_,_,e,_⟩,_⟩:=x;exact aY e
 | rng lo hi=>obtain ⟨_,_,_,e⟩:=x;exact aY e
 | frz ob u=>obtain ⟨e,_⟩:=x;exact aY e
 | tbl ps=>exact aY (show h.get? a=some _ from x)
 | met f y=>exact aY (show h.get? a=some _ from x)
 | ext φ=>obtain ⟨_,⟨_,e⟩,_⟩:=x;exact aY e
theorem Paired.mapP{α β:Type}{F G:α->β->Prop}:∀{l₁:List α}{l₂:List β},Paired F l₁ l₂->(∀a b,F a b->G a b)->Paired G l₁ l₂
 | _,_,.nil,_=>.nil
 | _,_,.cons r t,f=>.cons (f _ _ r) (Paired.mapP t f)
theorem Paired.imp'{α β:Type}{F G:α->β->Prop}(f:∀a b,F a b->G a b){l₁:List α}{l₂:List β}(r:Paired F l₁ l₂):Paired G l₁ l₂:=Paired.mapP r f
theorem eU.stay(x:eU P w H h a o)(k:∀b u,(b=a\/H b=some (.own a))->h.get? b=some u->h'.get? b=some u)
  (ho:∀b,H b=some (.own a)->H' b=some (.own a)) (ht:∀b xs,H b=some (.tup xs)->H' b=some (.tup xs)):eU P w H' h' a o:=by
 induction o with
 | lst xs=>obtain ⟨z,its,n,r,e⟩:=x;exact ⟨z,its,n,r,k _ _ (.inl rfl) e⟩
 | tup xs=>obtain ⟨⟨z,on,en,dn⟩,its,r,ob,e,c⟩:=x;exact ⟨⟨z,on,k _ _ (.inl rfl) en,dn⟩,its,r,ob,k _ _ (.inl rfl) e,c⟩
 | dK kvs=>obtain ⟨z,y,vs,r,ob,es,ep,e,c⟩:=x;exact ⟨z,y,vs,r,ob,es,ep,k _ _ (.inl rfl) e,c⟩
 | dT kvs =>
  obtain ⟨z,y,xs,r,ob,es,ep,e,c⟩:=x;exact ⟨z,y,xs,Paired.mapP r λp q z=>⟨z.1,ht _ _ z.2.1,z.2.2⟩,ob,es,ep,k _ _ (.inl rfl) e,c⟩
 | set S n=>obtain ⟨ob,es,ep,t,e,c⟩:=x;exact ⟨ob,es,ep,t,k _ _ (.inl rfl) e,c⟩
 | ins C dx fs =>
  obtain ⟨d,z,ne,e,mA,⟨od,es,ep,e2,c⟩,r⟩:=x;exact ⟨ho _ d,z,ne,k _ _ (.inl rfl) e,mA,⟨od,es,ep,k _ _ (.inr d) e2,c⟩,r⟩
 | own y=>obtain ⟨ob,e⟩:=x;exact ⟨ob,k _ _ (.inl rfl) e⟩
 | xd fs=>obtain ⟨mA,⟨od,es,ep,e,c⟩,r⟩:=x;exact ⟨mA,⟨od,es,ep,k _ _ (.inl rfl) e,c⟩,r⟩
 | rng lo hi=>obtain ⟨t,u,v,e⟩:=x;exact ⟨t,u,v,k _ _ (.inl rfl) e⟩
 | frz ob u ih=>obtain ⟨e,q⟩:=x;exact ⟨k _ _ (.inl rfl) e,ih q⟩
 | tbl ps =>
  have e:h.get? a=some { cls:=.none,data:=.fields ps }:=x;show h'.get? a=some { cls:=.none,data:=.fields ps };exact k a _ (.inl rfl) e
 | met f y =>
  have e:h.get? a=some (PySem.W.methodObj (.ref f) (.ref y)):=x;show h'.get? a=some (PySem.W.methodObj (.ref f) (.ref y));exact k a _ (.inl rfl) e
 | ext φ=>obtain ⟨p,⟨o,e⟩,st⟩:=x;exact ⟨st _ _ p λo q=>k _ _ (.inl rfl) q,⟨o,k _ _ (.inl rfl) e⟩,st⟩
theorem nI.lt(x:nI P w H h)(e:H a=some o):a<h.objs.size:=(x a o e).lt
theorem nI.fresh(x:nI P w H h)(e:h.objs.size<=a):H a=none:=by
 cases q:H a with
 | none=>rfl
 | some u=>exact absurd (aV (x.lt q) e) (cG _)
theorem nI.kept(x:nI P w H h)(k:∀b u,h.get? b=some u->h'.get? b=some u):nI P w H h':=λa o e =>
 (x a o e).stay (λb u _ q=>k b u q) (λ_ q=>q) λ_ _ q=>q
theorem nI.laid(x:nI P w H h)(k:∀b u,h.get? b=some u->h'.get? b=some u)(hp:h.objs.size<=a)(new:eU P w (upd H a o) h' a o):nI P w (upd H a o) h':=λb u e=>by
 have hn:=x.fresh hp;by_cases hb:b=a
 ·subst hb;rw [bI] at e;cases e;exact new
 ·rw [cU hb] at e;exact (x b u e).stay (λc v _ q=>k c v q) (λc q=>by rw [cU (cR q hn)];exact q) λc xs q=>by rw [cU (cR q hn)];exact q
end
def Rd(H:Hp)(a:Addr)(u:HO):Prop:=H a=some u\/∃o,H a=some (.frz o u)
theorem Rd.ok{P:Program}{w:World}{H:Hp}{h:Heap}{a:Addr}{u:HO}(r:Rd H a u)(x:nI P w H h):eU P w H h a u:=by
 rcases r with r | ⟨o,r⟩
 ·exact x a u r
 ·obtain ⟨_,q⟩:=x a _ r;exact q
def Mut:Option HO->Prop
 | some (.lst _)=>True
 | some (.dK _)=>True
 | some (.dT _)=>True
 | some (.set _ _)=>True
 | some (.ins _ _ _)=>True
 | some (.ext _)=>True
 | _=>False
section
variable{P:Program}{w:World}{H:Hp}{h h':Heap}{x e:Addr}{o':HO}
theorem nI.write(ok:nI P w H h)(mu:Mut (H x))(he:e=x\/H e=some (.own x))(k:∀b u,b≠e->h.get? b=some u->h'.get? b=some u)(heo:∃u,h'.get? e=some u)
  (new:eU P w (upd H x o') h' x o'):nI P w (upd H x o') h':=λb u q=>by
 have nown:∀c y,H c=some (.own y)->c≠x:=λc y r z=>by subst z;rw [r] at mu;exact mu
 have ntup:∀c xs,H c=some (.tup xs)->c≠x:=λc xs r z=>by subst z;rw [r] at mu;exact mu
 by_cases hb:b=x
 ·subst hb;rw [bI] at q;cases q;exact new
 ·rw [cU hb] at q;by_cases hbe:b=e
  ·have q':H b=some (.own x):=by
    rcases he with z | z
    ·exact absurd (hbe.trans z) hb
    ·rw [hbe];exact z
   rw [q] at q';cases q';obtain ⟨v,hv⟩:=heo;exact ⟨v,by rw [hbe];exact hv⟩
  ·refine (ok b u q).stay (λc v hc r=>k c v ?_ r) (λc r=>by rw [cU (nown c b r)];exact r) λc xs r=>by rw [cU (ntup c xs r)];exact r
   rcases hc with rfl | hc
   ·exact hbe
   ·rintro rfl;rcases he with z | z
    ·exact nown c b hc z
    ·rw [hc] at z;cases z;exact hb rfl
end
structure Un(fs ex:List Addr)(H H':Hp)(h h':Heap):Prop where
 keep:∀b o,h.get? b=some o->H b=none->b ∉ fs->b ∉ ex->h'.get? b=some o
 slot:∀b o,h.get? b=some o->H b=none->b∈fs->b ∉ ex->∃sl,h'.get? b=some { o with slots:=sl }
 free:∀b o,h.get? b=some o->H b=none->b ∉ ex->H' b=none
 there:∀b o,h.get? b=some o->b ∉ ex->∃o',h'.get? b=some o'
 tups:∀b xs,H b=some (.tup xs)->H' b=some (.tup xs)
 frzs:∀b o u,H b=some (.frz o u)->H' b=some (.frz o u)
 tbls:∀b ps,H b=some (.tbl ps)->∃more,H' b=some (.tbl (ps++more))
section
variable{fs fs' ex ex':List Addr}{H H1 H2:Hp}{h h1 h2 h':Heap}{a x e:Addr}{o:HO}
theorem Un.any(u:Un fs ex H H1 h h1){b:Addr}{ob:Obj}(q:h.get? b=some ob)(n:H b=none)(hx:b ∉ ex):∃sl,h1.get? b=some { ob with slots:=sl }:=by
 by_cases hb:b∈fs
 ·exact u.slot b ob q n hb hx
 ·exact ⟨ob.slots,u.keep b ob q n hb hx⟩
theorem Un.kept(k:∀b u,h.get? b=some u->h'.get? b=some u):Un fs ex H H h h' :=
 ⟨λb ob q _ _ _=>k b ob q,λb ob q _ _ _=>⟨ob.slots,k b ob q⟩,λ_ _ _ n _=>n,λb ob q _=>⟨ob,k b ob q⟩,λ_ _ q=>q,λ_ _ _ q=>q,λ_ ps q=>⟨#[],by rw [q];simp⟩⟩
theorem Un.refl:Un fs ex H H h h:=Un.kept λ_ _ q=>q
theorem Un.laid(k:∀b u,h.get? b=some u->h'.get? b=some u)(hp:h.objs.size<=a)(hn:H a=none):Un fs ex H (upd H a o) h h' where
 keep:=λb u q _ _ _=>k b u q
 slot:=λb u q _ _ _=>⟨u.slots,k b u q⟩
 free:=λb u q n _=>by rw [cU (cK (aV (aY q) hp))];exact n
 there:=λb u q _=>⟨u,k b u q⟩
 tups:=λb xs q=>by rw [cU (cR q hn)];exact q
 frzs:=λb u xs q=>by rw [cU (cR q hn)];exact q
 tbls:=λb ps q=>⟨#[],by rw [cU (cR q hn),q];simp⟩
theorem Un.write(mu:Mut (H x))(he:e=x\/H e=some (.own x))(k:∀b u,b≠e->h.get? b=some u->h'.get? b=some u)(heo:∃u,h'.get? e=some u):Un fs ex H (upd H x o) h h':=by
 have hx:∀b,H b=none->b≠x:=λb n z=>by subst z;rw [n] at mu;exact mu
 have hb:∀b,H b=none->b≠e:=λb n z=>by
  subst z;rcases he with r | r
  ·exact hx b n r
  ·rw [n] at r;cases r
 have hm:∀b u,H b=some u->¬Mut (some u)->b≠x:=λb u q nm z=>by subst z;rw [q] at mu;exact nm mu
 refine ⟨λb u q n _ _=>k b u (hb b n) q,λb u q n _ _=>⟨u.slots,k b u (hb b n) q⟩,λb u q n _=>by rw [cU (hx b n)];exact n,λb u q _=>?_,
  λb xs q=>by rw [cU (hm b _ q λz=>z)];exact q,λb u xs q=>by rw [cU (hm b _ q λz=>z)];exact q,λb ps q=>⟨#[],by rw [cU (hm b _ q λz=>z),q];simp⟩⟩
 by_cases hbe:b=e
 ·subst hbe;exact heo
 ·exact ⟨u,k b u hbe q⟩
end
def trk(h:Heap)(H:Hp):List Addr:=(List.range h.objs.size).filter λa=>(H a).isSome
def AL(h:Heap)(H:Hp):Heap:=PySem.W.hideAll h (trk h H)
theorem JC(h:Heap)(H:Hp):(AL h H).objs.size=h.objs.size:=PySem.W.hideAll_size _ _
theorem NH{h:Heap}{H:Hp}{b:Addr}{o:Obj}(e:h.get? b=some o)(n:H b=none):(AL h H).get? b=some o :=
 PySem.W.hideAll_get _ e λhm=>by
  have q:(H b).isSome=true:=(dY.mp hm).2;rw [n] at q;simp at q
theorem SE{h:Heap}{H:Hp}{b:Addr}{o:Obj}(e:(AL h H).get? b=some o):h.get? b=some o/\H b=none:=by
 have e':h.get? b=some o:=PySem.W.of_hideAll (trk h H) e;refine ⟨e',?_⟩;cases q:H b with
 | none=>rfl
 | some x =>
  have hm:b∈trk h H:=dY.mpr ⟨dC.mpr (aY e'),by simp [q]⟩;have z:(AL h H).get? b=none:=PySem.W.hideAll_none (trk h H) hm;rw [z] at e;cases e
structure Mod(K:PySem.W.Frag)(mg:Str->Option Value)(base:Heap):Prop where
 kin:K.In base
 glob:base.Ns mainGlobals mg
 blt:∃mb,base.Ns builtinsNs mb/\∀x:Str,x ≠ "__name__" -> mb x=bootBuiltins x
 nolimit:base.NoLimit
/-- the context: a def's body (or a comprehension's block) running. base: fixed through the whole law;s₀,H₀: the entry;outer: the frames whose slots others may change (a def's callers);stack: all frames that run;
   ex: iterators that were made ahead of the entry and are walked here (a comprehension's);fn: the names whose cells were made at the entry (a def: all;a comprehension's block: its own);calm: not within an except suite;pn: pins that every state bears;xe: what is wanted of an exception that leaves the code -/
structure Cx where
 prog:Program
 w:World
 K:PySem.W.Frag
 mg:Str->Option Value
 base:Heap
 A:Around
 N:List Str
 s₀:Shared
 H₀:Hp
 env:Env
 outer:List Env
 stack:List Env
 ex:List Addr
 fn:Str->Bool
 calm:Bool
 pn:List (Addr × Obj)
 xe:Value->Shared->Prop
def frs(l:List Env):List Addr:=l.filterMap (·.frame)
abbrev Cx.fs(X:Cx):List Addr:=frs X.outer
def Vis(sc:Scope)(x:Str):Prop:=sc.names.lookup x=some .local\/sc.names.lookup x=some .cell\/sc.names.lookup x=some .free
def Loc(sc:Scope)(x:Str):Prop:=sc.names.lookup x=some .local\/sc.names.lookup x=some .cell
def aC3(env:Env)(h:Heap)(m:Str->Option Value)(x:Str)(u:Value):Prop :=
 (env.kindOf x=some .local/\m x=some u)\/((env.kindOf x=some .cell\/env.kindOf x=some .free)/\∃c,env.cells.lookup x=some c/\h.IsCell c (some u))
structure Cx.Ok(X:Cx):Prop where
 mod:Mod X.K X.mg X.base
 kind:X.env.scope.kind=.function
 glob:X.env.globals=mainGlobals
 blt:X.env.builtins=builtinsNs
 above:X.s₀.heap.objs.size<=X.env.locals
 inj:∀x y c,X.env.cells.lookup x=some c->X.env.cells.lookup y=some c->x=y
 has:∀x,(X.env.kindOf x=some .cell\/X.env.kindOf x=some .free)->∃c,X.env.cells.lookup x=some c
 cab:∀x c,X.fn x=true->X.env.cells.lookup x=some c->X.s₀.heap.objs.size<=c
 hd:X.calm=true->X.A.handled=none
 frames:X.A.frames=some X.stack
 stk:X.stack=X.outer\/(X.stack=X.env::X.outer/\X.env.frame=some X.env.locals)
 exf:∀b∈X.ex,b≠X.env.locals/\∀x c,X.env.cells.lookup x=some c->c≠b
 bs:∀b o,X.base.get? b=some o->X.s₀.heap.get? b=some o/\X.H₀ b=none
 bsz:X.base.objs.size<=X.s₀.heap.objs.size
 noex:∀b o,X.base.get? b=some o->b ∉ X.ex
 exfs:∀b∈X.ex,b ∉ X.fs
 funs:X.s₀.heap.FunFrames X.base X.outer
 frf:∀b∈X.fs,X.H₀ b=none
structure cF(X:Cx)(pins:List (Addr × Obj))(σ:List (Option V))(H:Hp)(s:Shared):Prop where
 ok:X.Ok
 os:s.os=X.s₀.os
 bare:AllBare s.gens
 base:Un X.fs X.ex X.H₀ H X.s₀.heap s.heap
 loc:∃m,s.heap.Ns X.env.locals m/\∀(i:Nat) (x:Str) (v:V),X.N[i]?=some x->σ[i]?=some (some v)->Vis X.env.scope x->∃u,dO v u/\aC3 X.env s.heap m x u
 cell:∀x c,X.env.cells.lookup x=some c->∃v,s.heap.IsCell c v
 free:H X.env.locals=none
 freeC:∀x c,X.env.cells.lookup x=some c->H c=none
 pin:∀p∈X.pn++pins,s.heap.get? p.1=some p.2/\H p.1=none/\p.1≠X.env.locals/\p.1 ∉ X.fs/\∀v,p.2.data ≠ .cell v
 hok:nI X.prog X.w H s.heap
 len:σ.length=X.N.length
section
variable{X:Cx}{pins:List (Addr × Obj)}{σ:List (Option V)}{H H':Hp}{s:Shared}{h':Heap}
theorem Cx.Ok.nofr(ok:X.Ok){b:Addr}{o:Obj}(e:X.base.get? b=some o):b ∉ X.fs:=λhb=>by
 have:=(ok.funs.mem hb).1;rw [e] at this;cases this
theorem cF.bs(I:cF X pins σ H s):∀b o,X.base.get? b=some o->s.heap.get? b=some o/\H b=none:=λb o e =>
 ⟨I.base.keep b o (I.ok.bs b o e).1 (I.ok.bs b o e).2 (I.ok.nofr e) (I.ok.noex b o e),I.base.free b o (I.ok.bs b o e).1 (I.ok.bs b o e).2 (I.ok.noex b o e)⟩
theorem cF.bk(I:cF X pins σ H s):∀b o,X.base.get? b=some o->s.heap.get? b=some o:=λb o e=>(I.bs b o e).1
theorem cF.mod(I:cF X pins σ H s):Mod X.K X.mg X.base:=I.ok.mod
theorem cF.kIn(I:cF X pins σ H s):X.K.In s.heap:=I.ok.mod.kin.keeps I.bk
theorem cF.lt(I:cF X pins σ H s):X.env.locals<s.heap.objs.size:=let ⟨_,hn,_⟩:=I.loc;hn.lt
theorem cF.sz(I:cF X pins σ H s):X.s₀.heap.objs.size<=s.heap.objs.size:=aW I.ok.above (Nat.le_of_lt I.lt)
theorem cF.nofs(I:cF X pins σ H s){a:Addr}(h:s.heap.objs.size<=a):a ∉ X.fs:=λhb=>by
 obtain ⟨_,o,ho,_⟩:=I.ok.funs.mem hb;exact absurd (aV (aY ho) (aW I.sz h)) (cG _)
theorem cF.cne(I:cF X pins σ H s):∀x c,X.env.cells.lookup x=some c->c≠X.env.locals:=λx c e z=>by
 obtain ⟨v,o,ho,hd⟩:=I.cell x c e;obtain ⟨m,⟨o',es,ep,ho',hd',_⟩,_⟩:=I.loc;rw [z,ho'] at ho;cases ho;rw [hd'] at hd;cases hd
theorem cF.funs(I:cF X pins σ H s):s.heap.FunFrames X.base X.outer:=by
 have all:∀(l:List Env),(∀b∈frs l,b∈X.fs)->X.s₀.heap.FunFrames X.base l->s.heap.FunFrames X.base l:=by
  intro l
  induction l with
  | nil=>intro _ _;trivial
  | cons env r ih =>
   intro hs hl;obtain ⟨hk,⟨L,o,hf,hn,ho,hd⟩,hr⟩:=hl;have hL:L∈X.fs:=hs L (by unfold frs;rw [List.filterMap_cons,hf];exact aL);obtain ⟨sl,e⟩:=I.base.slot L o ho (I.ok.frf L hL) hL λz=>I.ok.exfs L z hL;exact ⟨hk,⟨L,_,hf,hn,e,hd⟩,ih (λb hb=>hs b (by unfold frs;rw [List.filterMap_cons,hf];exact aM _ hb)) hr⟩
 exact all X.outer (λ_ hb=>hb) I.ok.funs
theorem cF.stack(I:cF X pins σ H s):s.heap.FunFrames X.base X.stack:=by
 rcases I.ok.stk with e | ⟨e,hf⟩
 ·rw [e];exact I.funs
 ·rw [e];obtain ⟨m,hn,_⟩:=I.loc;refine .cons (by rw [I.ok.kind];decide) hf hn ?_ I.funs;exact Heap.get?_none_of_le (aW I.ok.bsz I.ok.above)
theorem cF.stkSub(I:cF X pins σ H s):∀b∈frs X.stack,b∈X.env.locals::X.fs:=λb hb=>by
 rcases I.ok.stk with e | ⟨e,hf⟩
 ·rw [e] at hb;exact aM _ hb
 ·rw [e] at hb;unfold frs at hb;rw [List.filterMap_cons,hf] at hb;exact hb
theorem cF.stkFree(I:cF X pins σ H s):∀b∈frs X.stack,H b=none:=λb hb=>by
 rcases bA.mp (I.stkSub b hb) with e | hb
 ·rw [e];exact I.free
 ·obtain ⟨_,o,ho,_⟩:=I.ok.funs.mem hb;exact I.base.free b o ho (I.ok.frf b hb) λz=>I.ok.exfs b z hb
theorem cF.step{g':Array GenState}{t':Nat}{d':Drawn}{ch:List Addr}(I:cF X pins σ H s)
  (hch:∀b∈ch,(b∈X.ex\/X.s₀.heap.objs.size<=b)/\b≠X.env.locals/\(∀x c,X.env.cells.lookup x=some c->c≠b)/\∀p∈X.pn++pins,p.1≠b)
  (keep:∀b o,b≠X.env.locals->b ∉ X.fs->b ∉ ch->s.heap.get? b=some o->H b=none->h'.get? b=some o)
  (slot:∀b o,b≠X.env.locals->b∈X.fs->b ∉ ch->s.heap.get? b=some o->H b=none->∃sl,h'.get? b=some { o with slots:=sl }) (free:∀b o,b ∉ ch->s.heap.get? b=some o->H b=none->H' b=none)
  (there:∀b o,b ∉ ch->s.heap.get? b=some o->∃o',h'.get? b=some o')
  (tups:∀b xs,H b=some (.tup xs)->H' b=some (.tup xs)) (frzs:∀b o u,H b=some (.frz o u)->H' b=some (.frz o u)) (tbls:∀b ps,H b=some (.tbl ps)->∃more,H' b=some (.tbl (ps++more)))
  (ns:∀m,s.heap.Ns X.env.locals m->h'.Ns X.env.locals m) (hok:nI X.prog X.w H' h') (hg:AllBare g') :
  cF X pins σ H' { s with heap:=h',gens:=g',drawn:=d',toks:=t' }:=by
 have neL:∀b o,X.s₀.heap.get? b=some o->b≠X.env.locals:=λb o e=>cK (aV (aY e) I.ok.above);have neC:∀b o,X.s₀.heap.get? b=some o->b ∉ X.ex->b ∉ ch:=λb o e hx hb=>by
  rcases (hch b hb).1 with z | z
  ·exact hx z
  ·exact absurd (aV (aY e) z) (cG _)
 have cellK:∀x c,X.env.cells.lookup x=some c->∀v,s.heap.IsCell c v->h'.IsCell c v:=λx c e v ⟨o,ho,hd⟩=>by
  have nch:c ∉ ch:=λz=>(hch c z).2.2.1 x c e rfl;by_cases hc:c∈X.fs
  ·obtain ⟨sl,q⟩:=slot c o (I.cne x c e) hc nch ho (I.freeC x c e);exact ⟨_,q,hd⟩
  ·exact ⟨o,keep c o (I.cne x c e) hc nch ho (I.freeC x c e),hd⟩
 refine ⟨I.ok,I.os,hg,⟨λb o e n hb hx=>?_,λb o e n hb hx=>?_,λb o e n hx=>?_,λb o e hx=>?_,λb xs e=>tups b xs (I.base.tups b xs e),λb o xs e=>frzs b o xs (I.base.frzs b o xs e),λb ps e=>?_⟩,?_,λx c e=>?_,?_,λx c e=>?_,λp hp=>?_,hok,I.len⟩
 ·exact keep b o (neL b o e) hb (neC b o e hx) (I.base.keep b o e n hb hx) (I.base.free b o e n hx)
 ·obtain ⟨sl,e1⟩:=I.base.slot b o e n hb hx;obtain ⟨sl',e2⟩:=slot b _ (neL b o e) hb (neC b o e hx) e1 (I.base.free b o e n hx);exact ⟨sl',e2⟩
 ·obtain ⟨o',e1⟩:=I.base.there b o e hx;exact free b o' (neC b o e hx) e1 (I.base.free b o e n hx)
 ·obtain ⟨o',e1⟩:=I.base.there b o e hx;exact there b o' (neC b o e hx) e1
 ·obtain ⟨m1,e1⟩:=I.base.tbls b ps e;obtain ⟨m2,e2⟩:=tbls b _ e1;exact ⟨m1++m2,by rw [e2,Array.append_assoc]⟩
 ·obtain ⟨m,hn,hl⟩:=I.loc;refine ⟨m,ns m hn,λi x v e1 e2 e3=>?_⟩;obtain ⟨u,r,l⟩:=hl i x v e1 e2 e3;refine ⟨u,r,?_⟩;rcases l with l | ⟨k,c,e,z⟩
  ·exact .inl l
  ·exact .inr ⟨k,c,e,cellK x c e _ z⟩
 ·obtain ⟨v,z⟩:=I.cell x c e;exact ⟨v,cellK x c e v z⟩
 ·obtain ⟨m,⟨o,_,_,ho,_⟩,_⟩:=I.loc;exact free _ o (λz=>(hch _ z).2.1 rfl) ho I.free
 ·obtain ⟨v,o,ho,hd⟩:=I.cell x c e;exact free c o (λz=>(hch c z).2.2.1 x c e rfl) ho (I.freeC x c e)
 ·obtain ⟨e,n,ne,nf,d⟩:=I.pin p hp;have nch:p.1 ∉ ch:=λz=>(hch p.1 z).2.2.2 p hp rfl;exact ⟨keep p.1 p.2 ne nf nch e n,free p.1 p.2 nch e n,ne,nf,d⟩
theorem cF.un{t':Nat}(I:cF X pins σ H s)(u:Un X.fs [] H H' s.heap h')(hok:nI X.prog X.w H' h'):cF X pins σ H' { s with heap:=h',toks:=t' }:=by
 obtain ⟨m,⟨o,es,ep,ho,r⟩,_⟩:=id I.loc;obtain ⟨sl,hL⟩:=u.any ho I.free (by simp);exact I.step (g':=s.gens) (d':=s.drawn) (ch:=[]) (λ_ z=>nomatch z) (λb o _ hb _ e n=>u.keep b o e n hb (by simp)) (λb o _ hb _ e n=>u.slot b o e n hb (by simp)) (λb o _ e n=>u.free b o e n (by simp)) (λb o _ e=>u.there b o e (by simp)) u.tups u.frzs u.tbls (λm' hm=>by
  obtain ⟨o',es',ep',ho',r'⟩:=hm;rw [ho] at ho';cases ho';exact ⟨_,es',ep',hL,r'⟩) hok I.bare
theorem cF.call{g':Array GenState}{t':Nat}{d':Drawn}{ch:List Addr}(I:cF X pins σ H s)(u:Un (frs X.stack) ch H H' s.heap h')(hok:nI X.prog X.w H' h')(hg:AllBare g')
  (hch:∀b∈ch,(b∈X.ex\/X.s₀.heap.objs.size<=b)/\b≠X.env.locals/\(∀x c,X.env.cells.lookup x=some c->c≠b)/\∀p∈X.pn++pins,p.1≠b) :
  cF X pins σ H' { s with heap:=h',gens:=g',drawn:=d',toks:=t' }:=by
 obtain ⟨m,⟨o,es,ep,ho,r⟩,_⟩:=id I.loc;obtain ⟨sl,hL⟩:=u.any ho I.free λz=>(hch _ z).2.1 rfl;exact I.step (ch:=ch) hch (λb o hL hb hc e n=>u.keep b o e n (λz=>(bA.mp (I.stkSub b z)).elim hL hb) hc) (λb o _ _ hc e n=>u.any e n hc) (λb o hc e n=>u.free b o e n hc) (λb o hc e=>u.there b o e hc) u.tups u.frzs u.tbls (λm' hm=>by
  obtain ⟨o',es',ep',ho',r'⟩:=hm;rw [ho] at ho';cases ho';exact ⟨_,es',ep',hL,r'⟩) hok hg
theorem cF.turned{t':Nat}{it:Addr}(I:cF X pins σ H s)(k:∀b o,b≠it->s.heap.get? b=some o->h'.get? b=some o)(hn:H it=none)(hL:it≠X.env.locals)
  (h1:it∈X.ex\/X.s₀.heap.objs.size<=it) (h2:∀x c,X.env.cells.lookup x=some c->c≠it) (h3:∀p∈X.pn++pins,p.1≠it):cF X pins σ H { s with heap:=h',toks:=t' }:=by
 have nit:∀b u,H b=some u->b≠it:=λb u e z=>by rw [z,hn] at e;cases e
 refine I.step (g':=s.gens) (d':=s.drawn) (ch:=[it]) (λb hb=>?_) (λb o _ _ hc e _=>k b o (λz=>hc (by simp [z])) e) (λb o _ _ hc e _=>⟨o.slots,k b o (λz=>hc (by simp [z])) e⟩) (λ_ _ _ _ n=>n)
  (λb o hc e=>⟨o,k b o (λz=>hc (by simp [z])) e⟩) (λ_ _ e=>e) (λ_ _ _ e=>e) (λb ps e=>⟨#[],by rw [e];simp⟩) (λm hm=>?_) (λb u e=>?_) I.bare
 ·have e:b=it:=by simpa using hb
  subst e;exact ⟨h1,hL,h2,h3⟩
 ·obtain ⟨o,es,ep,ho,r⟩:=hm;exact ⟨o,es,ep,k _ o (Ne.symm hL) ho,r⟩
 ·refine (I.hok b u e).stay (λc v hc q=>k c v ?_ q) (λ_ q=>q) λ_ _ q=>q;rcases hc with z | z
  ·rw [z];exact nit b u e
  ·exact nit c _ z
theorem cF.tok(I:cF X pins σ H s)(t:Nat):cF X pins σ H { s with toks:=t }:=I.un (h':=s.heap) (t':=t) Un.refl I.hok
theorem cF.kept{t':Nat}(I:cF X pins σ H s)(k:∀b u,s.heap.get? b=some u->h'.get? b=some u):cF X pins σ H { s with heap:=h',toks:=t' }:=I.un (Un.kept k) (I.hok.kept k)
theorem cF.laid{a:Addr}{o:HO}{t':Nat}(I:cF X pins σ H s)(k:∀b u,s.heap.get? b=some u->h'.get? b=some u)(hp:s.heap.objs.size<=a)(new:eU X.prog X.w (upd H a o) h' a o) :
  cF X pins σ (upd H a o) { s with heap:=h',toks:=t' }:=I.un (Un.laid k hp (I.hok.fresh hp)) (I.hok.laid k hp new)
theorem cF.write{x e:Addr}{o:HO}{t':Nat}(I:cF X pins σ H s)(mu:Mut (H x))(he:e=x\/H e=some (.own x))(k:∀b u,b≠e->s.heap.get? b=some u->h'.get? b=some u)(heo:∃u,h'.get? e=some u)
  (new:eU X.prog X.w (upd H x o) h' x o):cF X pins σ (upd H x o) { s with heap:=h',toks:=t' }:=I.un (Un.write mu he k heo) (I.hok.write mu he k heo new)
theorem cF.pins_of{pins':List (Addr × Obj)}(I:cF X pins σ H s)(h:∀p∈pins',s.heap.get? p.1=some p.2/\H p.1=none/\p.1≠X.env.locals/\p.1 ∉ X.fs/\∀v,p.2.data ≠ .cell v):cF X pins' σ H s :=
 ⟨I.ok,I.os,I.bare,I.base,I.loc,I.cell,I.free,I.freeC,λp hp=>(cT.mp hp).elim (λz=>I.pin p (cJ _ z)) (h p),I.hok,I.len⟩
theorem BX{N:List Str}(hN:N.Nodup){i j:Nat}{x:Str}(a:N[i]?=some x)(b:N[j]?=some x):i=j:=by
 obtain ⟨h1,e1⟩:=aN.mp a;obtain ⟨h2,e2⟩:=aN.mp b;exact (List.getElem_inj hN).mp (e1.trans e2.symm)
theorem xG{M:Model}{A:Around}{E:Value->Shared->Prop}{i:Nat}{x:Str}{v:V}{u:Value}{Q:Unit->Shared->Prop}(I:cF X pins σ H s)(hN:X.N.Nodup)(hi:X.N[i]?=some x)(hx:Loc X.env.scope x)(r:dO v u)
  (h:∀s',cF X pins (σ.set i (some v)) H s'->(∃a,Heap.SameBut a s.heap s'.heap/\(a=X.env.locals\/X.env.cells.lookup x=some a))->Q () s') (hf:X.fn x=true\/X.env.scope.names.lookup x=some .local:=by first | exact .inl rfl | exact .inr rfl | assumption):wpAny M A (storeName X.env x u) Q E s:=by
 obtain ⟨m,hn,hl⟩:=id I.loc;have hcls:(X.env.scope.kind == .class || (X.env.scope.kind == .module&&X.env.locals != X.env.globals))=false:=by rw [I.ok.kind];rfl
 have hiσ:i<σ.length:=by rw [I.len];exact (aN.mp hi).1
 have cne:=I.cne;have tracked:∀{a:Addr} {h':Heap},(∃o,s.heap.get? a=some o/\H a=none)->Heap.SameBut a s.heap h'->nI X.prog X.w H h':=λ{a h'} ha hs b ob e=>by
  obtain ⟨_,_,hfree⟩:=ha;refine (I.hok b ob e).stay (λc w' hc q=>(hs.2 c ?_).trans q) (λ_ q=>q) λ_ _ q=>q;rintro rfl;rcases hc with rfl | hc
  ·rw [hfree] at e;cases e
  ·rw [hfree] at hc;cases hc
 rcases hx with hk | hk
 ·refine wpAny_storeName_local hk hn (λh' hn' hs=>?_) hcls;obtain ⟨oL,_,_,hoL,_⟩:=id hn;refine h _ ⟨I.ok,I.os,I.bare,⟨λb o e n hb hx=>?_,λb o e n hb hx=>?_,I.base.free,λb o e hx=>?_,I.base.tups,I.base.frzs,I.base.tbls⟩,⟨_,hn',λj y v' e1 e2 e3=>?_⟩,λy c e=>?_,I.free,I.freeC,λp hp=>?_,tracked ⟨oL,hoL,I.free⟩ hs,by simpa using I.len⟩ ⟨_,hs,.inl rfl⟩
  ·exact (hs.2 b (cK (aV (aY e) I.ok.above))).trans (I.base.keep b o e n hb hx)
  ·obtain ⟨sl,e1⟩:=I.base.slot b o e n hb hx;exact ⟨sl,(hs.2 b (cK (aV (aY e) I.ok.above))).trans e1⟩
  ·obtain ⟨o',e1⟩:=I.base.there b o e hx;exact ⟨o',(hs.2 b (cK (aV (aY e) I.ok.above))).trans e1⟩
  ·by_cases hj:j=i
   ·subst hj;rw [hi] at e1;cases e1;rw [List.getElem?_set_self hiσ] at e2;cases e2;exact ⟨u,r,.inl ⟨hk,by simp⟩⟩
   ·rw [List.getElem?_set_ne (Ne.symm hj)] at e2;obtain ⟨u',r',q⟩:=hl j y v' e1 e2 e3;refine ⟨u',r',?_⟩;rcases q with ⟨k,e⟩ | ⟨k,c,e,z⟩
    ·refine .inl ⟨k,?_⟩;have:y≠x:=λe=>hj (BX hN e1 (e ▸ hi));simp [this,e]
    ·exact .inr ⟨k,c,e,z.sameBut hs (cne y c e)⟩
  ·obtain ⟨w',z⟩:=I.cell y c e;exact ⟨w',z.sameBut hs (cne y c e)⟩
  ·obtain ⟨e,n,ne,nf,d⟩:=I.pin p hp;exact ⟨(hs.2 p.1 ne).trans e,n,ne,nf,d⟩
 ·have hfn:X.fn x=true:=by
   rcases hf with z | z
   ·exact z
   ·rw [z] at hk;cases hk
  obtain ⟨c,hc⟩:=I.ok.has x (.inl hk);obtain ⟨w',z⟩:=I.cell x c hc;refine wpAny_storeName_cell I.ok.kind hk hc z (λh' hc' hs=>?_);obtain ⟨oc,hoc,hocd⟩:=id z;refine h { s with heap:=h' } ⟨I.ok,I.os,I.bare,⟨λb o e n hb hx=>?_,λb o e n hb hx=>?_,I.base.free,λb o e hx=>?_,I.base.tups,I.base.frzs,I.base.tbls⟩,⟨m,hn.sameBut hs (Ne.symm (cne x c hc)),λj y v' e1 e2 e3=>?_⟩,λy c' e=>?_,I.free,I.freeC,λp hp=>?_,tracked ⟨oc,hoc,I.freeC x c hc⟩ hs,by simpa using I.len⟩ ⟨c,hs,.inr hc⟩
  ·exact (hs.2 b (cK (aV (aY e) (I.ok.cab x c hfn hc)))).trans (I.base.keep b o e n hb hx)
  ·obtain ⟨sl,e1⟩:=I.base.slot b o e n hb hx;exact ⟨sl,(hs.2 b (cK (aV (aY e) (I.ok.cab x c hfn hc)))).trans e1⟩
  ·obtain ⟨o',e1⟩:=I.base.there b o e hx;exact ⟨o',(hs.2 b (cK (aV (aY e) (I.ok.cab x c hfn hc)))).trans e1⟩
  ·by_cases hj:j=i
   ·subst hj;rw [hi] at e1;cases e1;rw [List.getElem?_set_self hiσ] at e2;cases e2;exact ⟨u,r,.inr ⟨.inl hk,c,hc,hc'⟩⟩
   ·rw [List.getElem?_set_ne (Ne.symm hj)] at e2;obtain ⟨u',r',q⟩:=hl j y v' e1 e2 e3;refine ⟨u',r',?_⟩;rcases q with q | ⟨k,c',e,z'⟩
    ·exact .inl q
    ·refine .inr ⟨k,c',e,z'.sameBut hs ?_⟩;rintro rfl;exact hj (BX hN e1 (I.ok.inj _ _ _ e hc ▸ hi))
  ·by_cases hcc:c'=c
   ·subst hcc;exact ⟨_,hc'⟩
   ·obtain ⟨w2,z2⟩:=I.cell y c' e;exact ⟨w2,z2.sameBut hs hcc⟩
  ·obtain ⟨e,n,ne,nf,d⟩:=I.pin p hp;refine ⟨(hs.2 p.1 ?_).trans e,n,ne,nf,d⟩;intro q;rw [q,hoc] at e;have q':oc=p.2:=dX e;exact d w' (by rw [<-q'];exact hocd)
theorem nO{M:Model}{A:Around}{E:Value->Shared->Prop}{i:Nat}{x:Str}{v:V}{u:Value}{Q:Unit->Shared->Prop}(I:cF X pins σ H s)(hN:X.N.Nodup)(hi:X.N[i]?=some x)(hx:Loc X.env.scope x)(r:dO v u)
  (h:∀s',cF X pins (σ.set i (some v)) H s'->Q () s') (hf:X.fn x=true\/X.env.scope.names.lookup x=some .local:=by first | exact .inl rfl | exact .inr rfl | assumption):wpAny M A (storeName X.env x u) Q E s :=
 xG I hN hi hx r (λs' I' _=>h s' I') hf
theorem cF.call'{s':Shared}{ch:List Addr}(I:cF X pins σ H s)(ho:s'.os=s.os)(u:Un (frs X.stack) ch H H' s.heap s'.heap)(hok:nI X.prog X.w H' s'.heap)(hg:AllBare s'.gens)
  (hch:∀b∈ch,(b∈X.ex\/X.s₀.heap.objs.size<=b)/\b≠X.env.locals/\(∀x c,X.env.cells.lookup x=some c->c≠b)/\∀p∈X.pn++pins,p.1≠b):cF X pins σ H' s':=by
 obtain ⟨h',g',d',t',o'⟩:=s';have e:o'=s.os:=ho;subst e;exact I.call (g':=g') (t':=t') (d':=d') u hok hg hch
end
abbrev XK:=Value->Option Addr->Hp->Prop
abbrev St:=List (Option V)
abbrev VK:=V->Hp->Prop
abbrev TE:=St->Hp->VK->Prop
abbrev TT:=St->Hp->(Bool->Hp->Prop)->Prop
abbrev TA:=St->Hp->(List V->Hp->Prop)->Prop
structure sW where
 nx:St->Hp->Prop
 rt:VK
 bk:St->Hp->Prop:=λ_ _=>False
 ct:St->Hp->Prop:=λ_ _=>False
abbrev TS:=sW->St->Hp->Prop
def EP(X:Cx)(pins:List (Addr × Obj))(σ:St)(Q:VK)(u:Value)(s':Shared):Prop:=∃v H',cF X pins σ H' s'/\dO v u/\Q v H'
def TP(X:Cx)(pins:List (Addr × Obj))(σ:St)(Q:Bool->Hp->Prop)(b:Bool)(s':Shared):Prop:=∃H',cF X pins σ H' s'/\Q b H'
def AP(X:Cx)(pins:List (Addr × Obj))(σ:St)(Q:List V->Hp->Prop)(us:List Value)(s':Shared):Prop:=∃vs H',cF X pins σ H' s'/\cZ vs us/\Q vs H'
def SP(X:Cx)(pins:List (Addr × Obj))(D:sW)(f:Flow)(s':Shared):Prop :=
 match f with
 | .next=>∃σ' H',cF X pins σ' H' s'/\D.nx σ' H'
 | .brk=>∃σ' H',cF X pins σ' H' s'/\D.bk σ' H'
 | .cont=>∃σ' H',cF X pins σ' H' s'/\D.ct σ' H'
 | .ret u=>∃v σ' H',cF X pins σ' H' s'/\dO v u/\D.rt v H'
def PE(X:Cx)(e:Expr)(t:TE):Prop :=
 ∀(pins:List (Addr × Obj)) (s:Shared) (σ:St) (H:Hp) (Q:VK),cF X pins σ H s->t σ H Q->wpAny (model X.prog X.w) X.A (eval e X.env) (EP X pins σ Q) X.xe s
def PT(X:Cx)(e:Expr)(t:TT):Prop :=
 ∀(pins:List (Addr × Obj)) (s:Shared) (σ:St) (H:Hp) (Q:Bool->Hp->Prop),cF X pins σ H s->t σ H Q->wpAny (model X.prog X.w) X.A (isTrue e X.env (eval e X.env)) (TP X pins σ Q) X.xe s
def PW(X:Cx)(e:Expr)(t:TT):Prop :=
 ∀(whole:Sem Value) (pins:List (Addr × Obj)) (s:Shared) (σ:St) (H:Hp) (Q:Bool->Hp->Prop),cF X pins σ H s->t σ H Q->wpAny (model X.prog X.w) X.A (isTrue e X.env whole) (TP X pins σ Q) X.xe s
theorem PW.pt{X:Cx}{e:Expr}{t:TT}(h:PW X e t):PT X e t:=h _
def PA(X:Cx)(es:List Expr)(t:TA):Prop :=
 ∀(pos:Pos) (pins:List (Addr × Obj)) (s:Shared) (σ:St) (H:Hp) (Q:List V->Hp->Prop),cF X pins σ H s->t σ H Q->wpAny (model X.prog X.w) X.A (spliced (backTo pos (starEach es X.env))) (AP X pins σ Q) X.xe s
def PS(X:Cx)(st:Stmt)(t:TS):Prop :=
 ∀(pins:List (Addr × Obj)) (s:Shared) (σ:St) (H:Hp) (D:sW),cF X pins σ H s->t D σ H->wpAny (model X.prog X.w) X.A (exec st X.env) (SP X pins D) X.xe s
def FF(X:Cx)(st:List Stmt)(t:TS):Prop :=
 ∀(pins:List (Addr × Obj)) (s:Shared) (σ:St) (H:Hp) (D:sW),cF X pins σ H s->t D σ H->wpAny (model X.prog X.w) X.A (execs st X.env) (SP X pins D) X.xe s
theorem thn{α:Type}{t:Sem α}{Q Q':α->Shared->Prop}{M:Model}{A:Around}{E:Value->Shared->Prop}{s:Shared}(h:wpAny M A t Q E s)(hQ:∀a s,Q a s->Q' a s):wpAny M A t Q' E s:=wpAny_mono h hQ λ_ _ x=>x
section
variable{X:Cx}
def VY(i:Nat):TE:=λσ H Q=>∃v,σ[i]?=some (some v)/\Q v H
def tC(v:V):TE:=λ_ H Q=>Q v H
theorem YD{i:Nat}{x:Str}{pos:Pos}(hN:X.N[i]?=some x)(hv:Vis X.env.scope x)(hd:(x == ("__debug__" : Str))=false:=by decide)(hcd:(x == ("__classdict__" : Str))=false:=by decide):PE X (.Name x pos) (VY i):=by
 intro pins s σ H Q I h;obtain ⟨v,e,h⟩:=h;obtain ⟨m,hn,hl⟩:=I.loc;obtain ⟨u,r,l⟩:=hl i x v hN e hv;have fin:EP X pins σ Q u s:=⟨v,H,I,r,h⟩;rcases l with ⟨hk,hm⟩ | ⟨hk,c,hc,hcell⟩
 ·exact wpAny_Name (wpAny_loadName_local I.ok.kind hk hn hm fin) hd
 ·rcases hk with hk | hk
  ·exact wpAny_Name (wpAny_loadName_cell I.ok.kind hk hc hcell fin) hd
  ·exact wpAny_Name (wpAny_loadName_free I.ok.kind hk hc hcell fin hcd) hd
theorem pe_int{i j pos}:PE X (.Constant (.int i) j pos) (tC (.int i)):=λ_ _ _ H _ I h=>wpAny_Constant_int ⟨.int i,H,I.tok _,⟨_,rfl⟩,h⟩
theorem pe_bl{b j pos}:PE X (.Constant (.bool b) j pos) (tC (.bl b)):=λ_ _ _ H _ I h=>Constant_bool ⟨.bl b,H,I,rfl,h⟩
theorem pe_non{j pos}:PE X (.Constant .none j pos) (tC .non):=λ_ _ _ H _ I h=>Constant_none ⟨.non,H,I,rfl,h⟩
theorem pe_str{x j pos}:PE X (.Constant (.str x) j pos) (tC (.str x)):=λ_ _ _ H _ I h=>Calls.Constant_str ⟨.str x,H,I.tok _,⟨_,rfl⟩,h⟩
def Gl(X:Cx)(x:Str):Prop:=X.env.kindOf x=some .globalImplicit
theorem GI{E:Value->Shared->Prop}{pins:List (Addr × Obj)}{s:Shared}{σ:St}{H:Hp}{x:Str}{u:Value}{pos:Pos}{Q:Value->Shared->Prop}(I:cF X pins σ H s)(hg:Gl X x)(hm:X.mg x=some u)(h:Q u s)
  (hd:(x == ("__debug__" : Str))=false:=by decide):wpAny (model X.prog X.w) X.A (eval (.Name x pos) X.env) Q E s :=
 Calls.Name_function_global I.ok.kind hg (Calls.loadGlobal_global (by rw [I.ok.glob];exact I.mod.glob.keeps I.bk) hm h) hd
theorem vN{E:Value->Shared->Prop}{pins:List (Addr × Obj)}{s:Shared}{σ:St}{H:Hp}{x:Str}{u:Value}{pos:Pos}{Q:Value->Shared->Prop}(I:cF X pins σ H s)(hg:Gl X x)(hm:X.mg x=none)(hv:bootBuiltins x=some u)(h:Q u s)
  (hn:x ≠ "__name__" := by decide) (hd:(x == ("__debug__" : Str))=false:=by decide):wpAny (model X.prog X.w) X.A (eval (.Name x pos) X.env) Q E s:=by
 obtain ⟨mb,h1,h2⟩:=I.mod.blt;exact Calls.Name_function_global I.ok.kind hg (Calls.loadGlobal_builtin (by rw [I.ok.glob];exact I.mod.glob.keeps I.bk) hm (by rw [I.ok.blt];exact h1.keeps I.bk) ((h2 x hn).trans hv) h) hd
theorem RQ{x:Str}{v:V}{u:Value}{pos:Pos}(hg:Gl X x)(hm:X.mg x=some u)(r:dO v u)(hd:(x == ("__debug__" : Str))=false:=by decide):PE X (.Name x pos) (tC v) :=
 λ_ _ _ H _ I h=>GI I hg hm ⟨v,H,I,r,h⟩ hd
variable{a b:Expr}{ta tb:TE}{pos:Pos}
def tB(t:TE):TT:=λσ H Q=>t σ H λx H1=>∃c,x=.bl c/\Q c H1
theorem XO{e:Expr}{t:TE}(h:PE X e t)(he:∀whole,isTrue e X.env whole=(do let v <-whole;standAt e.pos;holding [v] (truthy v)):=by intro _;rfl):PT X e (tB t):=by
 intro pins s σ H Q I hw;refine isTrue_plain (thn (h pins s σ H _ I hw) λv s1 ⟨x,H1,I1,r1,q1⟩=>?_) (he _);obtain ⟨d,rfl,q⟩:=q1;cases r1;exact wpAny_truthy_bool ⟨H1,I1,q⟩
variable{tA tB':TT}{rest:List Expr}
def aAx(t u:TT):TT:=λσ H Q=>t σ H λc H1=>if c=true then u σ H1 Q else Q false H1
def tOr(t u:TT):TT:=λσ H Q=>t σ H λc H1=>if c=true then Q true H1 else u σ H1 Q
def aAq(t:TT):TT:=λσ H Q=>t σ H λc H1=>Q (!c) H1
theorem QY(ha:PT X a tA):PW X (.BoolOp .And [a] pos) tA:=by
 intro wh pins s σ H Q I h;refine isTrue_and (thn (ha pins s σ H Q I h) λc s1 e=>?_);cases c with
 | true=>exact isTrue_and_nil e
 | false=>exact e
theorem XM(ha:PT X a tA):PW X (.BoolOp .Or [a] pos) tA:=by
 intro wh pins s σ H Q I h;refine isTrue_or (thn (ha pins s σ H Q I h) λc s1 e=>?_);cases c with
 | false=>exact isTrue_or_nil e
 | true=>exact e
theorem XN(ha:PT X a tA)(hb:PW X (.BoolOp .And (b::rest) pos) tB'):PW X (.BoolOp .And (a::b::rest) pos) (aAx tA tB'):=by
 intro wh pins s σ H Q I h;refine isTrue_and (thn (ha pins s σ H _ I h) λc s1 ⟨H1,I1,q1⟩=>?_);cases c with
 | true=>exact hb wh pins s1 σ H1 Q I1 q1
 | false=>exact ⟨H1,I1,q1⟩
theorem aAI(ha:PT X a tA)(hb:PW X (.BoolOp .Or (b::rest) pos) tB'):PW X (.BoolOp .Or (a::b::rest) pos) (tOr tA tB'):=by
 intro wh pins s σ H Q I h;refine isTrue_or (thn (ha pins s σ H _ I h) λc s1 ⟨H1,I1,q1⟩=>?_);cases c with
 | true=>exact ⟨H1,I1,q1⟩
 | false=>exact hb wh pins s1 σ H1 Q I1 q1
theorem XR(ha:PT X a tA):PT X (.UnaryOp .Not a pos) (aAq tA):=by
 intro pins s σ H Q I h;exact isTrue_not (ha pins s σ H (λc H1=>Q (!c) H1) I h)
end
def fM(K:PySem.W.Frag)(H:Hp)(a:Addr)(xs:List V):Prop :=
 Rd H a (.lst xs) \/
  ∃(o:Obj) (its:Array Value) (n:Nat),K.lookup a=some o/\o.cls=.type "list" /\ o.dict=none/\o.data=.seq its n/\its.size<=sizeLine/\cZ xs its.toList
def fF(K:PySem.W.Frag)(H:Hp)(a:Addr)(xs:List V):Prop :=
 Rd H a (.tup xs) \/
  ∃(o:Obj) (its:Array Value) (n:Nat),K.lookup a=some o/\o.cls=.type "tuple" /\ o.data=.seq its n/\its.size<=sizeLine/\cZ xs its.toList
def aC0:Value->Option V
 | .none=>some .non
 | .bool b=>some (.bl b)
 | .int i _=>some (.int i)
 | .str x _=>some (.str x)
 | .bytes b _=>some (.byt b)
 | .float b _=>some (.flt b)
 | .ref a=>some (.ref a)
 | .type n=>some (.ty n)
 | _=>none
theorem dO.abs{x:V}{u:Value}(r:dO x u):aC0 u=some x:=by
 cases x with
 | non=>cases r;rfl
 | bl _=>cases r;rfl
 | int _=>obtain ⟨t,rfl⟩:=r;rfl
 | str _=>obtain ⟨t,rfl⟩:=r;rfl
 | byt _=>obtain ⟨t,rfl⟩:=r;rfl
 | flt _=>obtain ⟨t,rfl⟩:=r;rfl
 | ref _=>cases r;rfl
 | ty _=>cases r;rfl
theorem dO.inj{x y:V}{u:Value}(r:dO x u)(q:dO y u):x=y:=dX (r.abs.symm.trans q.abs)
theorem cZ.inj:∀{xs ys:List V}{us:List Value},cZ xs us->cZ ys us->xs=ys
 | _,_,_,.nil,.nil=>rfl
 | _,_,_,.cons r t,.cons r' t'=>by rw [r.inj r',cZ.inj t t']
section
variable{X:Cx}{pins:List (Addr × Obj)}{σ:St}{H:Hp}{s:Shared}{a:Addr}{xs ys:List V}
theorem fM.of{K:PySem.W.Frag}(h:H a=some (.lst xs)):fM K H a xs:=.inl (.inl h)
theorem fF.of{K:PySem.W.Frag}(h:H a=some (.tup xs)):fF K H a xs:=.inl (.inl h)
theorem cF.list(I:cF X pins σ H s)(h:fM X.K H a xs):∃its:List Value,cZ xs its/\PlainL s.heap a its.toArray/\xs.length<=sizeLine:=by
 rcases h with h | ⟨o,its,n,hk,hc,hd,hs,hz,r⟩
 ·obtain ⟨z,its,n,r,e⟩:=h.ok I.hok;exact ⟨its,r,⟨_,n,e,rfl,rfl,rfl⟩,z⟩
 ·refine ⟨its.toList,r,⟨o,n,I.kIn a o hk,hc,hd,by simpa using hs⟩,?_⟩;have e:=r.length;simp only [Array.length_toList] at e;omega
theorem cF.tuple(I:cF X pins σ H s)(h:fF X.K H a xs):∃its:List Value,cZ xs its/\IsTup s.heap a its.toArray/\xs.length<=sizeLine:=by
 rcases h with h | ⟨o,its,n,hk,hc,hs,hz,r⟩
 ·obtain ⟨⟨z,_⟩,its,r,p⟩:=h.ok I.hok;exact ⟨its,r,p,z⟩
 ·refine ⟨its.toList,r,⟨o,I.kIn a o hk,hc,n,by simpa using hs⟩,?_⟩;have e:=r.length;simp only [Array.length_toList] at e;omega
theorem cF.list_inj(I:cF X pins σ H s)(h:fM X.K H a xs)(h':fM X.K H a ys):xs=ys:=by
 obtain ⟨its,r,⟨o,n,e,_,_,d⟩,_⟩:=I.list h;obtain ⟨its',r',⟨o',n',e',_,_,d'⟩,_⟩:=I.list h';rw [e] at e';cases e';rw [d] at d';injection d' with d1 _;have:its=its':=by simpa using congrArg Array.toList d1
 subst this;exact r.inj r'
theorem cF.tuple_inj(I:cF X pins σ H s)(h:fF X.K H a xs)(h':fF X.K H a ys):xs=ys:=by
 obtain ⟨its,r,⟨o,e,_,n,d⟩,_⟩:=I.tuple h;obtain ⟨its',r',⟨o',e',_,n',d'⟩,_⟩:=I.tuple h';rw [e] at e';cases e';rw [d] at d';injection d' with d1 _;have:its=its':=by simpa using congrArg Array.toList d1
 subst this;exact r.inj r'
end
abbrev Cx.wish(X:Cx)(E:Value->Shared->Prop):Cx:={ X with xe:=E }
abbrev Cx.nox(X:Cx):Cx:=X.wish λ_ _=>False
theorem Cx.Ok.wish{X:Cx}(ok:X.Ok)(E:Value->Shared->Prop):(X.wish E).Ok :=
 ⟨ok.mod,ok.kind,ok.glob,ok.blt,ok.above,ok.inj,ok.has,ok.cab,ok.hd,ok.frames,ok.stk,ok.exf,ok.bs,ok.bsz,ok.noex,ok.exfs,ok.funs,ok.frf⟩
theorem Cx.Ok.unwish{X:Cx}{E:Value->Shared->Prop}(ok:(X.wish E).Ok):X.Ok :=
 ⟨ok.mod,ok.kind,ok.glob,ok.blt,ok.above,ok.inj,ok.has,ok.cab,ok.hd,ok.frames,ok.stk,ok.exf,ok.bs,ok.bsz,ok.noex,ok.exfs,ok.funs,ok.frf⟩
section
variable{X:Cx}{pins:List (Addr × Obj)}{σ:St}{H:Hp}{s:Shared}{E:Value->Shared->Prop}
theorem cF.wish(I:cF X pins σ H s)(E:Value->Shared->Prop):cF (X.wish E) pins σ H s:=⟨I.ok.wish E,I.os,I.bare,I.base,I.loc,I.cell,I.free,I.freeC,I.pin,I.hok,I.len⟩
theorem cF.unwish(I:cF (X.wish E) pins σ H s):cF X pins σ H s:=⟨I.ok.unwish,I.os,I.bare,I.base,I.loc,I.cell,I.free,I.freeC,I.pin,I.hok,I.len⟩
theorem SP.unwish{D:sW}{f:Flow}{s':Shared}(h:SP (X.wish E) pins D f s'):SP X pins D f s':=by
 cases f with
 | next=>obtain ⟨σ',H',I,q⟩:=h;exact ⟨σ',H',I.unwish,q⟩
 | brk=>obtain ⟨σ',H',I,q⟩:=h;exact ⟨σ',H',I.unwish,q⟩
 | cont=>obtain ⟨σ',H',I,q⟩:=h;exact ⟨σ',H',I.unwish,q⟩
 | ret u=>obtain ⟨v,σ',H',I,r,q⟩:=h;exact ⟨v,σ',H',I.unwish,r,q⟩
theorem FF.nox{st:List Stmt}{t:TS}(h:FF X.nox st t):FF X st t:=λpins s σ H D I hw =>
 wpAny_mono (h pins s σ H D (I.wish _) hw) (λ_ _ q=>q.unwish) λ_ _ z=>False.elim z
end
section
variable{X:Cx}{st:Stmt}{rest:List Stmt}{t u:TS}{e:Expr}{te:TE}{pos:Pos}
def UM:TS:=λD σ H=>D.nx σ H
def aAn(t u:TS):TS:=λD σ H=>t { D with nx:=u D } σ H
theorem pss_nil:FF X [] UM:=λ_ _ σ H _ I h=>wpAny_execs_nil ⟨σ,H,I,h⟩
theorem MF(h1:PS X st t)(h2:FF X rest u):FF X (st::rest) (aAn t u):=by
 intro pins s σ H D I h;refine wpAny_execs_cons (thn (h1 pins s σ H { D with nx:=u D } I h) λf s1 q=>?_);cases f with
 | next =>
  obtain ⟨σ',H',I',q⟩:=q;exact h2 pins s1 σ' H' D I' q
 | ret v=>exact q
 | brk=>exact q
 | cont=>exact q
theorem RF(h1:PS X st t):FF X [st] t:=by
 intro pins s σ H D I h;refine wpAny_execs_cons (thn (h1 pins s σ H D I h) λf s1 q=>?_);cases f with
 | next=>exact wpAny_execs_nil q
 | ret v=>exact q
 | brk=>exact q
 | cont=>exact q
theorem cF.quiet{pins:List (Addr × Obj)}{σ:St}{H:Hp}{s:Shared}(I:cF X pins σ H s):interactive X.env=false:=by simp [interactive,I.ok.kind]
def UN(te:TE):TS:=λD σ H=>te σ H λ_ H1=>D.nx σ H1
theorem RG(he:PE X e te)(hs:swapsWith e none pos.line X.env=pure false:=by rfl):PS X (.Expr e pos) (UN te):=by
 intro pins s σ H D I h;exact wpAny_Expr_any (thn (he pins s σ H _ I h) λv s1 ⟨x,H1,I1,r1,q1⟩=>⟨σ,H1,I1,q1⟩) I.quiet hs
def aAo(te:TE):TS:=λD σ H=>te σ H D.rt
theorem XT(he:PE X e te):PS X (.Return (some e) pos) (aAo te):=by
 intro pins s σ H D I h;exact wpAny_Return_some (thn (he pins s σ H _ I h) λv s1 ⟨x,H1,I1,r1,q1⟩=>⟨x,σ,H1,I1,r1,q1⟩)
def aAs(c:TT)(t u:TS):TS:=λD σ H=>c σ H λb H1=>if b=true then t D σ H1 else u D σ H1
theorem aAJ{c:Expr}{a b:List Stmt}{tc:TT}(hc:PT X c tc)(ha:FF X a t)(hb:FF X b u):PS X (.If c a b pos) (aAs tc t u):=by
 intro pins s σ H D I h;refine wpAny_If (thn (hc pins s σ H _ I h) λd s1 ⟨H1,I1,q1⟩=>?_);cases d with
 | true=>exact ha pins s1 σ H1 D I1 q1
 | false=>exact hb pins s1 σ H1 D I1 q1
end
abbrev TG:=V->St->Hp->(St->Hp->Prop)->Prop
abbrev OQ:=List V->St->Hp->(St->Hp->Prop)->Prop
def PG(X:Cx)(target:Expr)(t:TG):Prop :=
 ∀(pins:List (Addr × Obj)) (s:Shared) (σ:St) (H:Hp) (v:V) (u:Value) (Q:St->Hp->Prop),cF X pins σ H s->dO v u->t v σ H Q ->
  wpAny (model X.prog X.w) X.A (assign target X.env u) (λ_ s'=>∃σ' H',cF X pins σ' H' s'/\Q σ' H') X.xe s
def PGs(X:Cx)(ts:List Expr)(t:OQ):Prop :=
 ∀(pins:List (Addr × Obj)) (s:Shared) (σ:St) (H:Hp) (vs:List V) (us:List Value) (Q:St->Hp->Prop),cF X pins σ H s->cZ vs us->t vs σ H Q ->
  wpAny (model X.prog X.w) X.A (assignInOrder ((assignEach ts X.env).map (·.2)) us) (λ_ s'=>∃σ' H',cF X pins σ' H' s'/\Q σ' H') X.xe s
abbrev TX:=V->V->V->Hp->(Hp->Prop)->Prop
def ZW(X:Cx)(t:TX):Prop :=
 ∀(pins:List (Addr × Obj)) (s:Shared) (σ:St) (H:Hp) (o i v:V) (ov iv u:Value) (Q:Hp->Prop),cF X pins σ H s->dO o ov->dO i iv->dO v u->t o i v H Q ->
  wpAny (model X.prog X.w) X.A (setItem ov iv u) (λ_ s'=>∃H',cF X pins σ H' s'/\Q H') X.xe s
section
variable{X:Cx}{pos:Pos}
def qY(i:Nat):TG:=λv σ H Q=>Q (σ.set i (some v)) H
theorem RP{i:Nat}{x:Str}(hN:X.N.Nodup)(hi:X.N[i]?=some x)(hx:Loc X.env.scope x)(hf:X.fn x=true\/X.env.scope.names.lookup x=some .local:=by first | exact .inl rfl | exact .inr rfl | assumption):PG X (.Name x pos) (qY i):=by
 intro pins s σ H v u Q I r h;exact wpAny_assign_Name (nO I hN hi hx r (λs' I'=>⟨_,H,I',h⟩) hf)
def YY:OQ:=λvs σ H Q=>vs=[]/\Q σ H
def NK(t:TG)(u:OQ):OQ:=λvs σ H Q=>∃v r,vs=v::r/\t v σ H λσ' H'=>u r σ' H' Q
theorem pgs_nil:PGs X [] YY:=by
 intro pins s σ H vs us Q I r h;obtain ⟨e,h⟩:=h;subst e;cases r;exact assignInOrder_nil ⟨σ,H,I,h⟩
theorem MK{e:Expr}{es:List Expr}{t:TG}{u:OQ}(h1:PG X e t)(h2:PGs X es u)
  (hs:(assignEach (e::es) X.env).map (·.2)=assign e X.env::(assignEach es X.env).map (·.2):=by rfl):PGs X (e::es) (NK t u):=by
 intro pins s σ H vs us Q I r h;obtain ⟨v,vr,e1,h⟩:=h;subst e1;cases r with
 | cons r rr =>
  rw [hs];refine assignInOrder_cons (thn (h1 pins s σ H _ _ _ I r h) λ_ s1 ⟨σ1,H1,I1,q1⟩=>?_);exact h2 pins s1 σ1 H1 _ _ Q I1 rr q1
def YX(K:PySem.W.Frag)(n:Nat)(t:OQ):TG:=λv σ H Q=>∃a xs,v=.ref a/\fF K H a xs/\xs.length=n/\t xs σ H Q
theorem YB{es:List Expr}{k:Nat}{t:OQ}{n:Nat}(hc:X.calm=true)(h:PGs X es t)
  (hn:(assignEach es X.env).length=n:=by rfl) (hst:(assignEach es X.env).findIdx? (·.1)=none:=by rfl):PG X (.Tuple es k pos) (YX X.K n t):=by
 intro pins s σ H v u Q I r hw;obtain ⟨a,xs,e1,hq,hl,hw⟩:=hw;subst e1;cases r;obtain ⟨its,rv,ht,hz⟩:=I.tuple hq;refine assign_Tuple_tuple (I.ok.hd hc) ht (by simp [hn,<-hl,rv.length]) hst λh' hx=>?_;have I1:cF X pins σ H { s with heap:=h' }:=I.kept (t':=s.toks) λb o e=>hx b o (cK (aY e)) e;exact h pins _ σ H xs _ Q I1 (by simpa using rv) hw
def aA2(to ti:TE)(t:TX):TG:=λv σ H Q=>to σ H λo H1=>ti σ H1 λi H2=>t o i v H2 λH3=>Q σ H3
theorem YC{o i:Expr}{to ti:TE}{t:TX}(ho:PE X o to)(hi:PE X i ti)(hs:ZW X t)
  (ha:∀v,assign (.Subscript o i pos) X.env v=(do
   let ov <-holding [v] (eval o X.env)
   let iv <-holding [v,ov] (eval i X.env)
   standAt pos
   holding [v,ov,iv] (setItem ov iv v)
   release [v,ov,iv] []):=by intro _;rfl):PG X (.Subscript o i pos) (aA2 to ti t):=by
 intro pins s σ H v u Q I r h;rw [ha];refine wpAny_bind (wpAny_holding (thn (ho pins s σ H _ I h) λov s1 ⟨x,H1,I1,r1,q1⟩=>?_));refine wpAny_bind (wpAny_holding (thn (hi pins s1 σ H1 _ I1 q1) λiv s2 ⟨y,H2,I2,r2,q2⟩=>?_));refine wpAny_bind (wpAny_standAt (wpAny_bind (wpAny_holding (thn (hs pins s2 σ H2 x y v ov iv u _ I2 r1 r2 r q2) λ_ s3 ⟨H3,I3,q3⟩=>?_))));exact wpAny_release ⟨σ,H3,I3,q3⟩
def IC(te:TE)(g:TG):TS:=λD σ H=>te σ H λx H1=>g x σ H1 D.nx
theorem XX{tg e:Expr}{te:TE}{g:TG}(he:PE X e te)(hg:PG X tg g)(hs:swapsWithSole [tg] e pos.line X.env=pure false:=by rfl)(hw:swappedStores [tg] e X.env=pure none:=by rfl)
  (h1:(assignEach [tg] X.env).map (·.2)=[assign tg X.env]:=by rfl):PS X (.Assign [tg] e pos) (IC te g):=by
 intro pins s σ H D I h;refine wpAny_Assign_stores (thn (he pins s σ H _ I h) λv s1 ⟨x,H1,I1,r1,q1⟩=>?_) hs hw;rw [h1];exact thn (hg pins s1 σ H1 x v _ I1 r1 q1) λ_ s2 q=>q
theorem XS{i:Nat}{x:Str}{e:Expr}{te:TE}{pos':Pos}(hN:X.N.Nodup)(hi:X.N[i]?=some x)(hx:Loc X.env.scope x)(he:PE X e te)(hs:swapsWith e (some (.Name x pos')) pos.line X.env=pure false:=by rfl)(hf:X.fn x=true\/X.env.scope.names.lookup x=some .local:=by first | exact .inl rfl | exact .inr rfl | assumption) :
  PS X (.Assign [.Name x pos'] e pos) (IC te (qY i)):=by
 intro pins s σ H D I h;refine wpAny_Assign_Name (thn (he pins s σ H _ I h) λv s1 ⟨y,H1,I1,r1,q1⟩=>?_) hs;exact nO I1 hN hi hx r1 (λs2 I2=>⟨_,H1,I2,q1⟩) hf
def aAp(i j:Nat)(ta:TA):TS:=λD σ H=>ta σ H λvs H1=>∃v w,vs=[v,w]/\D.nx ((σ.set i (some v)).set j (some w)) H1
theorem XU{i j:Nat}{x y:Str}{a b:Expr}{ta:TA}{px py pt:Pos}{kt k2 pt2}(hc:X.calm=true)(hN:X.N.Nodup)(hi:X.N[i]?=some x)(hj:X.N[j]?=some y)(hij:i≠j)
  (hx:X.env.scope.names.lookup x=some .local) (hy:X.env.scope.names.lookup y=some .local) (ha:PA X [a,b] ta)
  (hw:swappedStores [.Tuple [.Name x px,.Name y py] kt pt] (.Tuple [a,b] k2 pt2) X.env=pure (some [x,y]))
  (hs:swapsWithSole [.Tuple [.Name x px,.Name y py] kt pt] (.Tuple [a,b] k2 pt2) pos.line X.env=pure false:=by rfl) :
  PS X (.Assign [.Tuple [.Name x px,.Name y py] kt pt] (.Tuple [a,b] k2 pt2) pos) (aAp i j ta):=by
 intro pins s σ H D I h;rw [exec_Assign_arm];refine wpAny_bind (wpAny_standAt ?_);rw [hs];refine wpAny_bind (wpAny_pure ?_);rw [if_neg Dd];refine wpAny_bind (Tuple_ (thn (ha _ pins s σ H _ I h) λus s1 ⟨vs,H1,I1,r1,q1⟩=>?_));obtain ⟨v,w,e1,q1⟩:=q1;subst e1;obtain ⟨u1,u2,rfl,rv,rw'⟩:∃u1 u2,us=[u1,u2]/\dO v u1/\dO w u2:=by
  cases r1 with
  | cons p q =>
   cases q with
   | cons p' q' =>
    cases q';exact ⟨_,_,rfl,p,p'⟩
 refine wpAny_newObj_type ?_ (by show 2<=sizeLine;decide);have I2:cF X pins σ H1 { s1 with heap:=s1.heap.push { cls:=.type "tuple",data:=.seq [u1,u2].toArray } }:=I1.kept (t':=s1.toks) λb o e=>aB _ e;rw [hw];refine wpAny_bind (wpAny_pure ?_);show wpAny (model X.prog X.w) X.A (do rule "assign.swapped-stores";let items <-unpackItems (.ref s1.heap.objs.size) 2 none;assignInOrder [λv=>bindName X.env y v,λv=>bindName X.env x v] items.reverse;pure Flow.next) _ _ _;refine wpAny_bind (wpAny_rule (wpAny_bind (unpackItems_tuple (items:=#[u1,u2]) (I.ok.hd hc) (IsTup.new s1.heap _) λh' hx'=>?_)));have I3:=I2.kept (h':=h') (t':=s1.toks) λb o e=>hx' b o (cK (aY e)) e;show wpAny _ _ (assignInOrder [λv=>bindName X.env y v,λv=>bindName X.env x v] [u2,u1] >>= λ_=>pure Flow.next) _ _ _;refine wpAny_bind (assignInOrder_cons (wpAny_bindName (nO I3 hN hj (.inl hy) rw' (λs2 I4=>?_) (.inr hy))));refine assignInOrder_cons (wpAny_bindName (nO I4 hN hi (.inl hx) rv (λs3 I5=>assignInOrder_nil (wpAny_pure ?_)) (.inr hx)));rw [List.set_comm _ _ (Ne.symm hij)] at I5;exact ⟨_,H1,I5,q1⟩
end
section
variable{X:Cx}{pos:Pos}
def yY(c:TT)(tb:TS):TS:=λD σ H=>∃W:Nat->St->Hp->Prop,(∃m,W m σ H)/\∀m σ H,W m σ H ->
 c σ H λb H1=>if b=true then ∃N:St->Hp->Prop,(∀σ' H',N σ' H'->∃m',m' < m/\W m' σ' H')/\tb { D with nx:=N,ct:=N,bk:=D.nx } σ H1 else D.nx σ H1
theorem MG{c:Expr}{body:List Stmt}{tc:TT}{tb:TS}(hp:PassesOwn (model X.prog X.w) X.A X.env X.xe)(hc:PT X c tc)(hb:FF X body tb):PS X (.While c body [] pos) (yY tc tb):=by
 intro pins s σ H D I h;obtain ⟨W,⟨m0,w0⟩,turn⟩:=h;refine wpAny_While (codeAny_whileLoop (λn s'=>∃σ' H',cF X pins σ' H' s'/\W n σ' H') ?_ m0 ⟨σ,H,I,w0⟩);rintro n s1 ⟨σ1,H1,I1,w1⟩;refine wpAny_passesOwn hp (thn (hc pins s1 σ1 H1 _ I1 (turn n σ1 H1 w1)) λb s2 ⟨H2,I2,q2⟩=>?_);cases b with
 | true =>
  obtain ⟨N,hN,q2⟩:=q2;rw [if_pos rfl];refine wpAny_passesOwn hp (thn (hb pins s2 σ1 H2 _ I2 q2) λf s3 q3=>?_);cases f with
  | next =>
   obtain ⟨σ3,H3,I3,n3⟩:=q3;obtain ⟨m',hm,w3⟩:=hN σ3 H3 n3;exact ⟨m',hm,σ3,H3,I3,w3⟩
  | cont =>
   obtain ⟨σ3,H3,I3,n3⟩:=q3;obtain ⟨m',hm,w3⟩:=hN σ3 H3 n3;exact ⟨m',hm,σ3,H3,I3,w3⟩
  | brk=>exact q3
  | ret v=>exact q3
 | false =>
  rw [if_neg bS];exact wpAny_execs_nil ⟨σ1,H2,I2,q2⟩
end
structure It where
 go:Nat->Hp->Prop
 yld:Nat->Hp->V->Hp->Prop
 stop:Nat->Hp->Prop
def jE(X:Cx)(pins:List (Addr × Obj))(H:Hp)(b:Addr):Prop :=
 H b=none/\b≠X.env.locals/\b ∉ X.fs/\(b∈X.ex\/X.s₀.heap.objs.size<=b)/\(∀x c,X.env.cells.lookup x=some c->c≠b)/\∀p∈X.pn++pins,p.1≠b
theorem cF.fpOk{X:Cx}{pins:List (Addr × Obj)}{σ:St}{H H':Hp}{s:Shared}{b:Addr}(I:cF X pins σ H s)(hb:s.heap.objs.size<=b)(hn:H' b=none):jE X pins H' b:=by
 refine ⟨hn,Nat.ne_of_gt (aV I.lt hb),I.nofs hb,.inr (aW I.sz hb),λx c e z=>?_,λp hp z=>?_⟩
 ·obtain ⟨v,q⟩:=I.cell x c e;exact absurd (aV q.lt (by rw [z];exact hb)) (cG _)
 ·exact absurd (aV (aY (I.pin p hp).1) (by rw [z];exact hb)) (cG _)
structure DI(P:Program)(w:World)(K:PySem.W.Frag)(tg:Expr)(J:It)(fp:List Addr)(it:Addr)(tn:Nat->Heap->Prop):Prop where
 mem:it∈fp
 obj:∀i h,tn i h->∀b∈fp,∃o,h.get? b=some o/\∀v,o.data ≠ .cell v
 keep:∀i h h',tn i h->(∀b∈fp,∀o,h.get? b=some o->h'.get? b=some o)->tn i h'
 item:∀(X:Cx),X.prog=P->X.w=w->X.K=K->X.calm=true->∀(i:Nat) (pins:List (Addr × Obj)) (s:Shared) (σ:St) (H:Hp) (E:Value->Shared->Prop),cF X pins σ H s->(∀b∈fp,jE X pins H b)->tn i s.heap->J.go i H ->
  wpAny (model P w) X.A (pyNext (.ref it)) (λr s1=>∃u,r=some u /\
   wpAny (model P w) X.A (letOwnedTupleGo tg (.ref it) u) (λ_ s2=>∃x H',cF X pins σ H' s2/\dO x u/\J.yld i H x H'/\tn (i+1) s2.heap/\∀b∈fp,H' b=none) E s1) E s
 done:∀(X:Cx),X.prog=P->X.w=w->X.K=K->X.calm=true->∀(i:Nat) (pins:List (Addr × Obj)) (s:Shared) (σ:St) (H:Hp) (E:Value->Shared->Prop),cF X pins σ H s->(∀b∈fp,jE X pins H b)->tn i s.heap->J.stop i H ->
  wpAny (model P w) X.A (pyNext (.ref it)) (λr s1=>r=none/\cF X pins σ H s1) E s
 self:∀(A:Around) (i:Nat) (s:Shared) (Q:Value->Shared->Prop) (E:Value->Shared->Prop),tn i s.heap->Q (.ref it) s->wpAny (model P w) A (pyIter (.ref it)) Q E s
abbrev TI:=St->Hp->(It->Hp->Prop)->Prop
def PIE(X:Cx)(pins:List (Addr × Obj))(σ:St)(tg:Expr)(R:It->Hp->Prop)(itv:Value)(s2:Shared):Prop :=
 ∃(it:Addr) (fp:List Addr) (tn:Nat->Heap->Prop) (J:It) (H':Hp),itv=.ref it/\cF X pins σ H' s2/\DI X.prog X.w X.K tg J fp it tn/\tn 0 s2.heap/\(∀b∈fp,jE X pins H' b)/\R J H'
def PI(X:Cx)(tg iter:Expr)(wi:TI):Prop :=
 ∀(pins:List (Addr × Obj)) (s:Shared) (σ:St) (H:Hp) (R:It->Hp->Prop),cF X pins σ H s->wi σ H R ->
  wpAny (model X.prog X.w) X.A (eval iter X.env) (λv s1=>wpAny (model X.prog X.w) X.A (pyIter v) (PIE X pins σ tg R) X.xe s1) X.xe s
theorem NJ{M:Model}{A:Around}{E:Value->Shared->Prop}{s:Shared}{tg:Expr}{it:Addr}{u:Value}{o:Obj}{n:String}{vs:Array Value}{Q:Unit->Shared->Prop}(ho:s.heap.get? it=some o)(hc:o.cls=.type n)(hd:o.data=.fields vs)
    (hn:["enumerate","zip","dict_itemiterator","dict_reverseitemiterator","odict_iterator","itertools.zip_longest","itertools.pairwise"].contains n=false) (hQ:Q () s):wpAny M A (letOwnedTupleGo tg (.ref it) u) Q E s:=by
  unfold letOwnedTupleGo;cases tg <;> first
    | exact wpAny_pure hQ
    | (cases u <;> first
        | exact wpAny_pure hQ
        | (refine wpAny_bind (wpAny_load ho ?_)
           rw [hc,hd];show wpAny M A (if (["enumerate","zip","dict_itemiterator","dict_reverseitemiterator","odict_iterator","itertools.zip_longest","itertools.pairwise"].contains n&&vs[0]? == some (rawInt _))=true then _ else _) Q E s;rw [if_neg (by intro h;rw [hn,Bool.false_and] at h;cases h)];exact wpAny_pure hQ))
def VO(K:PySem.W.Frag)(a:Addr):It :=
 ⟨λi H=>∃xs x,fM K H a xs/\xs[i]?=some x,λi H x H'=>H'=H/\∀xs,fM K H a xs->xs[i]?=some x,λi H=>∃xs,fM K H a xs/\xs.length<=i⟩
def ZZ(K:PySem.W.Frag)(a:Addr):It :=
 ⟨λi H=>∃xs x,fF K H a xs/\xs[i]?=some x,λi H x H'=>H'=H/\∀xs,fF K H a xs->xs[i]?=some x,λi H=>∃xs,fF K H a xs/\xs.length<=i⟩
def UC(lo:Int)(n:Nat):It:=⟨λi _=>i<n,λi H x H'=>H'=H/\x=.int (lo+i),λi _=>n<=i⟩
theorem HZ{P:Program}{w:World}{K:PySem.W.Frag}{tg:Expr}(a it:Addr):DI P w K tg (VO K a) [it] it (λi h=>h.IsListIter it a i) where
 mem:=by simp
 obj:=λi h st b hb=>by
  have e:b=it:=by simpa using hb
  subst e;obtain ⟨o,e,c,d⟩:=st;exact ⟨o,e,λv z=>by rw [d] at z;cases z⟩
 keep:=λi h h' st k=>st.at λo e=>k it (by simp) o e
 item:=by
  intro X hP hw hK hc i pins s σ H E I hf st hg;subst hP hw hK;obtain ⟨xs,x,hq,hx⟩:=hg;obtain ⟨its,rv,p,hz⟩:=I.list hq;obtain ⟨u,hu,ru⟩:=rv.get hx;obtain ⟨f0,f1,f2,f3,f4,f5⟩:=hf it (by simp);refine wpAny_pyNext_list_item st p.isList (x:=u) (by simpa using hu) λh' st' sb=>?_;have I1:cF X pins σ H { s with heap:=h' }:=I.turned (t':=s.toks) (λb o hb e=>(sb.2 b hb).trans e) f0 f1 f3 f4 f5;obtain ⟨o,e,c,d⟩:=id st';exact ⟨u,rfl,NJ (s:={ s with heap:=h' }) e c d Dd ⟨x,H,I1,ru,⟨rfl,λys hy=>by rw [I.list_inj hy hq];exact hx⟩,st',λb hb=>(hf b hb).1⟩⟩
 done:=by
  intro X hP hw hK hc i pins s σ H E I hf st hg;subst hP hw hK;obtain ⟨xs,hq,hx⟩:=hg;obtain ⟨its,rv,p,hz⟩:=I.list hq;obtain ⟨f0,f1,f2,f3,f4,f5⟩:=hf it (by simp);have hl:=rv.length;exact wpAny_pyNext_list_end (I.ok.hd hc) st p.isList (by simp;omega) λh' eb=>⟨rfl,I.turned (t':=s.toks) (λb o hb e=>eb b o hb e) f0 f1 f3 f4 f5⟩
 self:=λ_ _ _ _ _ st h=>wpAny_pyIter_listiter st h
theorem DO{P:Program}{w:World}{K:PySem.W.Frag}{tg:Expr}(a it:Addr):DI P w K tg (ZZ K a) [it] it (λi h=>h.IsTupleIter it a i) where
 mem:=by simp
 obj:=λi h st b hb=>by
  have e:b=it:=by simpa using hb
  subst e;obtain ⟨o,e,c,d⟩:=st;exact ⟨o,e,λv z=>by rw [d] at z;cases z⟩
 keep:=λi h h' st k=>st.at λo e=>k it (by simp) o e
 item:=by
  intro X hP hw hK hc i pins s σ H E I hf st hg;subst hP hw hK;obtain ⟨xs,x,hq,hx⟩:=hg;obtain ⟨its,rv,p,hz⟩:=I.tuple hq;obtain ⟨u,hu,ru⟩:=rv.get hx;obtain ⟨f0,f1,f2,f3,f4,f5⟩:=hf it (by simp);refine wpAny_pyNext_tuple_item st (show s.heap.IsTuple a its.toArray from p) (x:=u) (by simpa using hu) λh' st' sb=>?_;have I1:cF X pins σ H { s with heap:=h' }:=I.turned (t':=s.toks) (λb o hb e=>(sb.2 b hb).trans e) f0 f1 f3 f4 f5;obtain ⟨o,e,c,d⟩:=id st';exact ⟨u,rfl,NJ (s:={ s with heap:=h' }) e c d Dd ⟨x,H,I1,ru,⟨rfl,λys hy=>by rw [I.tuple_inj hy hq];exact hx⟩,st',λb hb=>(hf b hb).1⟩⟩
 done:=by
  intro X hP hw hK hc i pins s σ H E I hf st hg;subst hP hw hK;obtain ⟨xs,hq,hx⟩:=hg;obtain ⟨its,rv,p,hz⟩:=I.tuple hq;obtain ⟨f0,f1,f2,f3,f4,f5⟩:=hf it (by simp);have hl:=rv.length;exact wpAny_pyNext_tuple_end (I.ok.hd hc) st (show s.heap.IsTuple a its.toArray from p) (by simp;omega) λh' eb=>⟨rfl,I.turned (t':=s.toks) (λb o hb e=>eb b o hb e) f0 f1 f3 f4 f5⟩
 self:=λ_ _ _ _ _ st h=>wpAny_pyIter_tupleiter st h
theorem DP{P:Program}{w:World}{K:PySem.W.Frag}{tg:Expr}(it:Addr)(lo:Int)(n:Nat):DI P w K tg (UC lo n) [it] it (λi h=>IsRangeIter h it (lo+(i:Nat)*1) ((n:Int)-(i:Nat)) 1) where
 mem:=by simp
 obj:=λi h st b hb=>by
  have e:b=it:=by simpa using hb
  subst e;exact ⟨_,st,λv z=>by
   have z':Data.fields _=Data.cell v:=z;cases z'⟩
 keep:=λi h h' st k=>k it (by simp) _ st
 item:=by
  intro X hP hw hK hc i pins s σ H E I hf st hg;subst hP hw hK;obtain ⟨f0,f1,f2,f3,f4,f5⟩:=hf it (by simp);have W:=Walks.range (prog:=X.prog) (w:=X.w) (I.ok.hd hc) it lo 1 n;refine W.item i s _ _ hg st λv h' tk hv st' kk=>?_;obtain ⟨t,rfl⟩:=hv;have I1:cF X pins σ H { s with heap:=h',toks:=tk }:=I.turned (λb o hb e=>kk b o (by simpa using hb) e) f0 f1 f3 f4 f5;refine ⟨_,rfl,NJ (s:={ s with heap:=h',toks:=tk }) (n := "range_iterator") st' rfl rfl Dd ⟨.int (lo+i),H,I1,⟨t,?_⟩,⟨rfl,rfl⟩,st',λb hb=>(hf b hb).1⟩⟩;rw [Int.mul_one]
 done:=by
  intro X hP hw hK hc i pins s σ H E I hf st hg;subst hP hw hK;obtain ⟨f0,f1,f2,f3,f4,f5⟩:=hf it (by simp);exact wpAny_pyNext_range_end (I.ok.hd hc) st (by have:n<=i:=hg;omega) λh' eb=>⟨rfl,I.turned (t':=s.toks) (λb o hb e=>eb b o hb e) f0 f1 f3 f4 f5⟩
 self:=λ_ _ _ _ _ st h=>wpAny_pyIter_rangeiter st h
section
variable{X:Cx}{tg:Expr}
def VC(K:PySem.W.Frag)(tl:TE):TI:=λσ H R=>tl σ H λx H1=>∃a,x=.ref a/\(∃xs,fM K H1 a xs)/\R (VO K a) H1
def aA1(K:PySem.W.Frag)(tl:TE):TI:=λσ H R=>tl σ H λx H1=>∃a,x=.ref a/\(∃xs,fF K H1 a xs)/\R (ZZ K a) H1
theorem RN{l:Expr}{tl:TE}(hl:PE X l tl):PI X tg l (VC X.K tl):=by
 intro pins s σ H R I h;refine thn (hl pins s σ H _ I h) λv s1 ⟨x,H1,I1,r1,q1⟩=>?_;obtain ⟨a,e,⟨xs,hq⟩,q⟩:=q1;subst e;cases r1;obtain ⟨its,rv,p,hz⟩:=I1.list hq;refine wpAny_pyIter_list p.isList ?_;refine ⟨s1.heap.objs.size,[s1.heap.objs.size],_,_,H1,rfl,I1.kept (t':=s1.toks) λb o e=>aB _ e,HZ a _,⟨_,aU _ rfl,rfl,rfl⟩,λb hb=>?_,q⟩;have e:b=s1.heap.objs.size:=by simpa using hb
 subst e;exact I1.fpOk (aJ _) (I1.hok.fresh (aJ _))
theorem YA{l:Expr}{tl:TE}(hl:PE X l tl):PI X tg l (aA1 X.K tl):=by
 intro pins s σ H R I h;refine thn (hl pins s σ H _ I h) λv s1 ⟨x,H1,I1,r1,q1⟩=>?_;obtain ⟨a,e,⟨xs,hq⟩,q⟩:=q1;subst e;cases r1;obtain ⟨its,rv,p,hz⟩:=I1.tuple hq;refine wpAny_pyIter_tuple (show s1.heap.IsTuple a its.toArray from p) ?_;refine ⟨s1.heap.objs.size,[s1.heap.objs.size],_,_,H1,rfl,I1.kept (t':=s1.toks) λb o e=>aB _ e,DO a _,⟨_,aU _ rfl,rfl,rfl⟩,λb hb=>?_,q⟩;have e:b=s1.heap.objs.size:=by simpa using hb
 subst e;exact I1.fpOk (aJ _) (I1.hok.fresh (aJ _))
theorem MB{pins:List (Addr × Obj)}{σ:St}{H:Hp}{s:Shared}{R:It->Hp->Prop}{E:Value->Shared->Prop}{lo hi:Int}{t u v:Tok}{tk:Nat}(I:cF X pins σ H s)(h1:-(2^62)<=lo)(h2:lo<2^62)(h3:-(2^62)<=hi)(h4:hi<2^62)
  (q:R (UC lo (hi-lo).toNat) H):wpAny (model X.prog X.w) X.A (pyIter (.ref s.heap.objs.size)) (PIE X pins σ tg R) E { s with heap:=s.heap.push { cls:=.type "range",data:=.fields #[.int lo t,.int hi u,.int 1 v] },toks:=tk }:=by
 refine wpAny_pyIter_range (IsRange.new ..) (small_one h1 h2 h3 h4) ?_;have I1:cF X pins σ H { s with heap:=s.heap.push { cls:=.type "range",data:=.fields #[.int lo t,.int hi u,.int 1 v] },toks:=tk }:=I.kept λb o e=>aB _ e;refine ⟨(s.heap.push { cls:=.type "range",data:=.fields #[.int lo t,.int hi u,.int 1 v] }).objs.size,[(s.heap.push { cls:=.type "range",data:=.fields #[.int lo t,.int hi u,.int 1 v] }).objs.size],_,_,H,rfl,
  I1.kept (t':=tk) λb o e=>aB _ e,DP _ lo (hi-lo).toNat,?_,λb hb=>?_,q⟩
 ·have e1:lo+((0:Nat):Int)*1=lo:=by simp
  have e2:(((hi-lo).toNat:Nat):Int)-((0:Nat):Int)=Builtin.Range.rangeSize lo hi 1:=by rw [rangeSize_one];split <;> omega
  show IsRangeIter _ _ (lo+((0:Nat):Int)*1) ((((hi-lo).toNat:Nat):Int)-((0:Nat):Int)) 1;rw [e1,e2];exact aU _ rfl
 ·have e:b=(s.heap.push { cls:=.type "range",data:=.fields #[.int lo t,.int hi u,.int 1 v] }).objs.size:=by simpa using hb
  subst e;exact I1.fpOk (aJ _) (I1.hok.fresh (aJ _))
def VB(ta:TA):TI:=λσ H R=>ta σ H λvs H1=>∃j:Int,vs=[.int j]/\-(2^62)<=j/\j<2^62/\R (UC 0 j.toNat) H1
theorem IR{a:Expr}{ta:TA}{p pos:Pos}(hg:Gl X "range")(hm:X.mg "range" = none)(ha:PA X [a] ta)(hs:starEach [a] X.env=[(false,eval a X.env)]:=by rfl):PI X tg (.Call (.Name "range" p) [a] [] pos) (VB ta):=by
 intro pins s σ H R I h;refine Call_ (vN I hg hm boot_range (PyProof.Rows.callWith_type1 (thn (ha pos pins s σ H _ I h) λus s1 ⟨vs,H1,I1,r1,q1⟩=>?_) hs rfl));obtain ⟨j,e,q1,q2,q⟩:=q1;subst e;cases r1 with
 | cons r rr =>
  cases rr;obtain ⟨t,rfl⟩:=r;exact call_range_1 (MB I1 Oo Oo q1 q2 (by simpa using q))
def aAt(wi:TI)(g:TG)(tb:TS):TS:=λD σ H=>wi σ H λJ H1=>∃W:Nat->Nat->St->Hp->Prop,(∃m,W 0 m σ H1)/\∀i m σ H,W i m σ H ->
 (J.stop i H/\D.nx σ H)\/(J.go i H/\∃N:St->Hp->Prop,(∀σ' H',N σ' H'->∃m',m' < m/\W (i+1) m' σ' H')/\∀x H',J.yld i H x H'->g x σ H' λσ2 H2=>tb { D with nx:=N,ct:=N,bk:=D.nx } σ2 H2)
def sE(fp:List Addr)(h:Heap):List (Addr × Obj):=fp.filterMap λb=>(h.get? b).map λo=>(b,o)
theorem jC{fp:List Addr}{h:Heap}{b:Addr}{o:Obj}(hb:b∈fp)(e:h.get? b=some o):(b,o)∈sE fp h:=List.mem_filterMap.mpr ⟨b,hb,by rw [e];rfl⟩
theorem IU{fp:List Addr}{h:Heap}{p:Addr × Obj}(hp:p∈sE fp h):p.1∈fp/\h.get? p.1=some p.2:=by
 obtain ⟨b,hb,e⟩:=List.mem_filterMap.mp hp;cases q:h.get? b with
 | none=>rw [q] at e;cases e
 | some o =>
  rw [q] at e;have e':(b,o)=p:=dX e;subst e';exact ⟨hb,q⟩
theorem cF.pinned{pins:List (Addr × Obj)}{σ:St}{H:Hp}{s:Shared}{fp:List Addr}(I:cF X pins σ H s)(hf:∀b∈fp,jE X pins H b)(ho:∀b∈fp,∃o,s.heap.get? b=some o/\∀v,o.data ≠ .cell v):cF X (pins++sE fp s.heap) σ H s :=
 I.pins_of λp hp=>(cT.mp hp).elim (λz=>I.pin p (bL _ z)) λz=>by
  obtain ⟨hb,e⟩:=IU z;obtain ⟨f0,f1,f2,_⟩:=hf p.1 hb;obtain ⟨o,e',d⟩:=ho p.1 hb;rw [e] at e';cases e';exact ⟨e,f0,f1,f2,d⟩
theorem cF.unpinned{pins pl:List (Addr × Obj)}{σ:St}{H:Hp}{s:Shared}(I:cF X (pins++pl) σ H s):cF X pins σ H s:=I.pins_of λp hp=>I.pin p (bL _ (cJ _ hp))
theorem XV{iter:Expr}{body:List Stmt}{wi:TI}{g:TG}{tb:TS}{pos:Pos}(hp:PassesOwn (model X.prog X.w) X.A X.env X.xe)(hc:X.calm=true)(hi:PI X tg iter wi)(hg:PG X tg g)(hb:FF X body tb)
  (hs:∀x,foldedSetIterable iter X.env x=pure x:=by intro _;rfl):PS X (.For tg iter body [] pos) (aAt wi g tb):=by
 intro pins s σ H D I h;refine wpAny_For (thn (hi pins s σ H _ I h) λv s1 h1=>thn h1 λitv s2 h2=>?_) hs;obtain ⟨it,fp,tn,J,H2,e,I2,T,st2,f2,W,⟨m0,w0⟩,turn⟩:=h2;subst e;have stat:∀{H':Hp},(∀b∈fp,H' b=none)->∀b∈fp,jE X pins H' b:=λhn b hb=>⟨hn b hb,(f2 b hb).2⟩;refine codeAny_forLoop_any (λn s'=>∃i σ' H',cF X pins σ' H' s'/\tn i s'.heap/\(∀b∈fp,H' b=none)/\W i n σ' H') ?_ m0 ⟨0,σ,H2,I2,st2,λb hb=>(f2 b hb).1,w0⟩;rintro n s3 ⟨i,σ3,H3,I3,st3,fr3,w3⟩;rcases turn i n σ3 H3 w3 with ⟨stop,qn⟩ | ⟨go,N,hN,step⟩
 ·refine wpAny_passesOwn hp (thn (T.done X rfl rfl rfl hc i pins s3 σ3 H3 X.xe I3 (stat fr3) st3 stop) λr s4 ⟨hr,I4⟩=>?_);subst hr;exact wpAny_execs_nil ⟨σ3,H3,I4,qn⟩
 ·refine wpAny_passesOwn hp (thn (T.item X rfl rfl rfl hc i pins s3 σ3 H3 X.xe I3 (stat fr3) st3 go) λr s4 ⟨u,hr,h4⟩=>?_);subst hr;refine wpAny_passesOwn hp (thn h4 λ_ s5 ⟨x,H5,I5,r5,y5,st5,fr5⟩=>?_);have I5':=I5.pinned (stat fr5) (T.obj _ _ st5);refine wpAny_passesOwn hp (thn (hg _ s5 σ3 H5 x u _ I5' r5 (step x H5 y5)) λ_ s6 ⟨σ6,H6,I6,q6⟩=>?_);refine wpAny_passesOwn hp (thn (hb _ s6 σ6 H6 _ I6 q6) λf s7 q7=>?_);have again:∀{σ7:St} {H7:Hp},cF X (pins++sE fp s5.heap) σ7 H7 s7->N σ7 H7->∃m,m<n/\∃i σ' H',cF X pins σ' H' s7/\tn i s7.heap/\(∀b∈fp,H' b=none)/\W i m σ' H':=λ{σ7 H7} I7 n7=>by
   obtain ⟨m',hm,w7⟩:=hN σ7 H7 n7;refine ⟨m',hm,i+1,σ7,H7,I7.unpinned,T.keep _ _ _ st5 λb hb o e=>(I7.pin (b,o) (bL _ (bL _ (jC hb e)))).1,λb hb=>?_,w7⟩;obtain ⟨o,e,d⟩:=T.obj _ _ st5 b hb;exact (I7.pin (b,o) (bL _ (bL _ (jC hb e)))).2.1
  cases f with
  | next=>obtain ⟨σ7,H7,I7,n7⟩:=q7;exact again I7 n7
  | cont=>obtain ⟨σ7,H7,I7,n7⟩:=q7;exact again I7 n7
  | brk=>obtain ⟨σ7,H7,I7,q7⟩:=q7;exact ⟨σ7,H7,I7.unpinned,q7⟩
  | ret v=>obtain ⟨x7,σ7,H7,I7,r7,q7⟩:=q7;exact ⟨x7,σ7,H7,I7.unpinned,r7,q7⟩
end
theorem mF{K:PySem.W.Frag}{a:Addr}{xs:List V}{g:TG}{tb:TS}{D:sW}{σ:St}{H:Hp}(Pv:Nat->St->Hp->Prop)(h0:Pv 0 σ H)(hl:∀i σ H,i<=xs.length->Pv i σ H->fM K H a xs)
  (hs:∀i x σ H,xs[i]?=some x->Pv i σ H->g x σ H λσ2 H2=>tb { D with nx:=Pv (i+1),ct:=Pv (i+1),bk:=D.nx } σ2 H2) (hd:∀σ H,Pv xs.length σ H->D.nx σ H) :
  ∃W:Nat->Nat->St->Hp->Prop,(∃m,W 0 m σ H)/\∀i m σ H,W i m σ H ->
   ((VO K a).stop i H/\D.nx σ H)\/((VO K a).go i H/\∃N:St->Hp->Prop,(∀σ' H',N σ' H'->∃m',m' < m/\W (i+1) m' σ' H')/\∀x H',(VO K a).yld i H x H'->g x σ H' λσ2 H2=>tb { D with nx:=N,ct:=N,bk:=D.nx } σ2 H2):=by
 refine ⟨λi m σ H=>m=xs.length-i/\i<=xs.length/\Pv i σ H,⟨xs.length,by simp,cM _,h0⟩,?_⟩;rintro i m σ H ⟨rfl,hi,p⟩;have q:=hl i σ H hi p;by_cases hlt:i<xs.length
 ·refine .inr ⟨⟨xs,xs[i],q,by simp [hlt]⟩,Pv (i+1),λσ' H' p'=>⟨xs.length-(i+1),Oo,rfl,hlt,p'⟩,λx H' y=>?_⟩;obtain ⟨e,y⟩:=y;subst e;exact hs i x σ _ (y xs q) p
 ·have e:i=xs.length:=Oo;subst e;exact .inl ⟨⟨xs,q,aJ _⟩,hd σ H p⟩
theorem AO{K:PySem.W.Frag}{a:Addr}{xs:List V}{g:TG}{tb:TS}{D:sW}{σ:St}{H:Hp}(Pv:Nat->St->Hp->Prop)(h0:Pv 0 σ H)(hl:∀i σ H,i<=xs.length->Pv i σ H->fF K H a xs)
  (hs:∀i x σ H,xs[i]?=some x->Pv i σ H->g x σ H λσ2 H2=>tb { D with nx:=Pv (i+1),ct:=Pv (i+1),bk:=D.nx } σ2 H2) (hd:∀σ H,Pv xs.length σ H->D.nx σ H) :
  ∃W:Nat->Nat->St->Hp->Prop,(∃m,W 0 m σ H)/\∀i m σ H,W i m σ H ->
   ((ZZ K a).stop i H/\D.nx σ H)\/((ZZ K a).go i H/\∃N:St->Hp->Prop,(∀σ' H',N σ' H'->∃m',m' < m/\W (i+1) m' σ' H')/\∀x H',(ZZ K a).yld i H x H'->g x σ H' λσ2 H2=>tb { D with nx:=N,ct:=N,bk:=D.nx } σ2 H2):=by
 refine ⟨λi m σ H=>m=xs.length-i/\i<=xs.length/\Pv i σ H,⟨xs.length,by simp,cM _,h0⟩,?_⟩;rintro i m σ H ⟨rfl,hi,p⟩;have q:=hl i σ H hi p;by_cases hlt:i<xs.length
 ·refine .inr ⟨⟨xs,xs[i],q,by simp [hlt]⟩,Pv (i+1),λσ' H' p'=>⟨xs.length-(i+1),Oo,rfl,hlt,p'⟩,λx H' y=>?_⟩;obtain ⟨e,y⟩:=y;subst e;exact hs i x σ _ (y xs q) p
 ·have e:i=xs.length:=Oo;subst e;exact .inl ⟨⟨xs,q,aJ _⟩,hd σ H p⟩
theorem oZ{lo:Int}{n:Nat}{g:TG}{tb:TS}{D:sW}{σ:St}{H:Hp}(Pv:Nat->St->Hp->Prop)(h0:Pv 0 σ H)
  (hs:∀i σ H,i<n->Pv i σ H->g (.int (lo+i)) σ H λσ2 H2=>tb { D with nx:=Pv (i+1),ct:=Pv (i+1),bk:=D.nx } σ2 H2) (hd:∀σ H,Pv n σ H->D.nx σ H) :
  ∃W:Nat->Nat->St->Hp->Prop,(∃m,W 0 m σ H)/\∀i m σ H,W i m σ H ->
   ((UC lo n).stop i H/\D.nx σ H)\/((UC lo n).go i H/\∃N:St->Hp->Prop,(∀σ' H',N σ' H'->∃m',m' < m/\W (i+1) m' σ' H')/\∀x H',(UC lo n).yld i H x H'->g x σ H' λσ2 H2=>tb { D with nx:=N,ct:=N,bk:=D.nx } σ2 H2):=by
 refine ⟨λi m σ H=>m=n-i/\i<=n/\Pv i σ H,⟨n,by simp,cM _,h0⟩,?_⟩;rintro i m σ H ⟨rfl,hi,p⟩;by_cases hlt:i<n
 ·refine .inr ⟨hlt,Pv (i+1),λσ' H' p'=>⟨n-(i+1),Oo,rfl,hlt,p'⟩,λx H' y=>?_⟩;obtain ⟨e,y⟩:=y;subst e y;exact hs i σ _ hlt p
 ·have e:i=n:=Oo;subst e;exact .inl ⟨aJ _,hd σ H p⟩
abbrev R2:=V->V->Hp->VK->Prop
def pW(X:Cx)(f:Value->Value->Sem Value)(r:R2):Prop :=
 ∀(pins:List (Addr × Obj)) (s:Shared) (σ:St) (H:Hp) (x y:V) (v u:Value) (Q:VK),cF X pins σ H s->dO x v->dO y u->r x y H Q ->
  wpAny (model X.prog X.w) X.A (f v u) (EP X pins σ Q) X.xe s
def UnR(X:Cx)(f:Value->Sem Value)(r:V->Hp->VK->Prop):Prop :=
 ∀(pins:List (Addr × Obj)) (s:Shared) (σ:St) (H:Hp) (x:V) (v:Value) (Q:VK),cF X pins σ H s->dO x v->r x H Q ->
  wpAny (model X.prog X.w) X.A (f v) (EP X pins σ Q) X.xe s
def iP(X:Cx)(f:Value)(r:List V->Hp->VK->Prop):Prop :=
 ∀(pins:List (Addr × Obj)) (s:Shared) (σ:St) (H:Hp) (xs:List V) (us:List Value) (Q:VK),cF X pins σ H s->cZ xs us->r xs H Q ->
  wpAny (model X.prog X.w) X.A (call f us) (EP X pins σ Q) X.xe s
def QA(r:R2)(ta tb:TE):TE:=λσ H Q=>ta σ H λx H1=>tb σ H1 λy H2=>r x y H2 Q
def tUn(r:V->Hp->VK->Prop)(ta:TE):TE:=λσ H Q=>ta σ H λx H1=>r x H1 Q
def rI(C:Int->Int->Prop)(g:Int->Int->V):R2:=λx y H Q=>∃i j,x=.int i/\y=.int j/\C i j/\Q (g i j) H
def rI0(g:Int->Int->V):R2:=λx y H Q=>∃i j,x=.int i/\y=.int j/\Q (g i j) H
def rU(g:Int->V):V->Hp->VK->Prop:=λx H Q=>∃i,x=.int i/\Q (g i) H
section
variable{X:Cx}{a b c:Expr}{ta tb tc:TE}{pos:Pos}
theorem ZT(ha:PE X a ta)(hb:PE X b tb){pins:List (Addr × Obj)}{s:Shared}{σ:St}{H:Hp}{R:V->V->Hp->Prop}(I:cF X pins σ H s)
  (h:ta σ H λx H1=>tb σ H1 λy H2=>R x y H2) {Q:Value->Shared->Prop} {f:Value->Value->Sem Value}
  (hf:∀v u s2 x y H2,cF X pins σ H2 s2->dO x v->dO y u->R x y H2->wpAny (model X.prog X.w) X.A (f v u) Q X.xe s2) :
  wpAny (model X.prog X.w) X.A (eval a X.env) (λv s₁=>wpAny (model X.prog X.w) X.A (eval b X.env) (λu s₂=>wpAny (model X.prog X.w) X.A (f v u) Q X.xe s₂) X.xe s₁) X.xe s:=by
 refine thn (ha pins s σ H _ I h) λv s1 ⟨x,H1,I1,r1,q1⟩=>?_;refine thn (hb pins s1 σ H1 _ I1 q1) λu s2 ⟨y,H2,I2,r2,q2⟩=>?_;exact hf v u s2 x y H2 I2 r1 r2 q2
theorem aAM{op:Operator}{r:R2}(ho:pW X (binaryOp op) r)(ha:PE X a ta)(hb:PE X b tb):PE X (.BinOp a op b pos) (QA r ta tb):=by
 intro pins s σ H Q I h;exact wpAny_BinOp (ZT ha hb I h λv u s2 x y H2 I2 rx ry q=>ho pins s2 σ H2 x y v u Q I2 rx ry q)
theorem aAL{op:UnaryOp}{r:V->Hp->VK->Prop}(ho:UnR X (unaryOp op) r)(ha:PE X a ta):PE X (.UnaryOp op a pos) (tUn r ta):=by
 intro pins s σ H Q I h;exact UnaryOp_ (thn (ha pins s σ H _ I h) λv s1 ⟨x,H1,I1,r1,q1⟩=>ho pins s1 σ H1 x v Q I1 r1 q1)
theorem opI{f:Value->Value->Sem Value}{C:Int->Int->Prop}{g:Int->Int->Int}
  (rule:∀(i j:Int) (t u:Tok) (s:Shared) (Q:Value->Shared->Prop) (E:Value->Shared->Prop),C i j->Q (.int (g i j) s.toks) { s with toks:=s.toks+1 }->wpAny (model X.prog X.w) X.A (f (.int i t) (.int j u)) Q E s) :
  pW X f (rI C λi j=>.int (g i j)):=by
 intro pins s σ H x y v u Q I rx ry h;obtain ⟨i,j,rfl,rfl,hc,q⟩:=h;obtain ⟨t,rfl⟩:=rx;obtain ⟨t',rfl⟩:=ry;exact rule i j t t' s _ _ hc ⟨.int (g i j),H,I.tok _,⟨_,rfl⟩,q⟩
theorem aAT{f:Value->Value->Sem Value}{g:Int->Int->Int}
  (rule:∀(i j:Int) (t u:Tok) (s:Shared) (Q:Value->Shared->Prop) (E:Value->Shared->Prop),Q (.int (g i j) s.toks) { s with toks:=s.toks+1 }->wpAny (model X.prog X.w) X.A (f (.int i t) (.int j u)) Q E s) :
  pW X f (rI0 λi j=>.int (g i j)):=by
 intro pins s σ H x y v u Q I rx ry h;obtain ⟨i,j,rfl,rfl,q⟩:=h;obtain ⟨t,rfl⟩:=rx;obtain ⟨t',rfl⟩:=ry;exact rule i j t t' s _ _ ⟨.int (g i j),H,I.tok _,⟨_,rfl⟩,q⟩
theorem aAU{f:Value->Value->Sem Value}{g:Int->Int->Bool}
  (rule:∀(i j:Int) (t u:Tok) (s:Shared) (Q:Value->Shared->Prop) (E:Value->Shared->Prop),Q (.bool (g i j)) s->wpAny (model X.prog X.w) X.A (f (.int i t) (.int j u)) Q E s) :
  pW X f (rI0 λi j=>.bl (g i j)):=by
 intro pins s σ H x y v u Q I rx ry h;obtain ⟨i,j,rfl,rfl,q⟩:=h;obtain ⟨t,rfl⟩:=rx;obtain ⟨t',rfl⟩:=ry;exact rule i j t t' s _ _ ⟨.bl (g i j),H,I,rfl,q⟩
def aC5(i j:Int):Prop:=0<=j/\j<=1000000/\i.natAbs<2^64
theorem fR:pW X (binaryOp .Add) (rI0 λi j=>.int (i+j)):=aAT λ_ _ _ _ _ _ _ q=>add_int q
theorem zY:pW X (binaryOp .Sub) (rI0 λi j=>.int (i-j)):=aAT λ_ _ _ _ _ _ _ q=>sub_int q
theorem oI:pW X (binaryOp .Mod) (rI (λ_ j=>0<j) λi j=>.int (i % j)):=opI λi j _ _ _ _ _ hc q=>by
 have h1:(0:Int)<j:=hc;exact mod_int' Oo (by rw [Int.fmod_eq_emod_of_nonneg i Oo];exact q)
theorem YG:pW X (binaryOp .Pow) (rI aC5 λi j=>.int (i^j.toNat)):=opI λ_ _ _ _ _ _ _ hc q=>pow_int_small hc.1 hc.2.1 hc.2.2 q
theorem unI{f:Value->Sem Value}{g:Int->Int}
  (rule:∀(i:Int) (t:Tok) (s:Shared) (Q:Value->Shared->Prop) (E:Value->Shared->Prop),Q (.int (g i) s.toks) { s with toks:=s.toks+1 }->wpAny (model X.prog X.w) X.A (f (.int i t)) Q E s) :
  UnR X f (rU λi=>.int (g i)):=by
 intro pins s σ H x v Q I rx h;obtain ⟨i,rfl,q⟩:=h;obtain ⟨t,rfl⟩:=rx;exact rule i t s _ _ ⟨.int (g i),H,I.tok _,⟨_,rfl⟩,q⟩
theorem yW:UnR X (unaryOp .USub) (rU λi=>.int (-i)):=unI λ_ _ _ _ _ q=>neg_int q
end
def scal:V->V->Bool
 | .non,.non=>true | .non,.int _=>true | .int _,.non=>true | .non,.bl _=>true | .bl _,.non=>true | .non,.str _=>true | .str _,.non=>true
 | .int _,.int _=>true | .bl _,.bl _=>true | .str _,.str _=>true | .byt _,.byt _=>true
 | .int _,.str _=>true | .str _,.int _=>true | .bl _,.str _=>true | .str _,.bl _=>true
 | _,_=>false
def rEq:R2:=λx y H Q=>scal x y=true/\Q (.bl (decide (x=y))) H
def rNe:R2:=λx y H Q=>scal x y=true/\Q (.bl (!decide (x=y))) H
theorem HA{i j:Int}:decide (V.int i=V.int j)=(i == j):=by
 rw [Bool.eq_iff_iff];simp
theorem NS{i j:Bool}:decide (V.bl i=V.bl j)=(i == j):=by
 rw [Bool.eq_iff_iff];simp
theorem GZ{i j:Str}:decide (V.str i=V.str j)=(i == j):=by
 rw [Bool.eq_iff_iff];simp
theorem HB{i j:Array UInt8}:decide (V.byt i=V.byt j)=(i.toList == j.toList):=by
 rw [Bool.eq_iff_iff];cases i;cases j;simp
section
variable{X:Cx}{a b c:Expr}{ta tb tc:TE}{pos:Pos}
theorem dW{pins:List (Addr × Obj)}{σ:St}{H:Hp}{s:Shared}{Q:VK}{k k':Bool}(I:cF X pins σ H s)(q:Q (.bl k) H)(e:k=k'):EP X pins σ Q (.bool k') s:=by
 subst e;exact ⟨.bl k,H,I,rfl,q⟩
theorem pK:pW X (compareOp .Eq) rEq:=by
 intro pins s σ H x y v u Q I rx ry h;obtain ⟨hs,q⟩:=h;cases x with
 | non =>
  cases rx;cases y with
  | non=>cases ry;exact PySem.EqNone.eq_none_none (dW I q (by simp))
  | bl j=>cases ry;exact PySem.EqNone.eq_none_bool (dW I q (by simp))
  | int j=>obtain ⟨t',rfl⟩:=ry;exact PySem.EqNone.eq_none_int (dW I q (by simp))
  | str j=>obtain ⟨t',rfl⟩:=ry;exact PySem.EqNone.eq_none_str (dW I q (by simp))
  | _=>exact absurd (show false=true from hs) bS
 | bl i =>
  cases rx;cases y with
  | non=>cases ry;exact PySem.EqNone.eq_bool_none (dW I q (by simp))
  | bl j=>cases ry;exact eq_bool (dW I q NS)
  | str j=>obtain ⟨t',rfl⟩:=ry;exact PySem.EqMixed.eq_bool_str (dW I q (by simp))
  | _=>exact absurd (show false=true from hs) bS
 | int i =>
  obtain ⟨t,rfl⟩:=rx;cases y with
  | non=>cases ry;exact PySem.EqNone.eq_int_none (dW I q (by simp))
  | int j=>obtain ⟨t',rfl⟩:=ry;exact eq_int (dW I q HA)
  | str j=>obtain ⟨t',rfl⟩:=ry;exact PySem.EqMixed.eq_int_str (dW I q (by simp))
  | _=>exact absurd (show false=true from hs) bS
 | str i =>
  obtain ⟨t,rfl⟩:=rx;cases y with
  | non=>cases ry;exact PySem.EqNone.eq_str_none (dW I q (by simp))
  | bl j=>cases ry;exact PySem.EqMixed.eq_str_bool (dW I q (by simp))
  | int j=>obtain ⟨t',rfl⟩:=ry;exact PySem.EqMixed.eq_str_int (dW I q (by simp))
  | str j=>obtain ⟨t',rfl⟩:=ry;exact eq_str (dW I q GZ)
  | _=>exact absurd (show false=true from hs) bS
 | byt i =>
  obtain ⟨t,rfl⟩:=rx;cases y with
  | byt j=>obtain ⟨t',rfl⟩:=ry;exact PySem.W.eq_bytes (dW I q HB)
  | _=>exact absurd (show false=true from hs) bS
 | _=>cases y <;> exact absurd (show false=true from hs) bS
theorem aAR:pW X (compareOp .NotEq) rNe:=by
 intro pins s σ H x y v u Q I rx ry h;obtain ⟨hs,q⟩:=h;cases x with
 | non =>
  cases rx;cases y with
  | non=>cases ry;exact PySem.EqNone.ne_none_none (dW I q (by simp))
  | bl j=>cases ry;exact PySem.EqNone.ne_none_bool (dW I q (by simp))
  | int j=>obtain ⟨t',rfl⟩:=ry;exact PySem.EqNone.ne_none_int (dW I q (by simp))
  | str j=>obtain ⟨t',rfl⟩:=ry;exact PySem.EqNone.ne_none_str (dW I q (by simp))
  | _=>exact absurd (show false=true from hs) bS
 | bl i =>
  cases rx;cases y with
  | non=>cases ry;exact PySem.EqNone.ne_bool_none (dW I q (by simp))
  | bl j=>cases ry;exact ne_bool (dW I q (congrArg not NS))
  | str j=>obtain ⟨t',rfl⟩:=ry;exact PySem.EqMixed.ne_bool_str (dW I q (by simp))
  | _=>exact absurd (show false=true from hs) bS
 | int i =>
  obtain ⟨t,rfl⟩:=rx;cases y with
  | non=>cases ry;exact PySem.EqNone.ne_int_none (dW I q (by simp))
  | int j=>obtain ⟨t',rfl⟩:=ry;exact ne_int (dW I q (congrArg not HA))
  | str j=>obtain ⟨t',rfl⟩:=ry;exact PySem.EqMixed.ne_int_str (dW I q (by simp))
  | _=>exact absurd (show false=true from hs) bS
 | str i =>
  obtain ⟨t,rfl⟩:=rx;cases y with
  | non=>cases ry;exact PySem.EqNone.ne_str_none (dW I q (by simp))
  | bl j=>cases ry;exact PySem.EqMixed.ne_str_bool (dW I q (by simp))
  | int j=>obtain ⟨t',rfl⟩:=ry;exact PySem.EqMixed.ne_str_int (dW I q (by simp))
  | str j=>obtain ⟨t',rfl⟩:=ry;exact ne_str (dW I q (congrArg not GZ))
  | _=>exact absurd (show false=true from hs) bS
 | byt i =>
  obtain ⟨t,rfl⟩:=rx;cases y with
  | byt j=>obtain ⟨t',rfl⟩:=ry;exact PySem.W.ne_bytes (dW I q (congrArg not HB))
  | _=>exact absurd (show false=true from hs) bS
 | _=>cases y <;> exact absurd (show false=true from hs) bS
theorem aAS:pW X (compareOp .Lt) (rI0 λi j=>.bl (decide (i<j))):=aAU λ_ _ _ _ _ _ _ q=>lt_int q
theorem xO:pW X (compareOp .Gt) (rI0 λi j=>.bl (decide (j<i))):=aAU λ_ _ _ _ _ _ _ q=>gt_int q
theorem MS:pW X (compareOp .Is) (λx y H Q=>y=.non/\Q (.bl (decide (x=.non))) H):=by
 intro pins s σ H x y v u Q I rx ry h;obtain ⟨rfl,q⟩:=h;cases ry;refine is_none_gen (dW I q ?_);cases x <;> first
  | (cases rx;rfl)
  | (obtain ⟨t,rfl⟩:=rx;rfl)
theorem nomark(b:Expr){op:CmpOp}(h:op ≠ .In:=by decide)(h2:op ≠ .NotIn:=by decide):behindInMarks op b=false:=by
 have e1:(op == CmpOp.In)=false:=by cases op <;> first | rfl | exact absurd rfl h
 have e2:(op == CmpOp.NotIn)=false:=by cases op <;> first | rfl | exact absurd rfl h2
 cases b <;> simp [behindInMarks,e1,e2]
theorem RY{op:CmpOp}{r:R2}(ho:pW X (compareOp op) r)(ha:PE X a ta)(hb:PE X b tb)(hm:behindInMarks op b=false):PE X (.Compare a [op] [b] pos) (QA r ta tb):=by
 intro pins s σ H Q I h;exact wpAny_Compare1 (ZT ha hb I h λv u s2 x y H2 I2 rx ry q=>ho pins s2 σ H2 x y v u Q I2 rx ry q) hm
def UK(t:TE):TT:=λσ H Q=>t σ H λx H'=>∃k,x=.bl k/\Q k H'
theorem RE{op:CmpOp}{r:R2}(ho:pW X (compareOp op) r)(ha:PE X a ta)(hb:PE X b tb)(hm:behindInMarks op b=false):PT X (.Compare a [op] [b] pos) (UK (QA r ta tb)):=by
 intro pins s σ H Q I h;refine wpAny_isTrue_Compare1 (thn (ha pins s σ H _ I h) λv s1 ⟨x,H1,I1,r1,q1⟩=>thn (hb pins s1 σ H1 _ I1 q1) λu s2 ⟨y,H2,I2,r2,q2⟩ =>
  thn (ho pins s2 σ H2 x y v u _ I2 r1 r2 q2) λc s3 ⟨z,H3,I3,r3,k,e,q3⟩=>?_) hm
 subst e;cases r3;exact wpAny_truthy_bool ⟨H3,I3,q3⟩
theorem vK:(sizeLine:Nat)<2^63:=by rw [sizeLine_eq];decide
theorem lN{x:V}{us:List Value}(r:cZ [x] us):∃u,us=[u]/\dO x u:=by
 cases r with
 | cons r1 r2=>cases r2;exact ⟨_,rfl,r1⟩
theorem UI{x y:V}{us:List Value}(r:cZ [x,y] us):∃u w',us=[u,w']/\dO x u/\dO y w':=by
 cases r with
 | cons r1 r2 =>
  cases r2 with
  | cons r3 r4=>cases r4;exact ⟨_,_,rfl,r1,r3⟩
theorem OD:iP X (.builtin "abs") (λxs H Q=>∃i,xs=[.int i]/\Q (.int (if i<0 then -i else i)) H):=by
 intro pins s σ H xs us Q I r h;obtain ⟨i,rfl,q⟩:=h;obtain ⟨u,rfl,t,rfl⟩:=lN r;exact call_abs_int λu tk=>⟨.int (if i<0 then -i else i),H,I.tok _,⟨_,rfl⟩,q⟩
theorem xZ(hc:X.calm=true):iP X (.builtin "max") (λxs H Q=>∃i j,xs=[.int i,.int j]/\Q (.int (if j > i then j else i)) H):=by
 intro pins s σ H xs us Q I r h;obtain ⟨i,j,rfl,q⟩:=h;obtain ⟨u,w',rfl,⟨t,rfl⟩,⟨t',rfl⟩⟩:=UI r;refine max_two_ints (I.ok.hd hc) λh' tk k=>⟨_,H,I.kept k,?_,q⟩;by_cases hj:j > i
 ·rw [if_pos hj,if_pos hj];exact ⟨_,rfl⟩
 ·rw [if_neg hj,if_neg hj];exact ⟨_,rfl⟩
theorem JP:iP X (.type "int") (λxs H Q=>(∃i,xs=[.int i]/\Q (.int i) H)\/∃k,xs=[.bl k]/\Q (.int (if k then 1 else 0)) H):=by
 intro pins s σ H xs us Q I r h;rcases h with ⟨i,rfl,q⟩ | ⟨k,rfl,q⟩
 ·obtain ⟨u,rfl,t,rfl⟩:=lN r;exact call_int_int ⟨.int i,H,I,⟨_,rfl⟩,q⟩
 ·obtain ⟨u,rfl,r1⟩:=lN r;cases r1;exact call_int_bool ⟨.int (if k then 1 else 0),H,I.tok _,⟨_,rfl⟩,q⟩
def aBi(K:PySem.W.Frag)(x:V)(H:Hp)(n:Nat):Prop :=
 match x with
 | .str y=>y.length<=sizeLine/\n=y.length
 | .byt y=>y.size<=sizeLine/\n=y.size
 | .ref p=>(∃xs,fM K H p xs/\n=xs.length)\/∃xs,fF K H p xs/\n=xs.length
 | _=>False
theorem OC:iP X (.builtin "len") (λxs H Q=>∃x n,xs=[x]/\aBi X.K x H n/\Q (.int n) H):=by
 intro pins s σ H xs us Q I r h;obtain ⟨x,n,rfl,e,q⟩:=h;obtain ⟨u,rfl,rx⟩:=lN r;have hl:=vK;have hs:sizeLine=16777216:=sizeLine_eq;cases x with
 | str y =>
  obtain ⟨t,rfl⟩:=rx;obtain ⟨hy,e'⟩:y.length<=sizeLine/\n=y.length:=e;subst e';exact len_str Oo ⟨.int _,H,I.tok _,⟨_,rfl⟩,q⟩
 | byt y =>
  obtain ⟨t,rfl⟩:=rx;obtain ⟨hy,e'⟩:y.size<=sizeLine/\n=y.size:=e;subst e';exact PySem.W.len_bytes Oo ⟨.int _,H,I.tok _,⟨_,rfl⟩,q⟩
 | ref p =>
  cases rx;have e':(∃xs,fM X.K H p xs/\n=xs.length)\/∃xs,fF X.K H p xs/\n=xs.length:=e;rcases e' with ⟨xs,hx,e'⟩ | ⟨xs,hx,e'⟩
  ·subst e';obtain ⟨its,r',pl,hz⟩:=I.list hx;have hlen:=r'.length;exact Calls.call_len_list pl.isList (by simp only [bC];omega) ⟨.int xs.length,H,I.tok _,⟨_,by simp only [bC];rw [hlen]⟩,q⟩
  ·subst e';obtain ⟨its,r',pl,hz⟩:=I.tuple hx;have hlen:=r'.length;exact len_tuple pl (by simp only [bC];omega) ⟨.int xs.length,H,I.tok _,⟨_,by simp only [bC];rw [hlen]⟩,q⟩
 | _=>exact (show False from e).elim
end
section
variable{prog:Program}{w:World}{A:Around}{E:Value->Shared->Prop}{s:Shared}{K:PySem.W.Frag}{x dx C f:Addr}{mA:Str->Option Value}{name:Str}{v:Value}
end
theorem tM.some_of{v:V}{o:Option Value}(r:tM (some v) o):∃u,o=some u/\dO v u:=by
 cases o with
 | none=>exact (show False from r).elim
 | some u=>exact ⟨u,rfl,r⟩
section
variable{P:Program}{w:World}{H H':Hp}{h h':Heap}{a C dx:Addr}{fs fs':List (Str × V)}
end
section
variable{X:Cx}{pins:List (Addr × Obj)}{σ:St}{H:Hp}{s:Shared}{a C dx:Addr}{fs:List (Str × V)}{f:Str}{v:V}{A:Around}{E:Value->Shared->Prop}
end
section
variable{X:Cx}{o e value:Expr}{f:Str}{pos pos' tpos:Pos}{ta tv:TE}
end
section
variable{X:Cx}{pins:List (Addr × Obj)}{σ:St}{H:Hp}{s:Shared}{A:Around}{E:Value->Shared->Prop}{Q:Value->Shared->Prop}{c:Value}{b:Bool}
end
structure kC(k:Nat)(A:Around):Prop where
 hd:A.handled=none
 dp:A.depth+3*k+5<recursionLimit
 un:A.units+16*k+200<cLine
 gd:A.guards=some []
theorem kC.mono{j k:Nat}{A:Around}(r:kC k A)(h:j<=k):kC j A:=⟨r.hd,by have:=r.dp;omega,by have:=r.un;omega,r.gd⟩
theorem kC.deeper{k:Nat}{A:Around}(r:kC (k+1) A)(env:Env):kC k (A.deeper env) :=
 ⟨r.hd,by have:=r.dp;show A.depth+1+3*k+5<_;omega,by have:=r.un;show A.units+3+16*k+200<_;omega,r.gd⟩
theorem kC.depth{k:Nat}{A:Around}(r:kC k A):A.depth<recursionLimit:=by have:=r.dp;omega
theorem kC.units{k:Nat}{A:Around}(r:kC k A):A.units+64<cLine:=by have:=r.un;omega
def aAr:TA:=λ_ H Q=>Q [] H
def UQ(ta:TE)(tr:TA):TA:=λσ H Q=>ta σ H λx H1=>tr σ H1 λxs H2=>Q (x::xs) H2
section
variable{X:Cx}{e:Expr}{es:List Expr}{te:TE}{t:TA}{pos:Pos}
theorem pa_nil:PA X [] aAr:=λ_ _ _ _ H Q I h=>Calls.spliced_nil ⟨[],H,I,.nil,h⟩
theorem SA(ha:PE X e te)(hr:PA X es t)(hs:starEach (e::es) X.env=(false,eval e X.env)::starEach es X.env:=by rfl):PA X (e::es) (UQ te t):=by
 intro pos pins s σ H Q I h;rw [hs];show wpAny _ _ (spliced ((false,eval e X.env)::backTo pos (starEach es X.env))) _ _ s;refine Calls.spliced_cons (thn (ha pins s σ H _ I h) λu s1 ⟨x,H1,I1,r1,q1⟩=>?_);exact thn (hr pos pins s1 σ H1 _ I1 q1) λus s2 ⟨xs,H2,I2,r2,q2⟩=>⟨x::xs,H2,I2,.cons r1 r2,q2⟩
def aBD(t:TA):TE:=λσ H Q=>t σ H λxs H1=>xs.length<=sizeLine/\∀p,H1 p=none->Q (.ref p) (upd H1 p (.tup xs))
def aBE(t:TA):TE:=λσ H Q=>t σ H λxs H1=>xs.length<=sizeLine/\∀p,H1 p=none->Q (.ref p) (upd H1 p (.lst xs))
theorem YE{x1}(h:PA X es t):PE X (.Tuple es x1 pos) (aBD t):=by
 intro pins s σ H Q I hq;refine wpAny_Tuple_spliced (thn (h pos pins s σ H _ I hq) λus s1 ⟨xs,H1,I1,r,z,q⟩=>⟨by rw [<-r.length];exact z,?_⟩);have hf:H1 s1.heap.objs.size=none:=I1.hok.fresh (aJ _);refine ⟨.ref s1.heap.objs.size,upd H1 s1.heap.objs.size (.tup xs),I1.laid (t':=s1.toks) (λb u e=>aB _ e) (aJ _) ?_,rfl,q _ hf⟩;exact ⟨⟨z,_,aU _ rfl,rfl⟩,us,r,⟨_,aU _ rfl,rfl,_,rfl⟩⟩
theorem YF(h:PA X es t):PE X (.List es pos) (aBE t):=by
 intro pins s σ H Q I hq;refine wpAny_List_spliced (thn (h pos pins s σ H _ I hq) λus s1 ⟨xs,H1,I1,r,z,q⟩=>⟨by rw [<-r.length];exact z,?_⟩);have hf:H1 s1.heap.objs.size=none:=I1.hok.fresh (aJ _);refine ⟨.ref s1.heap.objs.size,upd H1 s1.heap.objs.size (.lst xs),I1.laid (t':=s1.toks) (λb u e=>aB _ e) (aJ _) ?_,rfl,q _ hf⟩;exact ⟨z,us,0,r,aU _ rfl⟩
end
abbrev Sp:=List V->Hp->VK->XK->Prop
abbrev KB:=List Env->Hp->Shared->XK->Value->Shared->Prop
structure UD(P:Program)(w:World)(K:PySem.W.Frag)(mg:Str->Option Value)(base:Heap)(A:Around)(outer:List Env)(s:Shared)(H:Hp):Prop where
 frames:A.frames=some outer
 mod:Mod K mg base
 bs:∀b o,base.get? b=some o->s.heap.get? b=some o/\H b=none
 bsz:base.objs.size<=s.heap.objs.size
 funs:s.heap.FunFrames base outer
 frf:∀b∈frs outer,H b=none
 hok:nI P w H s.heap
 bare:AllBare s.gens
def CE(outer:List Env)(P:Program)(w:World)(H:Hp)(s:Shared)(Q:VK)(u:Value)(s':Shared):Prop :=
 ∃v H',s'.os=s.os/\AllBare s'.gens/\Un (frs outer) [] H H' s.heap s'.heap/\nI P w H' s'.heap/\dO v u/\Q v H'
def CR(CX:KB)(outer:List Env)(P:Program)(w:World)(H:Hp)(s:Shared)(Q:VK)(E:XK)(r:Result)(s':Shared):Prop :=
 match r with
 | .ok (.ret u)=>CE outer P w H s Q u s'
 | .ok _=>False
 | .error e=>CX outer H s E e s'
structure eA(P:Program)(w:World)(K:PySem.W.Frag)(mg:Str->Option Value)(base:Heap)(CX:KB)(k:Nat)(f:Addr)(fd:FuncData)(ps:List Str)(sp:Sp):Prop where
 len:∀vs H Q E,sp vs H Q E->vs.length=ps.length
 run:∀(A:Around) (outer:List Env) (s:Shared) (H:Hp) (args:Args) (us:List Value) (vs:List V) (Q:VK) (E:XK),kC k A->UD P w K mg base A outer s H->BindsTo s fd args (ps.zip us)->cZ vs us->sp vs H Q E ->
  codeAny (model P w) A (.call (.ref f) args) (CR CX outer P w H s Q E) s
section
variable{X:Cx}{pins:List (Addr × Obj)}{σ:St}{H:Hp}{s s':Shared}
theorem cF.env0(I:cF X pins σ H s):UD X.prog X.w X.K X.mg X.base X.A X.stack s H :=
 ⟨I.ok.frames,I.ok.mod,I.bs,aW I.ok.bsz I.sz,I.stack,I.stkFree,I.hok,I.bare⟩
theorem cF.after{Q:VK}{u:Value}(I:cF X pins σ H s)(h:CE X.stack X.prog X.w H s Q u s'):EP X pins σ Q u s':=by
 obtain ⟨v,H',os,bare,un,hok,r,q⟩:=h;obtain ⟨hh,g,d,t,os'⟩:=s';obtain rfl:os'=s.os:=os;exact ⟨v,H',I.call (h':=hh) (g':=g) (d':=d) (t':=t) (ch:=[]) un hok bare (λb z=>absurd z (by simp)),r,q⟩
end
def LD(sp:Sp)(dvs:List V)(E:XK)(t:TA):TE:=λσ H Q=>t σ H λvs H1=>sp (vs++dvs) H1 Q E
def yO(K:PySem.W.Frag)(fd:FuncData)(ps:List Str)(ds:List Value):Prop :=
 ∀(s:Shared) (us:List Value),K.In s.heap->(us++ds).length=ps.length->BindsTo s fd ⟨us,[]⟩ (ps.zip (us++ds))
theorem yO.all{K:PySem.W.Frag}{fd:FuncData}{ps:List Str}(h:∀us:List Value,us.length=ps.length->bindArgs fd ⟨us,[]⟩=pure (ps.zip us)):yO K fd ps []:=λs us _ hl=>by
 rw [List.append_nil] at hl ⊢;exact .of_eq (h us hl)
def FD(CX:KB)(X:Cx)(E:XK):Prop:=∀(pins:List (Addr × Obj)) (σ:St) (H:Hp) (s:Shared) (e:Value) (s':Shared),cF X pins σ H s->CX X.stack H s E e s'->X.xe e s'
section
variable{X:Cx}{CX:KB}{k:Nat}{f C:Addr}{fd:FuncData}{ps:List Str}{sp:Sp}{dvs:List V}{ds:List Value}{E:XK}{x m:Str}{p pos apos:Pos}{e o:Expr}{es:List Expr}{ta:TE}{t:TA}
theorem XF{pins:List (Addr × Obj)}{σ:St}{H:Hp}{s:Shared}{Q:VK}{us:List Value}{vs:List V}(F:eA X.prog X.w X.K X.mg X.base CX k f fd ps sp)(hr:kC k X.A)(hb:yO X.K fd ps ds)(hd:cZ dvs ds)(hx:FD CX X E)
  (I:cF X pins σ H s) (r:cZ vs us) (h:sp (vs++dvs) H Q E):wpAny (model X.prog X.w) X.A (call (.ref f) us) (EP X pins σ Q) X.xe s:=by
 have r2:cZ (vs++dvs) (us++ds):=r.append hd;have hl:(us++ds).length=ps.length:=by rw [<-r2.length];exact F.len _ _ _ _ h
 refine wpAny_call (codeAny_mono (F.run X.A X.stack s H ⟨us,[]⟩ (us++ds) (vs++dvs) Q E hr I.env0 (hb s us I.kIn hl) r2 h) λr s' hq=>?_);cases r with
 | error e=>exact hx pins σ H s e s' I hq
 | ok fl =>
  cases fl with
  | ret u=>exact I.after hq
  | next=>exact False.elim hq
  | brk=>exact False.elim hq
  | cont=>exact False.elim hq
theorem RZ(F:eA X.prog X.w X.K X.mg X.base CX k f fd ps sp)(hr:kC k X.A)(hg:Gl X x)(hm:X.mg x=some (.ref f))(hk:PySem.W.keepIn X.K (.ref f)=true)(hb:yO X.K fd ps ds)(hd:cZ dvs ds)(hx:FD CX X E)
  (ha:PA X (e::es) t) (hdb:(x == ("__debug__" : Str))=false:=by decide) (he:starEach (e::es) X.env=(false,eval e X.env)::starEach es X.env:=by rfl) (hpl:(backTo pos (starEach es X.env)).any (·.1)=false:=by rfl) :
  PE X (.Call (.Name x p) (e::es) [] pos) (LD sp dvs E t):=by
 intro pins s σ H Q I h;refine wpAny_Call_Name_kw (GI I hg hm ?_ hdb);refine PySem.W.callWith_K (h₀:=X.base) I.ok.mod.kin hk (thn (ha pos pins s σ H _ I h) λus s1 ⟨vs,H1,I1,r,q⟩=>⟨I1.kIn,?_⟩) he hpl;exact XF F hr hb hd hx I1 r q
end
section
variable{X:Cx}{CX:KB}{k:Nat}{f C:Addr}{fd:FuncData}{ps ks:List Str}{sp:Sp}{E:XK}{x m:Str}{p pos apos kpos:Pos}{e o:Expr}{es:List Expr}{kws:List Keyword}{te ta:TE}{t tk:TA}{nm:Option Str}
variable{g:List Value->List Value->List Value}{gV:List V->List V->List V}
end
structure bT(N P:List Str)(sc:Scope):Prop where
 kind:sc.kind=.function
 co:sc.isCoroutine=false
 gen:sc.isGenerator=false
 nd:N.Nodup
 pre:N.take P.length=P
 par:∀x∈P,sc.names.lookup x=some .local\/sc.names.lookup x=some .cell
 nofree:∀y∈sc.names,y.2 ≠ .free
theorem yG{kindOf:Str->Option NameKind}{x:Str}:∀{binds:List (Str × Value)}{m:Str->Option Value},(∀v,(x,v) ∉ binds)->bindL kindOf binds m x=m x
 | [],_,_=>rfl
 | (n,v)::r,m,h=>by
  unfold bindL;rw [yG λw hw=>h w (aM _ hw)];split
  ·have:x≠n:=by rintro rfl;exact h v aL
   simp [this]
  ·rfl
theorem yI{kindOf:Str->Option NameKind}{x:Str}:∀{binds:List (Str × Value)}{m:Str->Option Value},(∀v,(x,v) ∉ binds)->bindC kindOf binds m x=m x
 | [],_,_=>rfl
 | (n,v)::r,m,h=>by
  unfold bindC;rw [yI λw hw=>h w (aM _ hw)];split
  ·rfl
  ·have:x≠n:=by rintro rfl;exact h v aL
   simp [this]
theorem yH{kindOf:Str->Option NameKind}{x:Str}{v:Value}:∀{P:List Str}{vs:List Value}{i:Nat}{m:Str->Option Value},P.Nodup->P[i]?=some x->vs[i]?=some v->kindOf x=some .local ->
  bindL kindOf (P.zip vs) m x=some v
 | [],_,_,_,_,h,_,_=>by simp at h
 | _::_,[],_,_,_,_,h,_=>by simp at h
 | p::P,w::vs,0,m,nd,h1,h2,hk=>by
  simp at h1 h2;subst h1;subst h2;show bindL kindOf ((p,w)::P.zip vs) m p=_;unfold bindL;rw [yG λv hv=>(List.nodup_cons.mp nd).1 (List.of_mem_zip hv).1,if_pos hk];simp
 | p::P,w::vs,i+1,m,nd,h1,h2,hk=>by
  show bindL kindOf ((p,w)::P.zip vs) m x=_;unfold bindL;exact yH (i:=i) (List.nodup_cons.mp nd).2 (by simpa using h1) (by simpa using h2) hk
theorem yJ{kindOf:Str->Option NameKind}{x:Str}{v:Value}:∀{P:List Str}{vs:List Value}{i:Nat}{m:Str->Option Value},P.Nodup->P[i]?=some x->vs[i]?=some v->kindOf x≠some .local ->
  bindC kindOf (P.zip vs) m x=some v
 | [],_,_,_,_,h,_,_=>by simp at h
 | _::_,[],_,_,_,_,h,_=>by simp at h
 | p::P,w::vs,0,m,nd,h1,h2,hk=>by
  simp at h1 h2;subst h1;subst h2;show bindC kindOf ((p,w)::P.zip vs) m p=_;unfold bindC;rw [yI λv hv=>(List.nodup_cons.mp nd).1 (List.of_mem_zip hv).1,if_neg hk];simp
 | p::P,w::vs,i+1,m,nd,h1,h2,hk=>by
  show bindC kindOf ((p,w)::P.zip vs) m x=_;unfold bindC;exact yJ (i:=i) (List.nodup_cons.mp nd).2 (by simpa using h1) (by simpa using h2) hk
def start(N:List Str)(vs:List V):St:=vs.map some++List.replicate (N.length-vs.length) none
def CT(CX:KB)(P:Program)(w:World)(K:PySem.W.Frag)(mg:Str->Option Value)(base:Heap)(N:List Str)(qual:Str)(scope:Scope)(f:Addr)(cd:Value)(A:Around)(outer:List Env)(s:Shared)(H:Hp)(E:XK):Cx where
 prog:=P
 w:=w
 K:=K
 mg:=mg
 base:=base
 A:=A.deeper (envOfC qual scope s.heap.objs.size f cd)
 N:=N
 s₀:=s
 H₀:=H
 env:=envOfC qual scope s.heap.objs.size f cd
 outer:=outer
 stack:=envOfC qual scope s.heap.objs.size f cd::outer
 ex:=[]
 calm:=true
 fn:=λ_=>true
 pn:=[]
 xe:=λe s'=>wpAny (model P w) (A.deeper (envOfC qual scope s.heap.objs.size f cd)) (leaving (envOfC qual scope s.heap.objs.size f cd) e) (λ_ s''=>CX outer H s E e s'') (λe' s''=>CX outer H s E e' s'') s'
theorem DD{sc:Scope}{n:Nat}{x:Str}(h:sc.names.lookup x=some .cell):∃c,(cellsFrom n sc.names []).lookup x=some c:=by
 have q:=PySem.W.cellsFrom_some sc.names n [] (.inl h);exact Option.isSome_iff_exists.mp q
theorem JB{CX:KB}{P:Program}{w:World}{K:PySem.W.Frag}{mg:Str->Option Value}{base:Heap}{N ps:List Str}{qual:Str}{scope:Scope}{f:Addr}{cd:Value}{A:Around}{outer:List Env}{s s1:Shared}{H:Hp}{E:XK}{us:List Value}{vs:List V}
  (S:bT N ps scope) (hd:A.handled=none) (e0:UD P w K mg base A outer s H) (hl:vs.length=ps.length) (r:cZ vs us)
  (x:InCallC s s.heap.objs.size (bindL (envOfC qual scope s.heap.objs.size f cd).kindOf (ps.zip us) λ_=>none) (cellsFrom (s.heap.objs.size+1) scope.names []) (bindC (envOfC qual scope s.heap.objs.size f cd).kindOf (ps.zip us) λ_=>none) s1) :
  cF (CT CX P w K mg base N qual scope f cd A outer s H E) [] (start N vs) H s1:=by
 have hpl:ps.length<=N.length:=by have:=congrArg List.length S.pre;rw [cH] at this;omega
 obtain ⟨h1,tk,rfl,hk⟩:=x.done;have noA:∀b:Addr,b ∉ (CT CX P w K mg base N qual scope f cd A outer s H E).ex:=λb z=>absurd (show b∈([]:List Addr) from z) (by simp);refine ⟨⟨e0.mod,S.kind,rfl,rfl,aJ _,λy z c h1 h2=>?_,λy hy=>?_,λy c _ h=>?_,λ_=>hd,Around.frames_deeper e0.frames,.inr ⟨rfl,rfl⟩,λb z=>absurd z (noA b),e0.bs,e0.bsz,λb _ _=>noA b,λb z=>absurd z (noA b),e0.funs,e0.frf⟩,
  rfl,e0.bare,Un.kept hk,⟨_,x.toInCall.ns,λi y v h1 h2 h3=>?_⟩,λy c h=>⟨_,x.cell y c h⟩,e0.hok.fresh (aJ _),λy c h=>?_,λp hp=>absurd (show p∈([]:List (Addr × Obj)) from hp) (by simp),e0.hok.kept hk,?_⟩
 ·exact name_of_addr x.apart (PySem.mem_of_lookup h1) (PySem.mem_of_lookup h2)
 ·have hy:scope.names.lookup y=some .cell\/scope.names.lookup y=some .free:=hy;rcases hy with hy | hy
  ·exact DD hy
  ·exact absurd rfl (S.nofree _ (PySem.mem_of_lookup hy))
 ·exact Nat.le_of_lt (x.above y c (PySem.mem_of_lookup h))
 ·have hi:i<vs.length:=by
   unfold start at h2;by_cases hi:i<vs.length
   ·exact hi
   ·rw [cN (by simpa using hi)] at h2;rw [List.getElem?_replicate] at h2;split at h2 <;> cases h2
  have ha:vs[i]?=some v:=by
   unfold start at h2;rw [bJ (by simpa using hi),aH] at h2;cases e:vs[i]? with
   | none=>rw [e] at h2;cases h2
   | some a=>rw [e] at h2;cases h2;rfl
  obtain ⟨u,hu,rv⟩:=r.get ha;have hp:ps[i]?=some y:=by
   rw [<-S.pre,List.getElem?_take_of_lt Oo];exact h1
  have ndP:ps.Nodup:=by rw [<-S.pre];exact S.nd.sublist (List.take_sublist _ _)
  refine ⟨u,rv,?_⟩;rcases S.par y (aZ hp) with k | k
  ·exact .inl ⟨k,yH ndP hp hu k⟩
  ·obtain ⟨c,e⟩:=DD (n:=s.heap.objs.size+1) k;refine .inr ⟨.inl k,c,e,?_⟩;have q:=x.cell y c e;rw [yJ ndP hp hu (by show scope.names.lookup y≠_;rw [k];decide)] at q;exact q
 ·exact e0.hok.fresh (Nat.le_of_lt (x.above y c (PySem.mem_of_lookup h)))
 ·unfold start;show _=N.length;rw [aX,aA,bU];omega
theorem aA3{CX:KB}{P:Program}{w:World}{K:PySem.W.Frag}{mg:Str->Option Value}{base:Heap}{k:Nat}{f:Addr}{name qual:Str}{params:Arguments}{body:List Stmt}{scope:Scope}{dV kV doc pm cdv ct oc:Value}{an od:Option Addr}
  {osl:Array (Option Value)} {N ps:List Str} {sp:Sp} (lk:K.lookup f=some ⟨oc,od,.func (PySem.W.fnOf name qual params body scope dV kV doc pm an cdv ct),osl⟩) (hcd:PySem.W.codeIn K cdv qual=true) (S:bT N ps scope)
  (len:∀vs H Q E,sp vs H Q E->vs.length=ps.length)
  (hbody:∀(A:Around) (outer:List Env) (s:Shared) (H:Hp) (vs:List V) (Q:VK) (E:XK),kC k (A.deeper (envOfC qual scope s.heap.objs.size f cdv))->sp vs H Q E ->
   ∃t,FF (CT CX P w K mg base N qual scope f cdv A outer s H E) body t/\t { nx:=λ_ H'=>Q .non H',rt:=Q } (start N vs) H) :
  eA P w K mg base CX (k+1) f (PySem.W.fnOf name qual params body scope dV kV doc pm an cdv ct) ps sp:=by
 refine ⟨len,λA outer s H args us vs Q E hr e0 hb r hsp=>?_⟩;have hl:=len _ _ _ _ hsp;have KX:K.In s.heap:=e0.mod.kin.keeps λb o e=>(e0.bs b o e).1;have lim:s.heap.NoLimit:=e0.mod.nolimit.keeps λb o e=>(e0.bs b o e).1;have hkind:∀y∈ps.zip us,scope.names.lookup y.1=some .local\/(scope.names.lookup y.1=some .cell/\((cellsFrom (s.heap.objs.size+1) scope.names []).lookup y.1).isSome=true):=λ⟨n,v⟩ hy=>by
  rcases S.par n (List.of_mem_zip hy).1 with q | q
  ·exact .inl q
  ·exact .inr ⟨q,PySem.W.cellsFrom_some _ _ _ (.inl q)⟩
 refine codeAny_call_function hr.depth (KX _ _ lk) rfl S.co S.gen rfl (PySem.W.codeRec_of KX hcd) (hb _ _ _ _ ?_);refine wpAny_newFunctionEnv_cells S.kind hkind λenv he s1 x=>?_;subst he;refine ⟨lim.keeps x.toInCall.keep,codeAny_func ?_⟩;obtain ⟨t,ht,hq⟩:=hbody A outer s H vs Q E (hr.deeper _) hsp;have I:cF (CT CX P w K mg base N qual scope f cdv A outer s H E) [] (start N vs) H s1:=JB S hr.hd e0 hl r x;refine wpAny_mono (ht [] s1 (start N vs) H _ I hq) (λfl s' hs=>?_) λe s' hs=>hs;have fin:∀{σ':St} {H':Hp} {v:V} {u:Value},cF (CT CX P w K mg base N qual scope f cdv A outer s H E) [] σ' H' s'->dO v u->Q v H'->CE outer P w H s Q u s' :=
  λ{σ' H' v u} J rv q=>⟨v,H',J.os,J.bare,J.base,J.hok,rv,q⟩
 cases fl with
 | ret u =>
  obtain ⟨v,σ',H',J,rv,q⟩:=hs;exact fin J rv q
 | next =>
  obtain ⟨σ',H',J,q⟩:=hs;exact fin (v:=V.non) (u:=Value.none) J rfl q
 | brk =>
  obtain ⟨_,_,_,q⟩:=hs;exact False.elim q
 | cont =>
  obtain ⟨_,_,_,q⟩:=hs;exact False.elim q
section
variable{X:Cx}{x:Str}{p pos:Pos}{e:Expr}{es:List Expr}{t:TA}{id T:String}{r:List V->Hp->VK->Prop}
def tCB(r:List V->Hp->VK->Prop)(t:TA):TE:=λσ H Q=>t σ H λvs H1=>r vs H1 Q
theorem MO(hc:iP X (.builtin id) r)(hg:Gl X x)(hm:X.mg x=none)(hv:bootBuiltins x=some (.builtin id))(ha:PA X (e::es) t)(hn:x ≠ "__name__" := by decide)(hdb:(x == ("__debug__" : Str))=false:=by decide)
  (he:starEach (e::es) X.env=(false,eval e X.env)::starEach es X.env:=by rfl) (hpl:(backTo pos (starEach es X.env)).any (·.1)=false:=by rfl):PE X (.Call (.Name x p) (e::es) [] pos) (tCB r t):=by
 intro pins s σ H Q I h;refine wpAny_Call_Name_kw (vN I hg hm hv ?_ hn hdb);exact PyProof.Rows.callWith_builtin1 (thn (ha pos pins s σ H _ I h) λus s1 ⟨vs,H1,I1,r1,q1⟩=>hc pins s1 σ H1 vs us Q I1 r1 q1) he hpl
theorem IS(hc:iP X (.type T) r)(hg:Gl X x)(hm:X.mg x=none)(hv:bootBuiltins x=some (.type T))(ha:PA X (e::es) t)(hn:x ≠ "__name__" := by decide)(hdb:(x == ("__debug__" : Str))=false:=by decide)
  (he:starEach (e::es) X.env=(false,eval e X.env)::starEach es X.env:=by rfl) (hpl:(backTo pos (starEach es X.env)).any (·.1)=false:=by rfl):PE X (.Call (.Name x p) (e::es) [] pos) (tCB r t):=by
 intro pins s σ H Q I h;refine wpAny_Call_Name_kw (vN I hg hm hv ?_ hn hdb);exact PyProof.Rows.callWith_type1 (thn (ha pos pins s σ H _ I h) λus s1 ⟨vs,H1,I1,r1,q1⟩=>hc pins s1 σ H1 vs us Q I1 r1 q1) he hpl
end
end L2
namespace HT
open PySem PyProof.Rows
section
open PySem.SeqAt
open PySem.AutoSeq1 (wpAny_loadPart')
open PySem.MeetsSeq PySem.MeetsSeq2 PySem.MeetsSeq3
end
section
variable{prog:Program}{w:World}{A:Around}{E:Value->Shared->Prop}{s:Shared}
theorem TJ{t b:Addr}{vs ws:List Value}{Q:Value->Shared->Prop}(ht:IsTup s.heap t vs.toArray)(hb:IsTup s.heap b ws.toArray)(hv:vs≠[])
  (h1:ws=[]->Q (.ref t) s) (h2:ws≠[]->Q (.ref s.heap.objs.size) { s with heap:=s.heap.push { cls:=.type "tuple",data:=.seq (vs++ws).toArray } })
  (hsz:vs.length+ws.length<=sizeLine):wpAny (model prog w) A (binaryOp .Add (.ref t) (.ref b)) Q E s:=by
 obtain ⟨⟨cls,dd,data,sl⟩,ho,hc,n,hd⟩:=id ht;obtain ⟨⟨cls2,dd2,data2,sl2⟩,ho2,hc2,n2,hd2⟩:=id hb;simp only at hc hd hc2 hd2;subst hc hd hc2 hd2;have e:vs.toArray++ws.toArray=(vs++ws).toArray:=by simp
 by_cases hw:ws=[]
 ·exact concat_meets ⟨_,ho,rfl⟩ ⟨_,ho2,rfl⟩ noFill_tuple_add seq_tuple_add PySem.F.slot_tuple_add PySem.F.entry_tuple_add (PySem.F.args_tuple_add_2 _ _)
   (tuple_addW1 t b vs.toArray ws.toArray n n2 dd dd2 sl sl2 (by simpa using hv) (by simp [hw])) ⟨ho,ho2,h1 hw⟩
 ·refine concat_meets ⟨_,ho,rfl⟩ ⟨_,ho2,rfl⟩ noFill_tuple_add seq_tuple_add PySem.F.slot_tuple_add PySem.F.entry_tuple_add (PySem.F.args_tuple_add_2 _ _)
   (tuple_addW2 t b vs.toArray ws.toArray n n2 dd dd2 sl sl2 (by simpa using hv) (by simpa using hw) (by rw [bC,bC];exact hsz)) ⟨ho,ho2,?_⟩
  rw [e];exact h2 hw
def iE(n d:Nat):Option Int->Nat
 | none=>d
 | some v=>if v<0 then (v+(n:Int)).toNat else min v.toNat n
theorem BS(n d:Nat):iE n d none=d:=rfl
theorem FT(n d k:Nat):iE n d (some (k:Int))=min k n:=by
 show (if (k:Int)<0 then ((k:Int)+(n:Int)).toNat else min (k:Int).toNat n)=min k n;rw [if_neg Oo,Int.toNat_natCast]
theorem XB(n d:Nat)(hd:d<=n)(o:Option Int):iE n d o<=n:=by
 cases o with
 | none=>exact hd
 | some v =>
  show (if v<0 then (v+(n:Int)).toNat else min v.toNat n)<=n;by_cases hv:v<0
  ·rw [if_pos hv];omega
  ·rw [if_neg hv];exact Nat.min_le_right _ _
theorem HF(v:Int)(n d:Nat):(if v<0 then max (v+(n:Int)) 0 else min v (n:Int))=((iE n d (some v):Nat):Int):=by
 show (if v<0 then max (v+(n:Int)) 0 else min v (n:Int))=(((if v<0 then (v+(n:Int)).toNat else min v.toNat n):Nat):Int);by_cases hv:v<0
 ·simp only [if_pos hv];omega
 ·simp only [if_neg hv];omega
theorem FB(lo hi:Option Int)(n:Nat):Builtin.Slice.sliceAdjust lo hi 1 (n:Int)=(((iE n 0 lo:Nat):Int),((iE n n hi:Nat):Int)):=by
 have h1:¬((1:Int)<0):=Oo;unfold Builtin.Slice.sliceAdjust;simp only [h1,if_false];refine Prod.ext ?_ ?_
 ·cases lo with
  | none=>rfl
  | some v=>exact HF v n 0
 ·cases hi with
  | none=>rfl
  | some v=>exact HF v n n
theorem EM(i j:Nat):Builtin.Slice.slicePlaces (i:Int) (j:Int) 1=j-i:=by
 unfold Builtin.Slice.slicePlaces;have h1:(1:Int) > 0:=Oo;simp only [h1,if_true,Int.ediv_one];split <;> omega
theorem uY{v:Value}{o:Option Int}{Q:Option Int->Shared->Prop}(p:IsPart v o)(h:Q o s):wpAny (model prog w) A (Builtin.Slice.slicePartIndex v) Q E s:=by
 cases p with
 | none=>exact slicePart_none h
 | int i t=>exact slicePart_int h
theorem lY{sl:Addr}{vl vu:Value}{lo hi:Option Int}{n:Nat}{Q:Int × Int × Nat->Shared->Prop}(hs:s.heap.IsSliceOf sl vl vu .none)(pl:IsPart vl lo)(pu:IsPart vu hi)
  (h:Q (((iE n 0 lo:Nat):Int),1,iE n n hi-iE n 0 lo) s):wpAny (model prog w) A (Builtin.Slice.sliceApplied (.ref sl) (pure (n:Int))) Q E s:=by
 obtain ⟨os,hos,hcs,hds⟩:=id hs;unfold Builtin.Slice.sliceApplied Builtin.Slice.sliceFields;refine wpAny_bind (wpAny_bind (wpAny_field hos hds (x:=vl) rfl (wpAny_bind (wpAny_field hos hds (x:=vu) rfl (wpAny_bind (wpAny_field hos hds (x:=.none) rfl (wpAny_pure ?_)))))));refine wpAny_bind (slicePart_none ?_);show wpAny _ _ (if ((1:Int) == 0)=true then _ else _) _ _ s;rw [if_neg Dd];refine wpAny_bind (uY pl (wpAny_bind (uY pu (wpAny_bind (wpAny_pure ?_)))));show wpAny _ _ (match Builtin.Slice.sliceAdjust lo hi 1 (n:Int) with | (lo,hi)=>pure (lo,(1:Int),Builtin.Slice.slicePlaces lo hi 1)) _ _ s;rw [FB lo hi n];show wpAny _ _ (pure (((iE n 0 lo:Nat):Int),(1:Int),Builtin.Slice.slicePlaces ((iE n 0 lo:Nat):Int) ((iE n n hi:Nat):Int) 1)) _ _ s;rw [EM];exact wpAny_pure h
theorem MJ(xs:Array Value)(i k:Nat):((List.range k).filterMap λ(m:Nat)=>xs[((i:Int)+(m:Int)*1).toNat]?).toArray=((xs.toList.drop i).take k).toArray:=by
 have e:(λ(m:Nat)=>xs[((i:Int)+(m:Int)*1).toNat]?)=λm=>xs[i+m]?:=by
  funext m
  have:((i:Int)+(m:Int)*1).toNat=i+m:=Oo;rw [this]
 rw [e];have:=pick_run xs i k;rw [List.filterMap_map] at this;have e2:((λx=>xs[x]?) ∘ λx=>i+x)=λm=>xs[i+m]?:=rfl;rw [e2] at this;rw [this]
theorem qW{t sl:Addr}{items:Array Value}{vl vu:Value}{lo hi:Option Int}{Q:Value->Shared->Prop}(ht:IsTup s.heap t items)(hs:s.heap.IsSliceOf sl vl vu .none)(pl:IsPart vl lo)(pu:IsPart vu hi)
  (hw:¬(iE items.size 0 lo=0/\iE items.size items.size hi=items.size))
  (h:Q (.ref s.heap.objs.size) { s with heap:=s.heap.push { cls:=.type "tuple",data:=.seq ((items.toList.drop (iE items.size 0 lo)).take (iE items.size items.size hi-iE items.size 0 lo)).toArray } })
  (hsz:items.size<=sizeLine):wpAny (model prog w) A (getItem (.ref t) (.ref sl)) Q E s:=by
 have htake:sizeOk (.seq ((items.toList.drop (iE items.size 0 lo)).take (iE items.size items.size hi-iE items.size 0 lo)).toArray):=by
  show ((items.toList.drop (iE items.size 0 lo)).take (iE items.size items.size hi-iE items.size 0 lo)).toArray.size<=sizeLine;rw [bC,cH,List.length_drop,Array.length_toList];omega
 have hj:iE items.size items.size hi<=items.size:=XB _ _ (aJ _) hi;obtain ⟨os,hos,hcs,hds⟩:=id hs;have hTs:s.TypeIs (.ref sl) "slice" := ⟨os,hos,hcs⟩;unfold getItem
 try with_reducible refine wpAny_holding ?_
 first | refine wpAny_bind (wpAny_pure ?_) | skip
 refine wpAny_bind (wpAny_sequenceKey ht.typeIs Dd ?_);refine wpAny_bind (wpAny_callSpecial?_slot (name:=Str.ofString "__getitem__") ht.typeIs PyProof.Rows.slot_tuple_getitem
  (wpAny_call_entry PyProof.Rows.slot_tuple_getitem ht.typeIs entry_tuple_getitem ?_ (args_tuple_getitem _ _)))
 show wpAny _ _ (Builtin.Tuple.tupleItemsOf (.ref t) >>= _) _ _ s;refine wpAny_bind (tupleItemsOf_ ht ?_);refine wpAny_bind (wpAny_typeOf hTs ?_);rw [if_pos Dd];refine wpAny_bind (lY hs pl pu ?_);have hno:¬((((iE items.size 0 lo:Nat):Int) == 0&&(1:Int) == 1&&(iE items.size items.size hi-iE items.size 0 lo) == items.size)=true):=by
  intro q;rw [dP,dP] at q;have q1:((iE items.size 0 lo:Nat):Int)=0:=eq_of_beq q.1.1;have q2:iE items.size items.size hi-iE items.size 0 lo=items.size:=eq_of_beq q.2;exact hw ⟨Oo,Oo⟩
 show wpAny _ _ (if (((iE items.size 0 lo:Nat):Int) == 0&&(1:Int) == 1&&(iE items.size items.size hi-iE items.size 0 lo) == items.size)=true then _ else _) _ _ s;rw [if_neg hno,MJ]
 first
  | exact wpAny_bind (m:=Builtin.Tuple.tupleExact _) (wpAny_newObj_type (wpAny_pure ⟨_,rfl,wpAny_pure h⟩) htake)
  | exact wpAny_bind (m:=Builtin.Tuple.tupleExact _) (wpAny_newObj_type (wpAny_bind (wpAny_pure (wpAny_pure ⟨_,rfl,wpAny_pure h⟩))) htake)
  | exact wpAny_bind (wpAny_bind (m:=Builtin.Tuple.tupleExact _) (wpAny_newObj_type (wpAny_pure (wpAny_pure ⟨_,rfl,wpAny_pure h⟩)) htake))
  | exact wpAny_bind (wpAny_bind (m:=Builtin.Tuple.tupleExact _) (wpAny_newObj_type (wpAny_pure ⟨_,rfl,wpAny_pure h⟩) htake))
end
end HT
namespace L2
open PySem PySem.Spec PyProof.Rows
abbrev TO:=St->Hp->(Option Int->Hp->Prop)->Prop
def PO(X:Cx)(e:Option Expr)(t:TO):Prop :=
 ∀(pins:List (Addr × Obj)) (s:Shared) (σ:St) (H:Hp) (Q:Option Int->Hp->Prop),cF X pins σ H s->t σ H Q ->
  wpAny (model X.prog X.w) X.A (evalPart e X.env) (λu s'=>∃o H',cF X pins σ H' s'/\IsPart u o/\Q o H') X.xe s
def FQ:TO:=λ_ H Q=>Q none H
def UL(t:TE):TO:=λσ H Q=>t σ H λx H1=>∃i,x=.int i/\Q (some i) H1
theorem vP{ns:List Int}:∀{us:List Value},cZ (ns.map V.int) us->IntsAre us ns:=by
 induction ns with
 | nil=>intro us r;rw [List.map_nil] at r;cases r;exact .nil
 | cons n ns ih =>
  intro us r;rw [aP] at r;cases r with
  | cons r1 r2 =>
   obtain ⟨t,e⟩:=r1;subst e;exact .cons n t (ih r2)
section
variable{X:Cx}{e:Expr}{te:TE}{lo hi:Option Expr}{tl th:TO}{pos p2:Pos}
theorem po_none:PO X none FQ:=by
 intro pins s σ H Q I h;rw [evalPart_none];exact wpAny_pure ⟨none,H,I,.none,h⟩
theorem RJ(h:PE X e te):PO X (some e) (UL te):=by
 intro pins s σ H Q I hw;rw [evalPart_some];refine thn (h pins s σ H _ I hw) λu s1 ⟨x,H1,I1,r1,q1⟩=>?_;obtain ⟨i,rfl,q⟩:=q1;obtain ⟨t,rfl⟩:=r1;exact ⟨some i,H1,I1,.int i t,q⟩
def SlR(X:Cx)(r:V->Option Int->Option Int->Hp->VK->Prop):Prop :=
 ∀(pins:List (Addr × Obj)) (s:Shared) (σ:St) (H:Hp) (x:V) (v vl vu:Value) (lo hi:Option Int) (sl:Addr) (Q:VK),cF X pins σ H s->dO x v->s.heap.IsSliceOf sl vl vu .none->IsPart vl lo->IsPart vu hi->r x lo hi H Q ->
  ∃T id,typeLookup (.type T) "__getitem__" = pure (some (.builtin id))/\s.TypeIs v T/\wpAny (model X.prog X.w) X.A (getItem v (.ref sl)) (EP X pins σ Q) X.xe s
def tSl(r:V->Option Int->Option Int->Hp->VK->Prop)(te:TE)(tl th:TO):TE:=λσ H Q=>te σ H λx H1=>tl σ H1 λl H2=>th σ H2 λu H3=>r x l u H3 Q
theorem ML{r:V->Option Int->Option Int->Hp->VK->Prop}(hr:SlR X r)(he:PE X e te)(hl:PO X lo tl)(hu:PO X hi th):PE X (.Subscript e (.Slice lo hi none p2) pos) (tSl r te tl th):=by
 intro pins s σ H Q I h;refine Subscript_ (thn (he pins s σ H _ I h) λv s1 ⟨x,H1,I1,r1,q1⟩=>?_);refine wpAny_Slice (thn (hl pins s1 σ H1 _ I1 q1) λvl s2 ⟨l,H2,I2,pl,q2⟩=>thn (hu pins s2 σ H2 _ I2 q2) λvu s3 ⟨u,H3,I3,pu,q3⟩=>?_);rw [evalPart_none];refine wpAny_pure ?_;have I4:cF X pins σ H3 { s3 with heap:=s3.heap.push { cls:=.type "slice",data:=.fields #[vl,vu,.none] } }:=I3.kept (t':=s3.toks) λb ob q=>aB _ q;obtain ⟨T,id,hT,ht,hg⟩:=hr pins { s3 with heap:=s3.heap.push { cls:=.type "slice",data:=.fields #[vl,vu,.none] } } σ H3 x v vl vu l u s3.heap.objs.size Q I4 r1 (Heap.IsSliceOf.new ..) pl pu q3;show wpAny (model X.prog X.w) X.A (subscriptTail e (.Slice lo hi none p2) v (.ref s3.heap.objs.size)) (EP X pins σ Q) X.xe { s3 with heap:=s3.heap.push { cls:=.type "slice",data:=.fields #[vl,vu,.none] } };exact tail_any (ops:=[.ref s3.heap.objs.size,v]) ht hT hg (by with_unfolding_all rfl)
def sN(xs:List V)(lo hi:Option Int):List V:=(xs.drop (HT.iE xs.length 0 lo)).take (HT.iE xs.length xs.length hi-HT.iE xs.length 0 lo)
theorem tG(xs:List V)(lo hi:Option Int):(sN xs lo hi).length<=xs.length:=by
 unfold sN;rw [cH,List.length_drop];omega
def aBS(K:PySem.W.Frag):V->Option Int->Option Int->Hp->VK->Prop:=λx lo hi H Q=>∃a xs,x=.ref a/\fF K H a xs /\
 ¬(HT.iE xs.length 0 lo=0/\HT.iE xs.length xs.length hi=xs.length)/\∀p,H p=none->Q (.ref p) (upd H p (.tup (sN xs lo hi)))
theorem WC:SlR X (aBS X.K):=by
 intro pins s σ H x v vl vu lo hi sl Q I rx hs pl pu h;obtain ⟨a,xs,rfl,hx,hw,q⟩:=h;cases rx;obtain ⟨its,r,ht,hz⟩:=I.tuple hx;have hlen:its.toArray.size=xs.length:=by rw [bC];exact r.length.symm
 refine ⟨"tuple",_,PyProof.Rows.slot_tuple_getitem.lookup,ht.typeIs,?_⟩;refine HT.qW ht hs pl pu (by rw [hlen];exact hw) ?_ (by rw [hlen];exact hz);rw [hlen];refine ⟨.ref s.heap.objs.size,_,I.laid (t':=s.toks) (o:=.tup (sN xs lo hi)) (λb ob q=>aB _ q) (aJ _) ?_,rfl,q _ (I.hok.fresh (aJ _))⟩;exact ⟨⟨aW (tG xs lo hi) hz,_,aU _ rfl,rfl⟩,_,(r.drop (HT.iE xs.length 0 lo)).take (HT.iE xs.length xs.length hi-HT.iE xs.length 0 lo),IsTup.new _ _⟩
def aAG(K:PySem.W.Frag):R2:=λx y H Q=>∃a b xs ys,x=.ref a/\y=.ref b/\fF K H a xs/\fF K H b ys/\xs≠[]/\xs.length+ys.length<=sizeLine /\
 (ys=[]->Q (.ref a) H)/\(ys≠[]->∀p,H p=none->Q (.ref p) (upd H p (.tup (xs++ys))))
theorem cZ.nil_iff{xs:List V}{us:List Value}(r:cZ xs us):us=[]↔xs=[]:=by
 cases r with
 | nil=>simp
 | cons _ _=>simp
theorem SC:pW X (binaryOp .Add) (aAG X.K):=by
 intro pins s σ H x y v u Q I rx ry h;obtain ⟨a,b,xs,ys,rfl,rfl,ha,hb,hx,hz,q1,q2⟩:=h;cases rx;cases ry;obtain ⟨its,r1,p1,_⟩:=I.tuple ha;obtain ⟨its2,r2,p2,_⟩:=I.tuple hb;refine HT.TJ p1 p2 (λz=>hx (r1.nil_iff.mp z)) (λz=>⟨.ref a,H,I,rfl,q1 (r2.nil_iff.mp z)⟩) (λz=>?_) (by rw [<-r1.length,<-r2.length];exact hz);refine ⟨.ref s.heap.objs.size,_,I.laid (t':=s.toks) (o:=.tup (xs++ys)) (λb ob q=>aB _ q) (aJ _) ?_,rfl,q2 (λw=>z (r2.nil_iff.mpr w)) _ (I.hok.fresh (aJ _))⟩;exact ⟨⟨by rw [aX];exact hz,_,aU _ rfl,rfl⟩,_,r1.append r2,IsTup.new _ _⟩
end
def JA(n:Nat)(i:Int):Option Nat:=if 0<=i then (if i<n then some i.toNat else none) else if -(n:Int)<=i then some (i+n).toNat else none
def DG{α:Type}(xs:List α)(i:Int):Option α:=(JA xs.length i).bind λj=>xs[j]?
theorem GM{n:Nat}{i:Int}{j:Nat}(h:JA n i=some j):seqIndex? i n=some j/\j<n/\-(n:Int)<=i/\i<n:=by
 unfold JA at h;by_cases h0:0<=i
 ·rw [if_pos h0] at h;by_cases h1:i<n
  ·rw [if_pos h1] at h;have e:i.toNat=j:=dX h;exact ⟨by rw [seqIndex_of h0 h1,e],Oo,Oo,h1⟩
  ·rw [if_neg h1] at h;cases h
 ·rw [if_neg h0] at h;by_cases h1:-(n:Int)<=i
  ·rw [if_pos h1] at h;have e:(i+n).toNat=j:=dX h;exact ⟨by rw [seqIndex_neg Oo h1,e],Oo,h1,Oo⟩
  ·rw [if_neg h1] at h;cases h
theorem AX{α:Type}{xs:List α}{i:Int}{v:α}(h:DG xs i=some v):∃j,seqIndex? i xs.length=some j/\xs[j]?=some v/\j<xs.length/\-(xs.length:Int)<=i/\i<xs.length:=by
 unfold DG at h;cases e:JA xs.length i with
 | none=>rw [e] at h;cases h
 | some j =>
  rw [e] at h;obtain ⟨h1,h2,h3,h4⟩:=GM e;exact ⟨j,h1,h,h2,h3,h4⟩
theorem eI{α:Type}{xs:List α}{j:Nat}{v:α}(h:xs[j]?=some v):DG xs (j:Int)=some v:=by
 have hj:j<xs.length:=(aN.mp h).1;have e:JA xs.length (j:Int)=some j:=by
  unfold JA;rw [if_pos Oo,if_pos Oo];simp
 unfold DG;rw [e];exact h
def HK(b:Expr):Prop:=∀o i,subscripted b false o i=operate [o,i] (getItem o i)
def OU(X:Cx)(r:R2):Prop :=
 ∀(value slice:Expr) (pins:List (Addr × Obj)) (s:Shared) (σ:St) (H:Hp) (x y:V) (v u:Value) (Q:VK),cF X pins σ H s->dO x v->dO y u->r x y H Q ->
  subscripted slice false v u=operate [v,u] (getItem v u)->wpAny (model X.prog X.w) X.A (subscriptTail value slice v u) (EP X pins σ Q) X.xe s
def VN(X:Cx)(id:String)(r:V->List V->Hp->VK->Prop):Prop :=
 ∀(pins:List (Addr × Obj)) (s:Shared) (σ:St) (H:Hp) (x:V) (xs:List V) (v:Value) (us:List Value) (Q:VK),cF X pins σ H s->dO x v->cZ xs us->r x xs H Q ->
  wpAny (model X.prog X.w) X.A (call (.builtin id) (v::us)) (EP X pins σ Q) X.xe s
section
variable{X:Cx}{a b:Expr}{ta tb:TE}{pos:Pos}
theorem OU.or{r r':R2}(h:OU X r)(h':OU X r'):OU X (λx y H Q=>r x y H Q\/r' x y H Q):=by
 intro value slice pins s σ H x y v u Q I rx ry q hs;rcases q with q | q
 ·exact h value slice pins s σ H x y v u Q I rx ry q hs
 ·exact h' value slice pins s σ H x y v u Q I rx ry q hs
theorem aAN{r:R2}(hr:OU X r)(ha:PE X a ta)(hb:PE X b tb)(hs:HK b):PE X (.Subscript a b pos) (QA r ta tb):=by
 intro pins s σ H Q I h;exact Subscript_ (ZT ha hb I h λv u s2 x y H2 I2 rx ry q=>hr a b pins s2 σ H2 x y v u Q I2 rx ry q (hs _ _))
def aAE(K:PySem.W.Frag):R2:=λx y H Q=>∃p xs i v,x=.ref p/\y=.int i/\fM K H p xs/\DG xs i=some v/\Q v H
def aAC(K:PySem.W.Frag):R2:=λx y H Q=>∃p xs i v,x=.ref p/\y=.int i/\fF K H p xs/\DG xs i=some v/\Q v H
def aAD:R2:=λx y H Q=>∃z i c,x=.str z/\y=.int i/\z.length<=sizeLine/\DG z.cps.toList i=some c/\Q (.str ⟨#[c]⟩) H
theorem SQ:OU X (aAE X.K):=by
 intro value slice pins s σ H x y v u Q I rx ry h hs;obtain ⟨p,xs,i,z,rfl,rfl,hq,he,q⟩:=h;cases rx;obtain ⟨t,rfl⟩:=ry;obtain ⟨its,r,pl,hz⟩:=I.list hq;obtain ⟨j,h1,h2,h3,h4,h5⟩:=AX he;obtain ⟨w,ew,rw'⟩:=r.get h2;have hl:=r.length;have hn:=vK;have fin:EP X pins σ Q w s:=⟨z,H,I,rw',q⟩;by_cases h0:0<=i
 ·have hj:i.toNat=j:=by
   rw [seqIndex_of h0 h5] at h1;exact dX h1
  exact item_listR pl.isList h0 Oo (by rw [hj];simpa using ew) fin hs
 ·have hj:(i+(its.toArray.size:Int)).toNat=j:=by
   rw [seqIndex_neg Oo h4] at h1;rw [bC,<-hl];exact dX h1
  exact subscriptTail_builtinR (x:=w) pl.isList.typeIs slot_list_getitem.lookup
   (wpAny_getItem_list_neg (Q:=λr s'=>r=w/\EP X pins σ Q r s') pl.isList Oo (by rw [bC] <;> omega) Oo (by rw [hj];simpa using ew) ⟨rfl,fin⟩) hs
theorem YT:OU X (aAC X.K):=by
 intro value slice pins s σ H x y v u Q I rx ry h hs;obtain ⟨p,xs,i,z,rfl,rfl,hq,he,q⟩:=h;cases rx;obtain ⟨t,rfl⟩:=ry;obtain ⟨its,r,pl,hz⟩:=I.tuple hq;obtain ⟨j,h1,h2,h3,h4,h5⟩:=AX he;obtain ⟨w,ew,rw'⟩:=r.get h2;have hl:=r.length;have hn:=vK;have fin:EP X pins σ Q w s:=⟨z,H,I,rw',q⟩;exact subscriptTail_builtinR (x:=w) pl.typeIs slot_tuple_getitem.lookup
  (getItem_tuple (j:=j) (Q:=λr s'=>r=w/\EP X pins σ Q r s') pl Oo Oo (by rw [bC,<-hl];exact h1) (by simpa using ew) ⟨rfl,fin⟩) hs
theorem YU:OU X aAD:=by
 intro value slice pins s σ H x y v u Q I rx ry h hs;obtain ⟨z,i,c,rfl,rfl,hz,he,q⟩:=h;obtain ⟨t,rfl⟩:=rx;obtain ⟨t',rfl⟩:=ry;obtain ⟨j,h1,h2,h3,h4,h5⟩:=AX he;have hl:z.cps.toList.length=z.length:=by simp [Str.length]
 rw [hl] at h1 h4 h5;have hn:=vK;exact tail_any (typeIs_str s z t) slot_str_getitem.lookup (getItem_str (c:=c) (by
  have e1:decide (i < -(2^63:Int))=false:=cI Oo;have e2:decide (i ≥ 2^63)=false:=cI Oo;rw [e1,e2,Bool.or_false]) (by rw [h1];simpa using h2) ⟨.str ⟨#[c]⟩,H,I.tok _,⟨_,rfl⟩,q⟩) hs
def rIx(K:PySem.W.Frag):R2:=λx y H Q=>aAE K x y H Q\/aAC K x y H Q\/aAD x y H Q
theorem bR:OU X (rIx X.K):=SQ.or (YT.or YU)
theorem ER(its:List Value)(n j:Nat)(u:Value):Obj.mapSeq (·.setIfInBounds j u) { cls:=.type "list",data:=.seq its.toArray n }={ cls:=.type "list",data:=.seq (its.set j u).toArray n }:=by
 simp [Obj.mapSeq]
theorem cF.lst{pins:List (Addr × Obj)}{σ:St}{H:Hp}{s:Shared}{p:Addr}{xs:List V}(I:cF X pins σ H s)(h:H p=some (.lst xs)) :
  ∃(its:List Value) (n:Nat),cZ xs its/\s.heap.get? p=some { cls:=.type "list",data:=.seq its.toArray n }/\xs.length<=sizeLine:=by
 obtain ⟨z,its,n,r,e⟩:=I.hok p _ h;exact ⟨its,n,r,e,z⟩
theorem cF.lstUpd{pins:List (Addr × Obj)}{σ:St}{H:Hp}{s:Shared}{p:Addr}{xs ys:List V}{its its':List Value}{n n':Nat}{f:Obj->Obj}(I:cF X pins σ H s)(h:H p=some (.lst xs))
  (ho:s.heap.get? p=some { cls:=.type "list",data:=.seq its.toArray n }) (hf:f { cls:=.type "list",data:=.seq its.toArray n }={ cls:=.type "list",data:=.seq its'.toArray n' }) (r:cZ ys its') (hz:ys.length<=sizeLine) (t:Nat) :
  cF X pins σ (upd H p (.lst ys)) { s with heap:=s.heap.update p f,toks:=t }:=by
 have e:(s.heap.update p f).get? p=some { cls:=.type "list",data:=.seq its'.toArray n' }:=by
  rw [Heap.get?_update_self f ho (by rw [hf] <;> rfl),hf]
 refine I.write (x:=p) (e:=p) (by rw [h];trivial) (.inl rfl) (λb u hb q=>(Heap.get?_update_other _ _ (Ne.symm hb)).trans q) ⟨_,e⟩ ?_;exact ⟨hz,its',n',r,e⟩
def MD:V->V->V->Hp->(Hp->Prop)->Prop:=λo i v H Q=>∃p xs k j,o=.ref p/\i=.int k/\H p=some (.lst xs)/\JA xs.length k=some j/\Q (upd H p (.lst (xs.set j v)))
theorem LR:ZW X MD:=by
 intro pins s σ H o i v ov iv u Q I ro ri rv h;obtain ⟨p,xs,k,j,rfl,rfl,hp,hj,q⟩:=h;cases ro;obtain ⟨t,rfl⟩:=ri;obtain ⟨its,n,r,ho,hz⟩:=I.lst hp;obtain ⟨h1,h2,h3,h4⟩:=GM hj;have hl:=r.length;have hn:=vK;have I':cF X pins σ (upd H p (.lst (xs.set j v))) { s with heap:=s.heap.update p (Obj.mapSeq (·.setIfInBounds j u)) } :=
  I.lstUpd hp ho (ER its n j u) (r.set rv j) (by rw [List.length_set];exact hz) s.toks
 by_cases h0:0<=k
 ·have hk:k.toNat=j:=by
   rw [seqIndex_of h0 h4] at h1;exact dX h1
  exact PySem.W.ki_setAt ho h0 Oo (by rw [bC,<-hl];exact h4) (by rw [hk];exact ⟨_,I',q⟩)
 ·have hk:(k+(its.toArray.size:Int)).toNat=j:=by
   rw [seqIndex_neg Oo h3] at h1;rw [bC,<-hl];exact dX h1
  exact PySem.W.ki_setBack ho Oo (by rw [bC,<-hl];exact h3) Oo (by rw [hk];exact ⟨_,I',q⟩)
theorem zM(lo hi:Option Int)(n:Nat):(sliceBounds lo hi none n).1=((HT.iE n 0 lo:Nat):Int)/\(sliceBounds lo hi none n).2.1=((HT.iE n n hi:Nat):Int)/\(sliceBounds lo hi none n).2.2=1:=by
 refine ⟨?_,?_,rfl⟩
 ·cases lo with
  | none=>simp [sliceBounds,HT.iE]
  | some i =>
   simp only [sliceBounds,HT.iE,Option.getD_none,show (1:Int) > 0 by decide,if_true];by_cases h:i<0
   ·simp only [h,if_true] <;> omega
   ·simp only [h,if_false] <;> omega
 ·cases hi with
  | none=>simp [sliceBounds,HT.iE]
  | some i =>
   simp only [sliceBounds,HT.iE,Option.getD_none,show (1:Int) > 0 by decide,if_true];by_cases h:i<0
   ·simp only [h,if_true] <;> omega
   ·simp only [h,if_false] <;> omega
theorem wO(its:List Value)(lo hi:Option Int):slicePick its.toArray lo hi none=((its.drop (HT.iE its.length 0 lo)).take (HT.iE its.length its.length hi-HT.iE its.length 0 lo)).toArray:=by
 obtain ⟨h1,h2,h3⟩:=zM lo hi its.toArray.size;unfold slicePick;rw [h1,h2,h3];simp only [sliceRange_one,pick_run,bC] <;> rfl
def XJ(K:PySem.W.Frag):V->Option Int->Option Int->Hp->VK->Prop:=λx lo hi H Q=>∃a xs,x=.ref a/\fM K H a xs/\∀p,H p=none->Q (.ref p) (upd H p (.lst (sN xs lo hi)))
theorem tS:SlR X (XJ X.K):=by
 intro pins s σ H x v vl vu lo hi sl Q I rx hs pl pu h;obtain ⟨a,xs,rfl,hx,q⟩:=h;cases rx;obtain ⟨its,r,ht,hz⟩:=I.list hx;have hlen:=r.length;refine ⟨"list",_,slot_list_getitem.lookup,ht.isList.typeIs,?_⟩;refine wpAny_getItem_list_slice ht.isList hs pl pu .none (by simp) ?_ (by rw [bC] <;> omega);rw [wO,<-hlen];refine ⟨.ref s.heap.objs.size,_,I.laid (t':=s.toks) (o:=.lst (sN xs lo hi)) (λb ob q=>aB _ q) (aJ _) ?_,rfl,q _ (I.hok.fresh (aJ _))⟩;exact ⟨aW (tG xs lo hi) hz,_,0,(r.drop (HT.iE xs.length 0 lo)).take (HT.iE xs.length xs.length hi-HT.iE xs.length 0 lo),aU _ rfl⟩
theorem rG:iP X (.type "list") (λxs H Q=>∃p ys,xs=[.ref p]/\(fM X.K H p ys\/fF X.K H p ys)/\∀l,H l=none->Q (.ref l) (upd H l (.lst ys))):=by
 intro pins s σ H xs us Q I r h;obtain ⟨p,ys,rfl,hq,q⟩:=h;obtain ⟨u,rfl,rx⟩:=lN r;cases rx;have fin:∀(its:List Value),cZ ys its->ys.length<=sizeLine->∀(h':Heap) (c':Nat),(∀b o',s.heap.get? b=some o'->h'.get? b=some o') ->
   h'.get? s.heap.objs.size=some { cls:=.type "list",dict:=none,data:=.seq its.toArray c',slots:=#[] }->EP X pins σ Q (.ref s.heap.objs.size) { s with heap:=h' }:=λits r' hz h' c' kp e =>
  ⟨.ref s.heap.objs.size,_,I.laid (t':=s.toks) kp (aJ _) (show eU X.prog X.w _ h' _ (.lst ys) from ⟨hz,its,c',r',e⟩),rfl,q _ (I.hok.fresh (aJ _))⟩
 rcases hq with hq | hq
 ·obtain ⟨its,r',pl,hz⟩:=I.list hq;have hlen:=r'.length;obtain ⟨o,ho,hc,n,hd⟩:=pl.isList;exact call_list_seq p (.inl rfl) ho hc hd (λh' c' kp e=>fin its r' hz h' c' kp e) (by simp only [bC] <;> omega)
 ·obtain ⟨its,r',pl,hz⟩:=I.tuple hq;have hlen:=r'.length;obtain ⟨o,ho,hc,n,hd⟩:=pl;exact call_list_seq p (.inr rfl) ho hc hd (λh' c' kp e=>fin its r' hz h' c' kp e) (by simp only [bC] <;> omega)
theorem dA:iP X (.type "tuple") (λxs H Q=>∃p ys,xs=[.ref p]/\((fM X.K H p ys/\∀l,H l=none->Q (.ref l) (upd H l (.tup ys)))\/(fF X.K H p ys/\Q (.ref p) H))):=by
 intro pins s σ H xs us Q I r h;obtain ⟨p,ys,rfl,h⟩:=h;obtain ⟨u,rfl,rx⟩:=lN r;cases rx;rcases h with ⟨hq,q⟩ | ⟨hq,q⟩
 ·obtain ⟨its,r',pl,hz⟩:=I.list hq;have hlen:=r'.length;refine call_tuple_list pl.isList (λh' kp=>?_) (by simp only [bC] <;> omega);have I1:cF X pins σ H { s with heap:=h' }:=I.kept (t':=s.toks) kp;have I2:cF X pins σ (upd H h'.objs.size (.tup ys)) { s with heap:=h'.push { cls:=.type "tuple",data:=.seq its.toArray } } :=
   I1.laid (t':=s.toks) (λb o e=>aB _ e) (aJ _) (show eU X.prog X.w _ _ _ (.tup ys) from ⟨⟨hz,_,aU _ rfl,rfl⟩,its,r',IsTup.new _ _⟩)
  exact ⟨.ref h'.objs.size,_,I2,rfl,q _ (I1.hok.fresh (aJ _))⟩
 ·obtain ⟨its,r',pl,hz⟩:=I.tuple hq;exact call_tuple_same pl ⟨.ref p,H,I,rfl,q⟩
def tyV(K:PySem.W.Frag)(T:String)(x:V)(H:Hp):Prop:=match x with
 | .str _=>T = "str"
 | .int _=>T = "int"
 | .ref p=>(T = "list" /\ ∃xs,fM K H p xs)\/(T = "tuple" /\ ((∃o,K.lookup p=some o/\o.cls=.type "tuple" /\ o.dict=none)\/∃xs,H p=some (.tup xs))) \/
   (T = "dict" /\ ((∃kvs,H p=some (.dK kvs))\/∃kvs,H p=some (.dT kvs)))\/(T = "set" /\ ∃S n,H p=some (.set S n))
 | _=>False
theorem VX{pins:List (Addr × Obj)}{σ:St}{H:Hp}{s:Shared}{T:String}{x:V}{v:Value}(I:cF X pins σ H s)(r:dO x v)(ty:tyV X.K T x H) :
  s.TypeIs v T/\∀a,v=.ref a->∃ob,s.heap.get? a=some ob/\ob.dict=none:=by
 cases x with
 | str z =>
  obtain ⟨t,rfl⟩:=r;cases (show T = "str" from ty);exact ⟨typeIs_str s z t,λ_ e=>nomatch e⟩
 | int i =>
  obtain ⟨t,rfl⟩:=r;cases (show T = "int" from ty);exact ⟨typeIs_int s i t,λ_ e=>nomatch e⟩
 | ref p =>
  cases r;rcases ty with ⟨rfl,xs,hq⟩ | ⟨rfl,⟨o,hk,hc,hd⟩ | ⟨xs,hq⟩⟩ | ⟨rfl,hk⟩ | ⟨rfl,S,n,hk⟩
  ·obtain ⟨its,_,pl,_⟩:=I.list hq;refine ⟨pl.isList.typeIs,λa e=>?_⟩;cases e;obtain ⟨o,n,e,c,hd,_⟩:=pl;exact ⟨o,e,hd⟩
  ·refine ⟨⟨o,I.kIn p o hk,hc⟩,λa e=>?_⟩;cases e;exact ⟨o,I.kIn _ o hk,hd⟩
  ·obtain ⟨⟨_,on,en,dn⟩,_,_,o,e1,e2,_⟩:=(show eU X.prog X.w H s.heap p (.tup xs) from I.hok p _ hq);refine ⟨⟨o,e1,e2⟩,λa e=>?_⟩;cases e;exact ⟨on,en,dn⟩
  ·have z:∃o,s.heap.get? p=some o/\o.ExactDict:=by
    rcases hk with ⟨kvs,hk⟩ | ⟨kvs,hk⟩
    ·obtain ⟨_,_,_,_,o,_,_,e,ex,_⟩:=I.hok p _ hk;exact ⟨o,e,ex⟩
    ·obtain ⟨_,_,_,_,o,_,_,e,ex,_⟩:=I.hok p _ hk;exact ⟨o,e,ex⟩
   obtain ⟨o,e,ex⟩:=z;refine ⟨⟨o,e,ex.1⟩,λa e2=>?_⟩;cases e2;exact ⟨o,e,ex.2.1⟩
  ·obtain ⟨o,_,_,_,e,ex,_⟩:=I.hok p _ hk;refine ⟨⟨o,e,ex.1⟩,λa e2=>?_⟩;cases e2;exact ⟨o,e,ex.2.1⟩
 | _=>exact False.elim ty
def tBM(K:PySem.W.Frag)(T:String)(r:V->List V->Hp->VK->Prop)(to:TE)(t:TA):TE:=λσ H Q=>to σ H λx H1=>tyV K T x H1/\t σ H1 λxs H2=>r x xs H2 Q
variable{o e:Expr}{es:List Expr}{to:TE}{t:TA}{name:Str}{apos cpos:Pos}{T id:String}{r:V->List V->Hp->VK->Prop}
theorem UW(pa:PlainAttrs T)(slot:Slot T name id)(hty:typeOf (.builtin id)=pure (.type "method_descriptor"))(hm:VN X id r)(ho:PE X o to)(ha:PA X (e::es) t)
  (hbase:attributeBase o name X.env (eval o X.env)=eval o X.env:=by rfl)
  (hfew:((backTo cpos (starEach (e::es) X.env)).all (λx=>!x.1)&&(backToKw cpos (keywordEach [] X.env)).all (λx=>x.1.isSome)
   && decide ((e::es).length+([]:List Keyword).length+(if ([]:List Keyword).isEmpty then 0 else 1)<30))=true:=by rfl)
  (hline:(apos.endLine == cpos.line)=true:=by rfl) (hs:starEach (e::es) X.env=(false,eval e X.env)::starEach es X.env:=by rfl) (hplain:(backTo cpos (starEach es X.env)).any (·.1)=false:=by rfl) :
  PE X (.Call (.Attribute o name apos) (e::es) [] cpos) (tBM X.K T r to t):=by
 intro pins s σ H Q I h;refine wpAny_Call_method_late hbase hfew hline rfl (thn (ho pins s σ H _ I h) λv s1 ⟨x,H1,I1,r1,ty,q1⟩=>?_);obtain ⟨h1,h2⟩:=VX I1 r1 ty;refine ⟨T,id,pa,slot,hty,h1,h2,?_⟩;have hA:=ha cpos pins s1 σ H1 _ I1 q1;rw [hs] at hA ⊢;refine Calls.callWith_builtin (by show (false || (backTo cpos (starEach es X.env)).any (·.1))=false;rw [hplain] <;> rfl) (Calls.evalArgs_plain ?_);exact thn hA λus s2 ⟨vs,H2,I2,r2,q2⟩=>hm pins s2 σ H2 x vs v us Q I2 r1 r2 q2
/- xs.append(e),list.index on a module's tuple .. are VN facts of 06m -/
end
def MtM(X:Cx)(id:String)(r:V->List V->Hp->VK->Prop):Prop :=
 ∀(pins:List (Addr × Obj)) (s:Shared) (σ:St) (H:Hp) (x:V) (xs:List V) (v:Value) (us:List Value) (Q:VK),cF X pins σ H s->dO x v->cZ xs us->r x xs H Q ->
  wpAny (model X.prog X.w) X.A (call (.builtin id) (v::us)) (EP X pins σ Q) X.xe s
theorem cZ.one:∀{x:V}{us:List Value},cZ [x] us->∃u,us=[u]/\dO x u
 | _,_,.cons r .nil=>⟨_,rfl,r⟩
theorem cZ.eraseIdx:∀{xs:List V}{us:List Value}(i:Nat),cZ xs us->cZ (xs.eraseIdx i) (us.eraseIdx i)
 | _,_,_,.nil=>.nil
 | _,_,0,.cons _ t=>t
 | _,_,i+1,.cons r t=>.cons r (cZ.eraseIdx i t)
theorem cZ.rep{xs:List V}{us:List Value}(h:cZ xs us):∀k:Nat,cZ (List.replicate k xs).flatten (List.replicate k us).flatten
 | 0=>.nil
 | k+1=>by
  rw [List.replicate_succ,List.replicate_succ,List.flatten_cons,List.flatten_cons];exact cZ.append h (cZ.rep h k)
theorem xP{α:Type}:∀(l:List α) (i:Nat),(l.eraseIdx i).length<=l.length
 | [],_=>aJ _
 | _::_,0=>Nat.le_succ _
 | _::r,i+1=>Nat.succ_le_succ (xP r i)
theorem sK(its:List Value):∀(k:Nat) (acc:List Value),
  List.foldl (λx1 x2=>x1++x2) acc.toArray (List.replicate k its.toArray)=(acc++(List.replicate k its).flatten).toArray
 | 0,acc=>by simp
 | k+1,acc=>by
  have e:acc.toArray++its.toArray=(acc++its).toArray:=by simp
  have e2:(acc++its)++(List.replicate k its).flatten=acc++(List.replicate (k+1) its).flatten:=by
   rw [List.replicate_succ,List.flatten_cons,List.append_assoc]
  rw [<-e2,<-sK its k (acc++its),<-e,List.replicate_succ,List.foldl_cons]
section
variable{X:Cx}{pins:List (Addr × Obj)}{σ:St}{H:Hp}{s:Shared}{l b:Addr}{xs ys zs:List V}
theorem cF.lset{its its':List Value}{n:Nat}{f:Array Value->Array Value}{t':Nat}(I:cF X pins σ H s)(hH:H l=some (.lst xs))
  (e:s.heap.get? l=some { cls:=.type "list",data:=.seq its.toArray n }) (hf:f its.toArray=its'.toArray) (hv:cZ ys its') (hz:ys.length<=sizeLine) :
  cF X pins σ (upd H l (.lst ys)) { s with heap:=s.heap.update l (Obj.mapSeq f),toks:=t' }:=by
 have q:=PySem.IsL.update e f;rw [hf] at q;refine I.write (x:=l) (e:=l) (by rw [hH];exact trivial) (.inl rfl) (λb' u hb hu=>(Heap.get?_update_other s.heap (Obj.mapSeq f) (Ne.symm hb)).trans hu) ⟨_,q⟩ ?_;exact ⟨hz,its',_,hv,q⟩
theorem cF.lnew{its:List Value}{t':Nat}(I:cF X pins σ H s)(hv:cZ ys its)(hz:ys.length<=sizeLine) :
  cF X pins σ (upd H s.heap.objs.size (.lst ys)) { s with heap:=s.heap.push { cls:=.type "list",data:=.seq its.toArray },toks:=t' } :=
 I.laid (λ_ _ q=>aB _ q) (aJ _) ⟨hz,its,0,hv,aU _ rfl⟩
theorem cF.fresh(I:cF X pins σ H s):H s.heap.objs.size=none:=I.hok.fresh (aJ _)
theorem cF.lstM(I:cF X pins σ H s)(hH:H l=some (.lst xs)):xs.length<=sizeLine/\∃(its:List Value) (n:Nat),cZ xs its/\xs.length=its.length/\s.heap.get? l=some { cls:=.type "list",data:=.seq its.toArray n }:=by
 obtain ⟨z,its,n,r,e⟩:=I.hok l _ hH;exact ⟨z,its,n,r,r.length,e⟩
theorem BW{n:Nat}(h:n<=sizeLine):Builtin.List.listTooLong n=false:=by
 unfold Builtin.List.listTooLong;exact cI Oo
end
section
variable{X:Cx}
def GC:V->List V->Hp->VK->Prop:=λx vs H Q=>∃l xs y,x=.ref l/\vs=[y]/\H l=some (.lst xs)/\xs.length<sizeLine/\Q .non (upd H l (.lst (xs++[y])))
theorem sG:MtM X "list.append" GC:=by
 intro pins s σ H x vs v us Q I rx rv h;obtain ⟨l,xs,y,rfl,rfl,hH,hz,q⟩:=h;cases rx;obtain ⟨u,rfl,ru⟩:=rv.one;obtain ⟨z,its,n,r,hl,e⟩:=I.lstM hH;refine call_meets F.slot_list_append ⟨_,e,rfl⟩ F.entry_list_append (F.args_list_append_2 _ _) (PySem.list_append l its.toArray n u (by rw [bC];omega)) ⟨e,?_⟩;refine ⟨.non,_,I.lset (its':=its++[u]) hH e (by simp) (r.append (.cons ru .nil)) ?_,rfl,q⟩;rw [aX,List.length_singleton];omega
def GA:V->List V->Hp->VK->Prop:=λx vs H Q=>∃l b xs zs,x=.ref l/\vs=[.ref b]/\H l=some (.lst xs)/\H b=some (.lst zs)/\xs.length+zs.length<=sizeLine/\Q .non (upd H l (.lst (xs++zs)))
theorem IV:MtM X "list.extend" GA:=by
 intro pins s σ H x vs v us Q I rx rv h;obtain ⟨l,b,xs,zs,rfl,rfl,hH,hB,hz,q⟩:=h;cases rx;obtain ⟨u,rfl,ru⟩:=rv.one;cases ru;obtain ⟨z,its,n,r,hl,e⟩:=I.lstM hH;obtain ⟨z2,its2,n2,r2,hl2,e2⟩:=I.lstM hB;have hsz:its.toArray.size+its2.toArray.size<=sizeLine:=by rw [bC,bC];omega
 have hlong:¬(!its.toArray.isEmpty&&Builtin.List.listTooLong (its.toArray.size+its2.toArray.size))=true:=by
  rw [BW hsz,Bool.and_false];exact bS
 refine call_meets F.slot_list_extend ⟨_,e,rfl⟩ F.entry_list_extend (F.args_list_extend_2 _ _)
  (AutoSeq1.list_extend_list_list_0 l its.toArray n b its2.toArray n2 hlong (by rw [bC];omega) Oo) ⟨e,e2,?_⟩
 refine ⟨.non,_,I.lset (its':=its++its2) hH e (by simp) (r.append r2) ?_,rfl,q⟩;rw [aX];omega
def EK:V->List V->Hp->VK->Prop:=λx vs H Q=>∃l xs i k y,x=.ref l/\vs=[.int i]/\H l=some (.lst xs)/\-(2^63)<=i/\i<2^63/\seqIndex? i xs.length=some k/\xs[k]?=some y/\Q y (upd H l (.lst (xs.eraseIdx k)))
theorem MV:MtM X "list.pop" EK:=by
 intro pins s σ H x vs v us Q I rx rv h;obtain ⟨l,xs,i,k,y,rfl,rfl,hH,h1,h2,hk,hy,q⟩:=h;cases rx;obtain ⟨u,rfl,ru⟩:=rv.one;obtain ⟨t,rfl⟩:=ru;obtain ⟨z,its,n,r,hl,e⟩:=I.lstM hH;obtain ⟨w,hw,rw'⟩:=r.get hy;refine call_meets F.slot_list_pop ⟨_,e,rfl⟩ F.entry_list_pop (F.args_list_pop_2 _ _)
  (MeetsSeq.list_pop_at l its.toArray n i t k w (fitsIndex_both h1 h2) (by rw [bC,<-hl];exact hk) (by rw [<-Array.getElem?_toList];exact hw) (by rw [bC];omega)) ⟨e,?_⟩
 refine ⟨y,_,I.lset (its':=its.eraseIdx k) hH e ?_ (r.eraseIdx k) ?_,rw',q⟩
 ·show its.toArray.eraseIdxIfInBounds k=(its.eraseIdx k).toArray;rw [List.eraseIdxIfInBounds_toArray]
 ·have:=xP xs k;omega
def aAH:R2:=λx y H Q=>∃l b xs zs,x=.ref l/\y=.ref b/\H l=some (.lst xs)/\H b=some (.lst zs)/\xs.length+zs.length<=sizeLine/\∀p,H p=none->Q (.ref p) (upd H p (.lst (xs++zs)))
theorem vF:pW X (binaryOp .Add) aAH:=by
 intro pins s σ H x y v u Q I rx ry h;obtain ⟨l,b,xs,zs,rfl,rfl,hH,hB,hz,q⟩:=h;cases rx;cases ry;obtain ⟨z,its,n,r,hl,e⟩:=I.lstM hH;obtain ⟨z2,its2,n2,r2,hl2,e2⟩:=I.lstM hB;refine PySem.P.add_list e e2 ?_ (by rw [bC,bC];omega);have ea:its.toArray++its2.toArray=(its++its2).toArray:=by simp
 rw [ea];exact ⟨.ref _,_,I.lnew (t':=s.toks) (r.append r2) (by rw [aX];omega),rfl,q _ I.fresh⟩
def XL:R2:=λx y H Q=>∃l k xs,x=.ref l/\y=.int k/\H l=some (.lst xs)/\-(2^63)<=k/\k<2^63/\xs.length*k.toNat<=sizeLine /\
 ∀p,H p=none->Q (.ref p) (upd H p (.lst (List.replicate k.toNat xs).flatten))
theorem SK{α:Type}(xs:List α)(k:Nat):(List.replicate k xs).flatten.length=k*xs.length:=by
 induction k with
 | zero=>simp
 | succ k ih=>rw [List.replicate_succ,List.flatten_cons,aX,ih,Nat.succ_mul,Nat.add_comm]
theorem MQ:pW X (binaryOp .Mult) XL:=by
 intro pins s σ H x y v u Q I rx ry h;obtain ⟨l,k,xs,rfl,rfl,hH,h1,h2,hz,q⟩:=h;cases rx;obtain ⟨t,rfl⟩:=ry;obtain ⟨z,its,n,r,hl,e⟩:=I.lstM hH;have hlen:its.toArray.size*k.toNat<=sizeLine:=by rw [bC,<-hl];exact hz
 have hcap:¬its.toArray.size*k.toNat > (2^63-1)/8:=by
  have:(sizeLine:Nat)<=(2^63-1)/8:=Dd;omega
 have hfit:¬(!Builtin.List.listFitsIndex k)=true:=by
  rw [fitsIndex_both h1 h2];exact bS
 have hlong:¬Builtin.List.listTooLong (its.toArray.size*k.toNat)=true:=by
  rw [BW hlen];exact bS
 have hnew:List.foldl (λx1 x2=>x1++x2) #[] (List.replicate (if its.toArray.isEmpty=true then 0 else k.toNat) its.toArray)=(List.replicate k.toNat its).flatten.toArray:=by
  have f0:∀m:Nat,List.foldl (λx1 x2=>x1++x2) #[] (List.replicate m its.toArray)=(List.replicate m its).flatten.toArray:=λm=>by
   have:=sK its m [];rw [List.nil_append] at this;exact this
  rw [f0];cases its with
  | nil=>simp
  | cons a r'=>rw [if_neg (by simp)]
 refine wpAny_binaryOp_repeat_ref (T := "list") (U := "int") Dd ⟨_,e,rfl⟩ (λs'=>typeIs_int s' k t) noFill_list_mul F.fills_int_mul F.slot_int_rmul repeat_list F.slot_int_index.lookup
  (call_meets F.slot_int_rmul (typeIs_int s k t) F.entry_int_rmul (F.args_int_rmul_2 _ _) (int___rmul___int_list k t l its.toArray n)
   ⟨e,rfl,⟨_,e,rfl⟩,call_meets F.slot_list_mul ⟨_,e,rfl⟩ F.entry_list_mul (F.args_list_mul_2 _ _) (AutoListH.list___mul___list_int_3 l its.toArray n k t hfit hcap hlong) ⟨e,?_⟩⟩)
 rw [hnew];exact ⟨.ref _,_,I.lnew (t':=s.toks) (r.rep k.toNat) (by rw [SK,Nat.mul_comm];exact hz),rfl,q _ I.fresh⟩
end
section
variable{prog:Program}{w:World}{A:Around}{E:Value->Shared->Prop}{s:Shared}
end
section
variable{X:Cx}
end
end L2
namespace Att
open PySem PySem.W PySem.Calls PyProof.Rows
theorem tJ{P:Params}{h:Heap}:∀(ns:List Int) (vs:List Value),WellAll P h vs (ns.map WData.int)->IntsAre vs ns:=by
 intro ns
 induction ns with
 | nil =>
  intro vs w;rw [List.map_nil] at w;cases w;exact .nil
 | cons n ns ih =>
  intro vs w;rw [aP] at w;cases w with
  | cons a b =>
   cases a;exact .cons _ _ (ih _ b)
theorem IL{l:OpenLaw}{n:Nat}(hn:l.most=some n){P:Params}{h:Heap}{args:List WData}{vals:List Value}
  (hpre:l.row.toRowW.claim.pre args=true) (hwl:WellAll P h vals args) :
  ∃a vs ns,vals=[Value.ref a]/\args=[WData.list (ns.map WData.int)]/\h.get? a=some { cls:=.type "list",data:=.seq vs.toArray }/\IntsAre vs ns/\ns.length<=n:=by
 have hsh:WShape.hasAll [] args [.list .int]=true:=(pre_splitW hpre).1;have hc:l.pre.holds [] { args:=args }=true:=(pre_splitW hpre).2;obtain ⟨d,r,rfl,h1,h2⟩:=hasAllW_cons hsh;obtain rfl:=hasAllW_nil h2;obtain ⟨xs,rfl,h3⟩:=hasW_list h1;obtain ⟨ns,rfl⟩:=items_int h3;have hlen:ns.length<=n:=by
  unfold OpenLaw.pre at hc;have h4:(WTm.not (.lt (.lit (.int (n:Int))) (.len (.arg 0)))).holds [] { args:=[.list (ns.map .int)] }=true:=by
   have h4:=(holds_andW hc).1;rw [hn] at h4;exact h4
  have h5:=condW_of h4 (w_not (w_lt w_lit (w_len_list (w_arg rfl))));rw [aA] at h5;refine Nat.le_of_not_lt λq=>?_;have q':(n:Int)<((ns.length:Nat):Int):=Oo
  first
   | (rw [cV q'] at h5;exact absurd h5 Dd)
   | (simp at h5;omega)
 cases hwl with
 | cons w1 w2 =>
  cases w2;cases w1 with
  | list ho hall=>exact ⟨_,_,ns,rfl,rfl,ho,tJ ns _ hall,hlen⟩
theorem IQ(l:OpenLaw)(args:List WData):l.row.toRowW.claim.post args (.bool true) args=true :=
 postW_of (r:=l.row.toRowW) (X:=(true == true))
  (show WShape.has [] (.bool true) .bool=true by first | rfl | decide | simp [WShape.has,WShape.arms,WShape.armsAll])
  (show (WTm.eq .res (.lit (.bool true))).value [] { args:=args,res:=some (.bool true),after:=args }=some (.bool (true == true)) from w_eq_bool (w_res rfl) w_lit) rfl
theorem DF{l:OpenLaw}{n:Nat}{q:Program}{loose:List Str}{XP:(Str->Option Value)->Heap->Prop}{YP:World->Heap->Prop}{d:DefRec}
  (hn:l.most=some n) (hdf:d.params.defaults=[])
  (call:∀(w:World) (s₀ s₁:Shared) (mg mb:Str->Option Value) (fa:Addr) (o:Obj) (pm cd doc:Value) (a:Addr) (vs:List Value) (ns:List Int),
   Ground q loose [] XP w s₀ mg mb s₁.heap->YP w s₁.heap ->
   s₁.heap.get? fa=some o->o.data=.func (docDef d.name d.params d.body d.scope pm cd doc)->s₁.heap.CodeRec cd d.name->mg d.name=some (.ref fa) ->
   s₁.heap.get? a=some { cls:=.type "list",data:=.seq vs.toArray }->IntsAre vs ns->ns.length<=n->s₁.gens=#[] ->
   codeAny (model l.prog w) callerA (.call (.ref fa) ⟨[.ref a],[]⟩) (λr s'=>r=.ok (.ret (.bool true))/\OldK s₁.heap s'.heap/\s'.os=s₁.os/\AllBare s'.gens) s₁) :
  WalkO q loose XP YP l.row.toRowW d [] (λf vs=>PySem.call f vs):=by
 intro w s₀ s₁ mg mb G Y fa o pm cd doc dV kV ho hd hcd hD hmg hg args vals as hpre hlay hrd hwl hlo;obtain rfl:dV=.none:=Dflts.none hD hdf;obtain rfl:kV=.none:=Dflts.noKw hD;obtain ⟨a,vs,ns,rfl,rfl,hobj,hints,hlen⟩:=IL hn hpre hwl;refine enter_call (codeAny_mono (call w s₀ s₁ mg mb fa o pm cd doc a vs ns G Y ho (fd_plain hd) hcd hmg hobj hints hlen hg) λr s' hq=>?_);obtain ⟨rfl,h2,h3,h4⟩:=hq;exact ⟨.inl ⟨.bool true,.bool true,[],rfl,λ_=>rfl,.bool true,IQ l _,λ_=>⟨List.Pairwise.nil,λ_ hm=>(nomatch hm)⟩⟩,h2,h3,h4⟩
section
variable{prog:Program}{w:World}{A:Around}{E:Value->Shared->Prop}{s:Shared}{K:Frag}
end
end Att
namespace L2
open PySem PySem.Spec PyProof.Rows
theorem wX:∀{vs:List Value}{ns:List Int},IntsAre vs ns->cZ (ns.map V.int) vs
 | _,_,.nil=>.nil
 | _,_,.cons n t h=>.cons ⟨t,rfl⟩ (wX h)
def UB(H:Hp):Prop:=∀b,H b=none\/∃o xs,H b=some (.frz o (.lst xs))
theorem NC{P:Program}{w:World}{K:PySem.W.Frag}{mg mb:Str->Option Value}{CX:KB}{k:Nat}{fa a:Addr}{fd:FuncData}{x:Str}{sp:Sp}{s₁:Shared}{vs:List Value}{ns:List Int}
  (KX:K.In s₁.heap) (hns:s₁.heap.Ns mainGlobals mg) (hb:s₁.heap.Ns builtinsNs mb) (hbb:∀x:Str,x ≠ "__name__" -> mb x=bootBuiltins x) (hlim:s₁.heap.NoLimit) (hg:s₁.gens=#[])
  (ha:s₁.heap.get? a=some { cls:=.type "list",data:=.seq vs.toArray }) (hi:IntsAre vs ns) (hl:ns.length<=sizeLine) (hr:kC k callerA)
  (F:∀base:Heap,K.In base->base.Ns mainGlobals mg->eA P w K mg base CX k fa fd [x] sp) (hbind:∀(s:Shared) (u:Value),BindsTo s fd ⟨[u],[]⟩ [(x,u)])
  (hsp:∀H:Hp,UB H->fM K H a (ns.map V.int)->sp [.ref a] H (λv _=>v=.bl true) λ_ _ _=>False)
  (hCX:∀H e s',CX [] H s₁ (λ_ _ _=>False) e s'->False) :
  codeAny (model P w) callerA (.call (.ref fa) ⟨[.ref a],[]⟩) (λr s'=>r=.ok (.ret (.bool true))/\OldK s₁.heap s'.heap/\s'.os=s₁.os/\AllBare s'.gens) s₁:=by
 have rv:=wX hi;have lenV:=hi.length;have core:∀H:Hp,UB H->fM K H a (ns.map V.int)->nI P w H s₁.heap->(∀b,H b≠none->b=a)->(H a≠none->K.lookup a=none) ->
   codeAny (model P w) callerA (.call (.ref fa) ⟨[.ref a],[]⟩) (λr s'=>r=.ok (.ret (.bool true))/\OldK s₁.heap s'.heap/\s'.os=s₁.os/\AllBare s'.gens) s₁:=by
  intro H hO hS hok hA hK;have base_of:∀{b:Addr} {o:Obj},s₁.heap.get? b=some o->H b=none->(AL s₁.heap H).get? b=some o:=λe n=>NH e n;have noA:∀{b:Addr} {o:Obj} {es:Array DictEntry} {ep:Nat},s₁.heap.get? b=some o->o.data=.dict es ep->H b=none:=λ{b o es ep} e d=>by
   cases q:H b with
   | none=>rfl
   | some u =>
    have e':b=a:=hA b (by rw [q];simp);subst e';rw [ha] at e;cases e;have d':Data.seq vs.toArray _=Data.dict es ep:=d;cases d'
  have nsK:∀{b:Addr} {m:Str->Option Value},s₁.heap.Ns b m->(AL s₁.heap H).Ns b m:=λ{b m} ⟨o,es,ep,e,d,r⟩=>⟨o,es,ep,base_of e (noA e d),d,r⟩;have hKb:K.In (AL s₁.heap H):=λb o e=>base_of (KX b o e) (by
   cases q:H b with
   | none=>rfl
   | some u =>
    have e':b=a:=hA b (by rw [q];simp);subst e';rw [hK (by rw [q];simp)] at e;cases e)
  have hM:Mod K mg (AL s₁.heap H):=⟨hKb,nsK hns,⟨mb,nsK hb,hbb⟩,let ⟨mc,h1,h2⟩:=hlim;⟨mc,nsK h1,h2⟩⟩;have e0:UD P w K mg (AL s₁.heap H) callerA [] s₁ H:=⟨rfl,hM,λb o e=>SE e,Nat.le_of_eq (JC _ _),trivial,λb hb=>absurd (show b∈([]:List Addr) from hb) (by simp),hok,.of_eq hg⟩;refine codeAny_mono ((F _ hKb (nsK hns)).run callerA [] s₁ H ⟨[.ref a],[]⟩ [.ref a] [.ref a] _ _ hr e0 (hbind s₁ (.ref a)) (.cons rfl .nil) (hsp H hO hS)) λr s' h=>?_;cases r with
  | error e=>exact (hCX H e s' h).elim
  | ok fl =>
   cases fl with
   | next=>exact False.elim h
   | brk=>exact False.elim h
   | cont=>exact False.elim h
   | ret u =>
    obtain ⟨v,H',os,bare,un,hok',r',q⟩:=h;have q':v=.bl true:=q;subst q';obtain rfl:u=Value.bool true:=r';refine ⟨rfl,OldK.of_keep λb o e=>?_,os,bare⟩;cases q:H b with
    | none=>exact un.keep b o e q (by intro z;exact absurd (show b∈([]:List Addr) from z) (by simp)) (by simp)
    | some u =>
     rcases hO b with z | ⟨ob,xs,z⟩
     ·rw [q] at z;cases z
     ·have z2:=un.frzs b ob _ z;obtain ⟨e1,_⟩:=hok b _ z;obtain ⟨e2,_⟩:=hok' b _ z2;rw [e] at e1;cases e1;exact e2
 cases hk:K.lookup a with
 | some o =>
  have e:=KX a o hk;rw [ha] at e;cases e;refine core (λ_=>none) (λ_=>.inl rfl) (.inr ⟨_,vs.toArray,_,hk,rfl,rfl,rfl,by rw [bC,lenV];exact hl,by simpa using rv⟩) (λb u z=>by have z':(none:Option HO)=some u:=z;cases z') (λb z=>absurd rfl z) λz=>absurd rfl z
 | none =>
  refine core (λb=>if b=a then some (.frz { cls:=.type "list",data:=.seq vs.toArray } (.lst (ns.map V.int))) else none) (λb=>?_) (.inl (.inr ⟨{ cls:=.type "list",data:=.seq vs.toArray },if_pos rfl⟩)) (λb u z=>?_) (λb z=>?_) λ_=>hk
  ·by_cases hb:b=a
   ·exact .inr ⟨_,_,if_pos hb⟩
   ·exact .inl (if_neg hb)
  ·by_cases hb:b=a
   ·have z':=(if_pos hb).symm.trans z;cases z';subst hb;exact ⟨ha,by rw [aA];exact hl,vs,_,rv,ha⟩
   ·have z':=(if_neg hb).symm.trans z;cases z'
  ·by_cases hb:b=a
   ·exact hb
   ·exact absurd (if_neg hb) z
theorem FN{l:PySem.W.OpenLaw}{n k:Nat}{q:Program}{loose:List Str}{XP:(Str->Option Value)->Heap->Prop}{YP:World->Heap->Prop}{d:DefRec}{K:Params->PySem.W.Frag}{CX:World->KB}{sp:World->Sp}{x:Str}
  (hn:l.most=some n) (hn2:n<=sizeLine) (hdf:d.params.defaults=[]) (hr:kC k callerA)
  (hY:∀(w:World) (h:Heap),YP w h->(K w.params).In h)
  (F:∀(w:World) (mg:Str->Option Value) (fa:Addr) (h:Heap),(K w.params).In h->h.Ns mainGlobals mg->mg d.name=some (.ref fa) ->
   ∃fd:FuncData,(∀(s:Shared) (u:Value),BindsTo s fd ⟨[u],[]⟩ [(x,u)]) /\
    ∀base:Heap,(K w.params).In base->base.Ns mainGlobals mg->eA l.prog w (K w.params) mg base (CX w) k fa fd [x] (sp w))
  (hsp:∀(w:World) (H:Hp) (a:Addr) (ns:List Int),ns.length<=n->UB H->fM (K w.params) H a (ns.map V.int)->sp w [.ref a] H (λv _=>v=.bl true) λ_ _ _=>False)
  (hCX:∀(w:World) (H:Hp) (s:Shared) (e:Value) (s':Shared),CX w [] H s (λ_ _ _=>False) e s'->False) :
  PySem.W.WalkO q loose XP YP l.row.toRowW d [] (λf vs=>PySem.call f vs):=by
 refine Att.DF hn hdf λw s₀ s₁ mg mb fa o pm cd doc a vs ns G Y ho hd hcd hmg hobj hints hlen hg=>?_;have KX:=hY w _ Y;obtain ⟨fd,hb,hF⟩:=F w mg fa _ KX G.T.g hmg;exact NC KX G.T.g G.T.b G.T.builtins G.T.nolimit hg hobj hints (aW hlen hn2) hr hF hb (λH hO hS=>hsp w H a ns hlen hO hS) λH e s'=>hCX w H s₁ e s'
theorem KR{l:PySem.W.OpenLaw}{n k:Nat}{q:Program}{loose:List Str}{XP:(Str->Option Value)->Heap->Prop}{YP:World->Heap->Prop}{d:DefRec}{K:Params->PySem.W.Frag}{CX:KB}{sp:PySem.W.Frag->Sp}{x:Str}
  (hn:l.most=some n) (hn2:n<=sizeLine) (hdf:d.params.defaults=[]) (hr:kC k callerA)
  (hY:∀(w:World) (h:Heap),YP w h->(K w.params).In h)
  (F:∀(w:World) (mg:Str->Option Value) (fa:Addr) (h:Heap),(K w.params).In h->h.Ns mainGlobals mg->mg d.name=some (.ref fa) ->
   ∃fd:FuncData,(∀(s:Shared) (u:Value),BindsTo s fd ⟨[u],[]⟩ [(x,u)]) /\
    ∀base:Heap,(K w.params).In base->base.Ns mainGlobals mg->eA l.prog w (K w.params) mg base CX k fa fd [x] (sp (K w.params)))
  (hsp:∀(K:PySem.W.Frag) (H:Hp) (a:Addr) (ns:List Int),ns.length<=n->UB H->fM K H a (ns.map V.int)->sp K [.ref a] H (λv _=>v=.bl true) λ_ _ _=>False)
  (hCX:∀(H:Hp) (s:Shared) (e:Value) (s':Shared),CX [] H s (λ_ _ _=>False) e s'->False) :
  PySem.W.WalkO q loose XP YP l.row.toRowW d [] (λf vs=>PySem.call f vs) :=
 FN (K:=K) (CX:=λ_=>CX) (sp:=λw=>sp (K w.params)) hn hn2 hdf hr hY F (λw H a ns h1 h2 h3=>hsp (K w.params) H a ns h1 h2 h3) λ_ H s e s'=>hCX H s e s'
end L2
/- THE LAST THEOREM (shape;LID,My.* are yours):
   My.Adr: a structure of the addresses that your layer names (classes,functions);My.Txt K t: a structure (Prop) of the equations over K;
   My.txt_mk:{K} {implicit addresses ..} (e1:nsIn K mainGlobals "law" = some (some (.ref f))) (e2:K.lookup f=some ⟨oc,od,.func (fnOf "law" "law" params body scope dV kV doc pm an cdv ct),sl⟩) (e3:codeIn K cdv "law" = true) .. : ∃t,My.Txt K t
set_option maxRecDepth 100000 in
set_option maxHeartbeats 0 in
theorem PySem.Challenge.cw_LID_holds : PySem.Challenge.rw_LID.Holds := by
  w_on;o_law;k_head;(case hw=>w_witness2)
  k_fill
  refine L2.FN (l:=PySem.Challenge.rw_LID) (n:=63) (k:=40) (x := "script") (CX:=λw=>..) (sp:=λ_=>My.sp_law) rfl Dd rfl ⟨rfl,Dd,Dd⟩ (λw h Y=>PySem.W.kIn_of Y) ?F ?S ?C
  case F =>
    intro w mg fa h KX G hmg;have T:∃t,My.Txt (L2.KOf KX) t:=by
      dsimp only [L2.KOf]                          -- K must stand as «<heap const> w.params» for k_is
      refine' My.txt_mk ?e1 ?e2 ?e3 ..
      (case e1=>PySem.W.k_is)                    -- in the order: a name -> its address -> its object -> its parts
      (case e2=>PySem.W.k_is)
      ..
    obtain ⟨t,T⟩:=T;have e0:=hmg.symm.trans (PySem.W.mg_of KX G T.law);cases e0                                       -- fa is the law's own address;exact ⟨_,λs u=>.of_eq rfl,λbase kb nb=>My.law_fn T kb nb⟩     -- if «.of_eq rfl» comes too early: refine' ⟨_,?b,λbase kb nb=>My.law_fn T kb nb⟩;exact λs u=>.of_eq rfl
  case S=>exact λw H a ns hl hO hS=>..
  case C=>exact ..
(the tactic k_is has no namespace: write k_is) -/
namespace L2
open PySem PySem.Spec PyProof.Rows
def pA(s:Stmt):Arguments:=match s with
 | .FunctionDef _ a _ _ _ _ _ _ _ _=>a
 | _=>{ posonlyargs:=[],args:=[],vararg:=none,kwonlyargs:=[],kw_defaults:=[],kwarg:=none,defaults:=[] }
def kB(s:Stmt):List Stmt:=match s with
 | .FunctionDef _ _ b _ _ _ _ _ _ _=>b
 | _=>[]
def bB(s:Stmt):Scope:=match s with
 | .FunctionDef _ _ _ _ _ _ sc _ _ _=>sc
 | _=>{ kind:=.function,names:=[],isGenerator:=false,isCoroutine:=false }
abbrev dG:KB:=λ_ _ _ _ _ _=>False
abbrev E0:XK:=λ_ _ _=>False
theorem aAP{X:Cx}:FD dG X E0:=λ_ _ _ _ _ _ _ h=>h.elim
structure iQ(K:PySem.W.Frag)(x qual:Str)(st:Stmt)(f:Addr)(fd:FuncData):Prop where
 ex:∃(oc:Value) (od:Option Addr) (kV doc pm:Value) (an:Option Addr) (cdv ct:Value) (osl:Array (Option Value)),
  fd=PySem.W.fnOf x qual (pA st) (kB st) (bB st) .none kV doc pm an cdv ct/\K.lookup f=some ⟨oc,od,.func fd,osl⟩/\PySem.W.codeIn K cdv qual=true
 kp:PySem.W.keepIn K (.ref f)=true
section
variable{P:Program}{w:World}{K:PySem.W.Frag}{mg:Str->Option Value}{base:Heap}
theorem iQ.ok{x qual:Str}{st:Stmt}{f:Addr}{fd:FuncData}{N ps:List Str}{k:Nat}{sp:Sp}(F:iQ K x qual st f fd)(S:bT N ps (bB st))(len:∀vs H Q E,sp vs H Q E->vs.length=ps.length)
  (hbody:∀(cdv:Value) (A:Around) (outer:List Env) (s:Shared) (H:Hp) (vs:List V) (Q:VK) (E:XK),kC k (A.deeper (envOfC qual (bB st) s.heap.objs.size f cdv))->sp vs H Q E ->
   ∃t,FF (CT dG P w K mg base N qual (bB st) f cdv A outer s H E).nox (kB st) t/\t { nx:=λ_ H'=>Q .non H',rt:=Q } (start N vs) H):eA P w K mg base dG (k+1) f fd ps sp:=by
 obtain ⟨oc,od,kV,doc,pm,an,cdv,ct,osl,rfl,lk,hcd⟩:=F.ex;refine aA3 lk hcd S len λA outer s H vs Q E hr hsp=>?_;obtain ⟨t,h,q⟩:=hbody cdv A outer s H vs Q E hr hsp;exact ⟨t,h.nox,q⟩
theorem iQ.binds{x qual:Str}{st:Stmt}{f:Addr}{fd:FuncData}{ps:List Str}(F:iQ K x qual st f fd)
  (h:∀(kV doc pm:Value) (an:Option Addr) (cdv ct:Value) (us:List Value),us.length=ps.length->bindArgs (PySem.W.fnOf x qual (pA st) (kB st) (bB st) .none kV doc pm an cdv ct) ⟨us,[]⟩=pure (ps.zip us)):yO K fd ps []:=by
 obtain ⟨oc,od,kV,doc,pm,an,cdv,ct,osl,rfl,lk,hcd⟩:=F.ex;exact .all (h kV doc pm an cdv ct)
theorem EU{x qual:Str}{st:Stmt}{f:Addr}{oc:Value}{od an:Option Addr}{osl:Array (Option Value)}{kV doc pm cdv ct:Value}(l:K.lookup f=some ⟨oc,od,.func (PySem.W.fnOf x qual (pA st) (kB st) (bB st) .none kV doc pm an cdv ct),osl⟩)
  (c:PySem.W.codeIn K cdv qual=true) (k:PySem.W.keepIn K (.ref f)=true):iQ K x qual st f (PySem.W.fnOf x qual (pA st) (kB st) (bB st) .none kV doc pm an cdv ct):=⟨⟨oc,od,kV,doc,pm,an,cdv,ct,osl,rfl,l,c⟩,k⟩
end
theorem sA{n:Nat}(h:n<=1000):n<sizeLine:=aQ h Dd
section
variable{X:Cx}
theorem pv(i:Nat){x:Str}{pos:Pos}(hN:X.N[i]?=some x:=by rfl)(hv:Vis X.env.scope x:=by first | exact Or.inl rfl | exact Or.inr (Or.inl rfl) | exact Or.inr (Or.inr rfl))(hd:(x == ("__debug__" : Str))=false:=by decide)
  (hcd:(x == ("__classdict__" : Str))=false:=by decide):PE X (.Name x pos) (VY i):=YD hN hv hd hcd
end
theorem CK{A B:Prop}(h:B):if false=true then A else B:=by
 rw [if_neg bS];exact h
theorem CJ{A B:Prop}(h:A):if true=true then A else B:=by
 rw [if_pos rfl];exact h
theorem aAZ{c A B:Prop}[Decidable c](h1:c->A)(h2:¬c->B):if c then A else B:=by
 by_cases h:c
 ·rw [if_pos h];exact h1 h
 ·rw [if_neg h];exact h2 h
def bE(H H':Hp):Prop:=∀b o,H b=some o->H' b=some o
theorem bE.refl(H:Hp):bE H H:=λ_ _ h=>h
theorem bE.trans{H H1 H2:Hp}(a:bE H H1)(b:bE H1 H2):bE H H2:=λc o h=>b c o (a c o h)
theorem bE.free{H H':Hp}(e:bE H H'){l:Addr}(h:H' l=Option.none):H l=Option.none:=by
 cases q:H l with
 | none=>rfl
 | some o =>
  rw [e l o q] at h;cases h
section
variable{κ:Type}[DecidableEq κ]
def eN(kvs:List (κ × V))(k:κ):Option V:=(kvs.find? λkv=>decide (kv.1=k)).map (·.2)
def iG(kvs:List (κ × V))(k:κ)(v:V):List (κ × V) :=
 if (kvs.any λkv=>decide (kv.1=k))=true then kvs.map (λkv=>if kv.1=k then (kv.1,v) else kv) else kvs++[(k,v)]
theorem fN{p:κ × V}{r:List (κ × V)}{k:κ}(e:p.1=k):eN (p::r) k=some p.2:=by simp [eN,List.find?_cons,e]
theorem fO{p:κ × V}{r:List (κ × V)}{k:κ}(e:¬p.1=k):eN (p::r) k=eN r k:=by simp [eN,List.find?_cons,e]
theorem jK(k:κ):∀kvs:List (κ × V),(kvs.any λkv=>decide (kv.1=k))=(eN kvs k).isSome
 | []=>rfl
 | p::r=>by
  rw [List.any_cons];by_cases e:p.1=k
  ·simp only [fN e,cV e,Bool.true_or,Option.isSome_some]
  ·rw [fO e,cI e,Bool.false_or];exact jK k r
theorem BF(k j:κ)(y:V):∀kvs:List (κ × V),eN (kvs.map λkv=>if kv.1=k then (kv.1,y) else kv) j=(eN kvs j).map λx=>if j=k then y else x
 | []=>rfl
 | p::r=>by
  have ih:=BF k j y r;rw [aP];by_cases h:p.1=k
  ·rw [if_pos h];by_cases e:p.1=j
   ·rw [fN (p:=(p.1,y)) e,fN e,Option.map_some,if_pos (e.symm.trans h)]
   ·rw [fO (p:=(p.1,y)) e,fO e,ih]
  ·rw [if_neg h];by_cases e:p.1=j
   ·rw [fN (p:=p) e,fN e,Option.map_some,if_neg (λz=>h (e.trans z))]
   ·rw [fO (p:=p) e,fO e,ih]
theorem wZ(k j:κ)(y:V):∀kvs:List (κ × V),eN kvs k=none->eN (kvs++[(k,y)]) j=if j=k then some y else eN kvs j
 | [],_=>by
  by_cases e:k=j
  ·rw [if_pos e.symm];exact fN (p:=(k,y)) e
  ·rw [if_neg (λz=>e z.symm)];exact fO (p:=(k,y)) e
 | p::r,hn=>by
  rw [List.cons_append];have hk:¬p.1=k:=λz=>by rw [fN z] at hn;cases hn
  rw [fO hk] at hn;have ih:=wZ k j y r hn;by_cases e:p.1=j
  ·rw [fN e,fN e,if_neg (λz=>hk (e.trans z))]
  ·rw [fO e,fO e,ih]
theorem uK(kvs:List (κ × V))(k j:κ)(y:V):eN (iG kvs k y) j=if j=k then some y else eN kvs j:=by
 unfold iG;by_cases a:(kvs.any λkv=>decide (kv.1=k))=true
 ·rw [if_pos a,BF];rw [jK] at a;by_cases e:j=k
  ·obtain ⟨x,hx⟩:=Option.isSome_iff_exists.mp a;rw [if_pos e,e,hx,Option.map_some,if_pos rfl]
  ·rw [if_neg e];cases eN kvs j with
   | none=>rfl
   | some x=>rw [Option.map_some,if_neg e]
 ·rw [if_neg a];refine wZ k j y kvs ?_;rw [jK] at a;cases q:eN kvs k with
  | none=>rfl
  | some x=>rw [q] at a;exact (a rfl).elim
theorem gR(kvs:List (κ × V))(k:κ)(v:V):(iG kvs k v).length<=kvs.length+1:=by
 unfold iG;split
 ·rw [aA];omega
 ·rw [aX,cS,List.length_nil];omega
theorem vC{kvs:List (κ × V)}{k:κ}(v:V)(h:eN kvs k=none):iG kvs k v=kvs++[(k,v)]:=by
 unfold iG;rw [jK,h];exact if_neg Dd
theorem tM.isSome_eq{o:Option V}{u:Option Value}(r:tM o u):o.isSome=u.isSome:=by
 cases o with
 | none=>cases u with
  | none=>rfl
  | some _=>exact (show False from r).elim
 | some _=>cases u with
  | none=>exact (show False from r).elim
  | some _=>rfl
theorem tM.getD{o:Option V}{u:Option Value}{d:V}{d':Value}(r:tM o u)(rd:dO d d'):dO (o.getD d) (u.getD d'):=by
 cases o with
 | none=>cases u with
  | none=>exact rd
  | some _=>exact (show False from r).elim
 | some _=>cases u with
  | none=>exact (show False from r).elim
  | some _=>exact r
theorem KV.val{kvs:List (κ × V)}{vs:List (κ × Value)}(r:KV kvs vs)(k:κ):tM (eN kvs k) (valueAt vs k):=by
 unfold KV at r
 induction r with
 | nil=>exact True.intro
 | @cons p q ps qs h t ih =>
  obtain ⟨h1,h2⟩:=h;by_cases e:p.1=k
  ·have e':q.1=k:=h1.symm.trans e;have b:valueAt (q::qs) k=some q.2:=by simp [valueAt,List.find?_cons,e']
   rw [fN e,b];exact h2
  ·have e':¬q.1=k:=λz=>e (h1.trans z);have b:valueAt (q::qs) k=valueAt qs k:=by simp [valueAt,List.find?_cons,e']
   rw [fO e,b];exact ih
theorem KV.any{kvs:List (κ × V)}{vs:List (κ × Value)}(r:KV kvs vs)(k:κ):(kvs.any λkv=>decide (kv.1=k))=vs.any λkv=>decide (kv.1=k):=by
 unfold KV at r
 induction r with
 | nil=>rfl
 | cons h t ih=>rw [List.any_cons,List.any_cons,ih,h.1]
theorem KV.repl{kvs:List (κ × V)}{vs:List (κ × Value)}(r:KV kvs vs)(k:κ){y:V}{u:Value}(ry:dO y u) :
  KV (kvs.map λkv=>if kv.1=k then (kv.1,y) else kv) (vs.map λkv=>if kv.1=k then (kv.1,u) else kv):=by
 unfold KV at r ⊢
 induction r with
 | nil=>exact .nil
 | @cons p q ps qs h t ih =>
  rw [aP,aP];refine .cons ?_ ih;obtain ⟨h1,h2⟩:=h;by_cases e:p.1=k
  ·rw [if_pos e,if_pos (h1.symm.trans e)];exact ⟨h1,ry⟩
  ·rw [if_neg e,if_neg (λz=>e (h1.trans z))];exact ⟨h1,h2⟩
theorem KV.put{kvs:List (κ × V)}{vs:List (κ × Value)}(r:KV kvs vs)(k:κ){y:V}{u:Value}(ry:dO y u):KV (iG kvs k y) (stored vs k u):=by
 unfold iG stored;rw [r.any k];by_cases e:(vs.any λkv=>decide (kv.1=k))=true
 ·rw [if_pos e,if_pos e];exact r.repl k ry
 ·rw [if_neg e,if_neg e];exact Paired.snoc r ⟨rfl,ry⟩
theorem KV.length{kvs:List (κ × V)}{vs:List (κ × Value)}(r:KV kvs vs):kvs.length=vs.length:=Paired.length r
end
theorem vO{P:Program}{w:World}{k:dS}{u:Value}(r:dO (kV k) u):(dU P w).is k u=true:=by
 cases k with
 | inl i=>obtain ⟨t,e⟩:=(show ∃t,u=Value.int i t from r);subst e;exact BZ P w i t
 | inr x=>obtain ⟨t,e⟩:=(show ∃t,u=Value.str x t from r);subst e;exact BY P w x t
theorem xS{P:Program}{w:World}:∀{ks:List dS}{us:List Value},cZ (ks.map kV) us->ItemsAre (dU P w) ks us
 | [],_,r=>by rw [List.map_nil] at r;cases r;exact .nil
 | k::ks,_,r=>by
  rw [aP] at r;cases r with
  | cons h t=>exact .cons (vO h) (xS t)
abbrev KT(H:Hp):List (List dS × V)->List (List dS × Addr × Value)->Prop:=Paired λp q=>p.1=q.1/\H q.2.1=some (.tup (p.1.map kV))/\dO p.2 q.2.2
theorem KT.val{H:Hp}{kvs:List (List dS × V)}{xs:List (List dS × Addr × Value)}(r:KT H kvs xs)(k:List dS):tM (eN kvs k) ((atKey xs k).map (·.2)):=by
 induction r with
 | nil=>exact True.intro
 | @cons p q ps qs h t ih =>
  obtain ⟨h1,_,h2⟩:=h;by_cases e:p.1=k
  ·have e':q.1=k:=h1.symm.trans e;have b:atKey (q::qs) k=some q.2:=by simp [atKey,List.find?_cons,e']
   rw [fN e,b];exact h2
  ·have e':¬q.1=k:=λz=>e (h1.trans z);have b:atKey (q::qs) k=atKey qs k:=by simp [atKey,List.find?_cons,e']
   rw [fO e,b];exact ih
theorem KT.repl{H:Hp}{kvs:List (List dS × V)}{xs:List (List dS × Addr × Value)}(r:KT H kvs xs)(k:List dS){y:V}{u:Value}(ry:dO y u) :
  KT H (kvs.map λkv=>if kv.1=k then (kv.1,y) else kv) (xs.map (putAt k u)):=by
 induction r with
 | nil=>exact .nil
 | @cons p q ps qs h t ih =>
  rw [aP,aP];refine .cons ?_ ih;obtain ⟨h1,h2,h3⟩:=h;unfold putAt;by_cases e:p.1=k
  ·rw [if_pos e,if_pos (h1.symm.trans e)];exact ⟨h1,h2,ry⟩
  ·rw [if_neg e,if_neg (λz=>e (h1.trans z))];exact ⟨h1,h2,h3⟩
theorem KT.put{H:Hp}{kvs:List (List dS × V)}{xs:List (List dS × Addr × Value)}(r:KT H kvs xs)(k:List dS){b:Addr}{y:V}{u:Value}(hb:H b=some (.tup (k.map kV)))(ry:dO y u) :
  KT H (iG kvs k y) (storedH xs k b u):=by
 have e:(kvs.any λkv=>decide (kv.1=k))=(atKey xs k).isSome:=by
  rw [jK,(r.val k).isSome_eq,Option.isSome_map]
 unfold iG storedH;rw [e];by_cases q:(atKey xs k).isSome=true
 ·rw [if_pos q,if_pos q];exact r.repl k ry
 ·rw [if_neg q,if_neg q];exact Paired.snoc r ⟨rfl,hb,ry⟩
theorem KT.keeps{H H':Hp}{kvs:List (List dS × V)}{xs:List (List dS × Addr × Value)}(r:KT H kvs xs)(ht:∀b ys,H b=some (.tup ys)->H' b=some (.tup ys)):KT H' kvs xs :=
 Paired.mapP r λ_ _ z=>⟨z.1,ht _ _ z.2.1,z.2.2⟩
section
variable{P:Program}{w:World}{H:Hp}{h:Heap}{a:Addr}
theorem UV{u:HO}(ok:nI P w H h)(e:Rd H a u):eU P w H h a u:=e.ok ok
theorem wA{kvs:List (dS × V)}(ok:nI P w H h)(e:Rd H a (.dK kvs)):kvs.length<=sizeLine/\(a == sysModules)=false/\∃vs,KV kvs vs/\h.DictOf (dU P w) a vs :=
 show eU P w H h a (.dK kvs) from UV ok e
theorem VH{kvs:List (dS × V)}(ok:nI P w H h)(e:H a=some (.dK kvs)):kvs.length<=sizeLine/\(a == sysModules)=false/\∃vs,KV kvs vs/\h.DictOf (dU P w) a vs:=wA ok (.inl e)
theorem mW{ks:List dS}(ok:nI P w H h)(e:H a=some (.tup (ks.map kV))):(tupleKind (dU P w)).is h ks a:=by
 obtain ⟨_,its,r,o,h1,h2,n,h3⟩:=(show eU P w H h a (.tup (ks.map kV)) from ok a _ e);exact ⟨o,its.toArray,n,h1,h2,h3,by simpa using xS r⟩
theorem vY{kvs:List (List dS × V)}(ok:nI P w H h)(e:Rd H a (.dT kvs)):kvs.length<=sizeLine/\(a == sysModules)=false /\
  ∃xs,KT H kvs xs/\h.DictOfH (tupleKind (dU P w)) a xs:=by
 obtain ⟨z,y,xs,r,o,es,ep,h1,h2,h3,h4,h5⟩:=(show eU P w H h a (.dT kvs) from UV ok e);refine ⟨z,y,xs,r,o,es,ep,h1,h2,h3,h4,λx hx=>?_,h5⟩;have all:∀{l:List (List dS × V)} {m:List (List dS × Addr × Value)},KT H l m->∀x∈m,(tupleKind (dU P w)).is h x.1 x.2.1:=by
  intro l m q
  induction q with
  | nil=>intro x hx;exact nomatch hx
  | @cons p q ps qs hq t ih =>
   intro x hx;rcases bA.mp hx with e | hx
   ·subst e;exact mW ok (by rw [<-hq.1];exact hq.2.1)
   ·exact ih x hx
 exact all r x hx
theorem GY{kvs:List (List dS × V)}(ok:nI P w H h)(e:H a=some (.dT kvs)):kvs.length<=sizeLine/\(a == sysModules)=false /\
  ∃xs,KT H kvs xs/\h.DictOfH (tupleKind (dU P w)) a xs:=vY ok (.inl e)
end
def jP(H:Hp)(a:Addr)(y:V)(r:Option V):Prop :=
 (∃kvs k,Rd H a (.dK kvs)/\y=kV k/\r=eN kvs k)\/∃kvs k b,Rd H a (.dT kvs)/\y=.ref b/\H b=some (.tup (k.map kV))/\r=eN kvs k
def BA(H:Hp)(a:Addr)(y v:V)(H':Hp):Prop :=
 (∃kvs k,H a=some (.dK kvs)/\y=kV k/\kvs.length<sizeLine/\H'=upd H a (.dK (iG kvs k v))) \/
 ∃kvs k b,H a=some (.dT kvs)/\y=.ref b/\H b=some (.tup (k.map kV))/\kvs.length<sizeLine/\H'=upd H a (.dT (iG kvs k v))
theorem jP.k{H:Hp}{a:Addr}{kvs:List (dS × V)}{k:dS}(e:H a=some (.dK kvs)):jP H a (kV k) (eN kvs k):=.inl ⟨kvs,k,.inl e,rfl,rfl⟩
theorem jP.t{H:Hp}{a b:Addr}{kvs:List (List dS × V)}{k:List dS}(e:H a=some (.dT kvs))(eb:H b=some (.tup (k.map kV))):jP H a (.ref b) (eN kvs k):=.inr ⟨kvs,k,b,.inl e,rfl,eb,rfl⟩
theorem BA.k{H:Hp}{a:Addr}{kvs:List (dS × V)}{k:dS}{v:V}(e:H a=some (.dK kvs))(hl:kvs.length<sizeLine):BA H a (kV k) v (upd H a (.dK (iG kvs k v))):=.inl ⟨kvs,k,e,rfl,hl,rfl⟩
theorem BA.t{H:Hp}{a b:Addr}{kvs:List (List dS × V)}{k:List dS}{v:V}(e:H a=some (.dT kvs))(eb:H b=some (.tup (k.map kV)))(hl:kvs.length<sizeLine) :
  BA H a (.ref b) v (upd H a (.dT (iG kvs k v))):=.inr ⟨kvs,k,b,e,rfl,eb,hl,rfl⟩
section
variable{X:Cx}{pins:List (Addr × Obj)}{σ:St}{H:Hp}{s:Shared}{a:Addr}{y v:V}{u r:Value}{o:Option V}{A:Around}{E:Value->Shared->Prop}
theorem cF.big(I:cF X pins σ H s):sysModules<s.heap.objs.size:=by
 have h:mainGlobals<s.heap.objs.size:=(I.mod.glob.keeps I.bk).lt;exact Nat.lt_trans Dd h
theorem JG{Q:Value->Shared->Prop}(hu:A.units+1<cLine)(I:cF X pins σ H s)(g:jP H a y (some v))(ry:dO y u)(h:∀w' s',cF X pins σ H s'->dO v w'->Q w' s') :
  wpAny (model X.prog X.w) A (getItem (.ref a) u) Q E s:=by
 rcases g with ⟨kvs,k,e,ey,l⟩ | ⟨kvs,k,b,e,ey,eb,l⟩
 ·subst ey;obtain ⟨z,hd,vs,rel,dd⟩:=wA I.hok e;obtain ⟨w',hw,rw'⟩:=tM.some_of (v:=v) (o:=valueAt vs k) (by rw [l];exact rel.val k);exact wpAny_getItem_of (vO ry) dd.mapOf hw (h w' _ (I.tok _) rw')
 ·subst ey;cases (show u=Value.ref b from ry);obtain ⟨z,hd,xs,rel,dd⟩:=vY I.hok e;obtain ⟨w',hw,rw'⟩:=tM.some_of (v:=v) (o:=(atKey xs k).map (·.2)) (by rw [l];exact rel.val k);obtain ⟨p,hp,hp2⟩:=Option.map_eq_some_iff.mp hw;refine wpAny_getItem_heap (tupleKind_room_in1 hu) (mW I.hok eb) dd hp ?_;rw [hp2];exact h w' _ (I.tok _) rw'
theorem aCI{Q:Value->Shared->Prop}(hu:A.units+1<cLine)(I:cF X pins σ H s)(g:jP H a y o)(ry:dO y u)(h:∀s',cF X pins σ H s'->Q (.bool o.isSome) s') :
  wpAny (model X.prog X.w) A (compareOp .In u (.ref a)) Q E s:=by
 rcases g with ⟨kvs,k,e,ey,l⟩ | ⟨kvs,k,b,e,ey,eb,l⟩
 ·subst ey;obtain ⟨z,hd,vs,rel,dd⟩:=wA I.hok e;refine wpAny_in_of (vO ry) hd dd.mapOf ?_;rw [<-(rel.val k).isSome_eq,<-l];exact h _ (I.tok _)
 ·subst ey;cases (show u=Value.ref b from ry);obtain ⟨z,hd,xs,rel,dd⟩:=vY I.hok e;refine wpAny_in_heap (tupleKind_room_in1 hu) (mW I.hok eb) hd dd ?_;have q:=(rel.val k).isSome_eq;rw [Option.isSome_map] at q;rw [<-q,<-l];exact h _ (I.tok _)
theorem pB{h':Heap}{t':Nat}{ob:HO}(I:cF X pins σ H s)(mu:Mut (H a))(hs:Heap.SameBut a s.heap h')(he:∃q,h'.get? a=some q)(new:eU X.prog X.w (upd H a ob) h' a ob) :
  cF X pins σ (upd H a ob) { s with heap:=h',toks:=t' } :=
 I.write (x:=a) (e:=a) mu (.inl rfl) (λb q hb z=>(hs.2 b hb).trans z) he new
theorem NP{P:Program}{w:World}{H':Hp}{h':Heap}{kvs:List (dS × V)}{vs:List (dS × Value)}(z:kvs.length<=sizeLine)(hd:(a == sysModules)=false)(rel:KV kvs vs)(dd:h'.DictOf (dU P w) a vs) :
  eU P w H' h' a (.dK kvs):=⟨z,hd,vs,rel,dd⟩
theorem JF{H':Hp}{Q:Unit->Shared->Prop}(hu:A.units+1<cLine)(I:cF X pins σ H s)(g:BA H a y v H')(ry:dO y u)(rv:dO v r)(h:∀s',cF X pins σ H' s'->Q () s') :
  wpAny (model X.prog X.w) A (setItem (.ref a) u r) Q E s:=by
 rcases g with ⟨kvs,k,e,ey,l,eH⟩ | ⟨kvs,k,b,e,ey,eb,l,eH⟩
 ·subst ey eH;obtain ⟨z,hd,vs,rel,dd⟩:=VH I.hok e;have hz:vs.length<=sizeLine:=by rw [<-rel.length];exact z
  have hl:(iG kvs k v).length<=sizeLine:=by have:=gR kvs k v;omega
  refine wpAny_setItem_pairs (hsz:=hz) (vO ry) dd λh' dd' hs=>h _ ?_;have he:∃q,h'.get? a=some q:=let ⟨q,_,_,hq,_⟩:=dd';⟨q,hq⟩;exact pB I (by rw [e];exact True.intro) hs he (NP hl hd (rel.put k rv) dd')
 ·subst ey eH;cases (show u=Value.ref b from ry);obtain ⟨z,hd,xs,rel,dd⟩:=GY I.hok e;have hz:xs.length<=sizeLine:=by rw [<-Paired.length rel];exact z
  have hl:(iG kvs k v).length<=sizeLine:=by have:=gR kvs k v;omega
  refine wpAny_setItem_heap (hsz:=hz) (tupleKind_room_in1 hu) (mW I.hok eb) dd λh' dd' hs=>h _ ?_;obtain ⟨q,es,ep,hq,h2,h3,h4,_,h5⟩:=dd';refine pB I (by rw [e];exact True.intro) hs ⟨q,hq⟩ ⟨hl,hd,_,(rel.put k eb rv).keeps λc ys ec=>?_,q,es,ep,hq,h2,h3,h4,h5⟩;rw [cU (vH ec e (λz=>nomatch z))];exact ec
end
section
variable{X:Cx}{pins:List (Addr × Obj)}{σ:St}{H:Hp}{s:Shared}{a:Addr}{kvs:List (dS × V)}{k:dS}{u:Value}{A:Around}{E:Value->Shared->Prop}
end
def ZX(i:Expr):Prop:=∀ov iv,subscripted i false ov iv=operate [ov,iv] (getItem ov iv)
theorem QD{prog:Program}{w:World}{A:Around}{E:Value->Shared->Prop}{s:Shared}{env:Env}{value slice:Expr}{pos:Pos}{T id:String}{Q:Value->Shared->Prop}
  (hl:typeLookup (.type T) "__getitem__" = pure (some (.builtin id))) (hs:ZX slice)
  (h:wpAny (model prog w) A (eval value env) (λo s₁=>wpAny (model prog w) A (eval slice env) (λi s₂=>s₂.TypeIs o T/\wpAny (model prog w) A (getItem o i) Q E s₂) E s₁) E s) :
  wpAny (model prog w) A (eval (.Subscript value slice pos) env) Q E s:=by
 refine Subscript_ (wpAny_mono h (λo s₁ h₁=>wpAny_mono h₁ (λi s₂ h₂=>?_) λ_ _ x=>x) λ_ _ x=>x);obtain ⟨hT,h₂⟩:=h₂;unfold subscriptTail;refine wpAny_bind ?_;rw [getitemInPython_of_ne hT.not_modules];refine wpAny_bind (wpAny_specialOf hT hl ?_);have fin:wpAny (model prog w) A (subscripted slice false o i) (λr s₃=>wpAny (model prog w) A (letTemporaryGo value o r >>= λ_=>pure r) Q E s₃) E s₂:=by
  rw [hs o i];exact wpAny_operating (wpAny_mono h₂ (λr s₃ h₃=>wpAny_bind (wpAny_letTemporaryGo (wpAny_pure h₃))) λ_ _ x=>x)
 first
  | exact wpAny_pure (wpAny_bind fin)
  | exact wpAny_bind (wpAny_pure (wpAny_bind fin))
  | exact wpAny_bind fin
theorem CQ{X:Cx}{pins:List (Addr × Obj)}{σ:St}{H:Hp}{s:Shared}{a:Addr}{y:V}{o:Option V}(I:cF X pins σ H s)(g:jP H a y o):s.TypeIs (.ref a) "dict" := by
 rcases g with ⟨kvs,k,e,_,_⟩ | ⟨kvs,k,b,e,_,_,_⟩
 ·obtain ⟨_,_,vs,_,dd⟩:=wA I.hok e;exact dd.typeIs
 ·obtain ⟨_,_,xs,_,dd⟩:=vY I.hok e;exact dd.typeIs
def aAv(td ty:TE):TE:=λσ H Q=>td σ H λx H1=>ty σ H1 λy H2=>∃a v,x=.ref a/\jP H2 a y (some v)/\Q v H2
def aAA(td ty tv:TE):TS:=λD σ H=>tv σ H λv H1=>td σ H1 λx H2=>ty σ H2 λy H3=>∃a H4,x=.ref a/\BA H3 a y v H4/\D.nx σ H4
section
variable{X:Cx}{o i e value:Expr}{pos pos' tpos:Pos}{td ty tv:TE}
theorem RW(hu:X.A.units+1<cLine)(ho:PE X o td)(hi:PE X i ty)(hs:ZX i):PE X (.Subscript o i pos) (aAv td ty):=by
 intro pins s σ H Q I h;refine QD PySem.F.slot_dict_getitem.lookup hs (thn (ho pins s σ H _ I h) λu s1 ⟨x,H1,I1,rx,q1⟩=>thn (hi pins s1 σ H1 _ I1 q1) λiv s2 ⟨y,H2,I2,ry,a,v,ex,g,q2⟩=>?_);subst ex;obtain rfl:u=Value.ref a:=rx;exact ⟨CQ I2 g,JG hu I2 g ry λw' s3 I3 rw'=>⟨v,H2,I3,rw',q2⟩⟩
theorem RH(hu:X.A.units+1<cLine)(ho:PE X o td)(hi:PE X i ty)(hv:PE X value tv)(hs:swapsWith value (some (.Subscript o i pos')) pos.line X.env=pure false) :
  PS X (.Assign [.Subscript o i pos'] value pos) (aAA td ty tv):=by
 intro pins s σ H D I h;refine wpAny_Assign_Subscript (thn (hv pins s σ H _ I h) λr s1 ⟨v,H1,I1,rv,q1⟩=>thn (ho pins s1 σ H1 _ I1 q1) λu s2 ⟨x,H2,I2,rx,q2⟩=>thn (hi pins s2 σ H2 _ I2 q2) λiv s3 ⟨y,H3,I3,ry,a,H4,ex,g,q3⟩=>?_) hs;subst ex;obtain rfl:u=Value.ref a:=rx;exact JF hu I3 g ry rv λs4 I4=>⟨σ,H4,I4,q3⟩
end
theorem NQ{P:Program}{w:World}{H:Hp}(h:Heap)(hb:sysModules<h.objs.size):eU P w H (h.push { cls:=.type "dict",data:=.dict #[] }) h.objs.size (.dK []) :=
 ⟨cM _,beq_eq_false_iff_ne.mpr (Ne.symm (cK hb)),[],.nil,Heap.DictOf.new h⟩
theorem vZ{P:Program}{w:World}{H:Hp}(h:Heap)(hb:sysModules<h.objs.size):eU P w H (h.push { cls:=.type "dict",data:=.dict #[] }) h.objs.size (.dT []) :=
 ⟨cM _,beq_eq_false_iff_ne.mpr (Ne.symm (cK hb)),[],.nil,_,#[],0,aU _ rfl,⟨rfl,rfl,rfl⟩,rfl,rfl,List.nodup_nil⟩
def LA:TE:=λ_ H Q=>∀p,H p=none->Q (.ref p) (upd H p (.dT []))
section
variable{X:Cx}{pos:Pos}
theorem pe_dnewT:PE X (.Dict [] [] pos) LA:=λpins s σ H Q I h =>
 wpAny_Dict_empty ⟨.ref s.heap.objs.size,_,I.laid (a:=s.heap.objs.size) (o:=.dT []) (t':=s.toks) (λ_ _ q=>aB _ q) (aJ _) (vZ s.heap I.big),rfl,h _ (I.hok.fresh (aJ _))⟩
end
def DT:List (TE × TE)->St->Hp->(List (V × V)->Hp->Prop)->Prop
 | [],_,H,Q=>Q [] H
 | (tk,tv)::r,σ,H,Q=>tk σ H λx H1=>tv σ H1 λy H2=>DT r σ H2 λps H3=>Q ((x,y)::ps) H3
abbrev VV:List (V × V)->List (Value × Value)->Prop:=Paired λp q=>dO p.1 q.1/\dO p.2 q.2
def PPs(X:Cx)(pos:Pos)(keys:List (Option Expr))(values:List Expr)(trs:List (TE × TE)):Prop :=
 ∀(pins:List (Addr × Obj)) (s:Shared) (σ:St) (H:Hp) (Q:List (V × V)->Hp->Prop),cF X pins σ H s->DT trs σ H Q ->
  wpAny (model X.prog X.w) X.A (evalPairs (pairTrees keys values X.env pos)) (λvs s'=>∃ps H',cF X pins σ H' s'/\VV ps vs/\Q ps H') X.xe s
theorem pps_nil{X:Cx}{pos:Pos}:PPs X pos [] [] []:=λpins s σ H Q I h=>pairTrees_nil_walk ⟨[],H,I,.nil,h⟩
theorem MI{X:Cx}{pos:Pos}{k v:Expr}{ks:List (Option Expr)}{vs:List Expr}{tk tv:TE}{trs:List (TE × TE)}(hk:PE X k tk)(hv:PE X v tv)(hr:PPs X pos ks vs trs) :
  PPs X pos (some k::ks) (v::vs) ((tk,tv)::trs):=λpins s σ H Q I h =>
 pairTrees_cons_walk (thn (hk pins s σ H _ I h) λu s1 ⟨x,H1,I1,rx,q1⟩=>thn (hv pins s1 σ H1 _ I1 q1) λw2 s2 ⟨y,H2,I2,ry,q2⟩ =>
  thn (hr pins s2 σ H2 _ I2 q2) λws s3 ⟨ps,H3,I3,rel,q3⟩=>⟨(x,y)::ps,H3,I3,.cons ⟨rx,ry⟩ rel,q3⟩)
def vJ(kvs more:List (dS × V)):List (dS × V):=more.foldl (λacc kv=>iG acc kv.1 kv.2) kvs
theorem KV.merge:∀{more:List (dS × V)}{rs:List (dS × Value)}{kvs:List (dS × V)}{vs:List (dS × Value)},KV more rs->KV kvs vs->KV (vJ kvs more) (merged vs rs):=by
 intro more rs kvs vs r;unfold KV at r
 induction r generalizing kvs vs with
 | nil=>intro q;exact q
 | @cons p q ps qs h t ih =>
  intro r0;have e:KV (iG kvs p.1 p.2) (stored vs q.1 q.2):=by
   have:=r0.put p.1 h.2;rw [<-h.1];exact this
  exact ih e
theorem pL:∀(more kvs:List (dS × V)),(vJ kvs more).length<=kvs.length+more.length
 | [],kvs=>by show kvs.length<=kvs.length+0;omega
 | p::r,kvs=>by
  have h1:=pL r (iG kvs p.1 p.2);have h2:=gR kvs p.1 p.2;show (vJ (iG kvs p.1 p.2) r).length<=_;rw [cS];omega
theorem wG{P:Program}{w:World}:∀{kvs:List (dS × V)}{ws:List (Value × Value)},VV (kvs.map λkv=>(kV kv.1,kv.2)) ws->∃rs,Carries (dU P w) ws rs/\KV kvs rs
 | [],_,r=>by rw [List.map_nil] at r;cases r;exact ⟨[],True.intro,.nil⟩
 | p::kvs,_,r=>by
  rw [aP] at r;cases r with
  | @cons a b as bs h t =>
   obtain ⟨rs,c,q⟩:=wG (P:=P) (w:=w) t;obtain ⟨b1,b2⟩:=b;exact ⟨(p.1,b2)::rs,⟨vO h.1,rfl,c⟩,.cons ⟨rfl,h.2⟩ q⟩
def UO(trs:List (TE × TE)):TE:=λσ H Q=>∀p,H p=none->DT trs σ (upd H p (.dK [])) λps H2=>H2 p=some (.dK [])/\∃kvs:List (dS × V),ps=kvs.map (λkv=>(kV kv.1,kv.2))/\kvs.length<=15/\Q (.ref p) (upd H2 p (.dK (vJ [] kvs)))
theorem RS{X:Cx}{pos:Pos}{keys:List (Option Expr)}{values:List Expr}{trs:List (TE × TE)}(h:PPs X pos keys values trs)(hall:keys.all (·.isSome)=true)(hl:keys.length=values.length)(h0:keys≠[])
  (h15:keys.length<=15):PE X (.Dict keys values pos) (UO trs):=by
 intro pins s σ H Q I q;have hn:=I.hok.fresh (aJ s.heap.objs.size);have I1:=I.laid (a:=s.heap.objs.size) (o:=.dK []) (h':=s.heap.push { cls:=.type "dict",data:=.dict #[] }) (t':=s.toks) (λ_ _ q=>aB _ q) (aJ _) (NQ s.heap I.big);refine wpAny_Dict_walk (knd:=dU X.prog X.w) hall hl h0 h15 (thn (h pins _ σ _ _ I1 (q _ hn)) λws s2 ⟨ps,H2,I2,rel,e,kvs,ep,lk,q2⟩=>?_);subst ep;obtain ⟨rs,c,rk⟩:=wG (P:=X.prog) (w:=X.w) rel;obtain ⟨z,hd,vs0,r0,dd⟩:=VH I2.hok e;cases r0;refine ⟨rs,c,dd,λh' dd' hs=>⟨.ref s.heap.objs.size,_,?_,rfl,q2⟩⟩;have hz:(vJ [] kvs).length<=sizeLine:=by
  have h1:=pL kvs [];rw [List.length_nil] at h1;rw [sizeLine_eq];omega
 have he:∃q,h'.get? s.heap.objs.size=some q:=let ⟨q,_,_,hq,_⟩:=dd';⟨q,hq⟩;exact pB I2 (by rw [e];exact True.intro) hs he (NP hz hd (rk.merge .nil) dd')
structure M1(X:Cx)(o:Expr)(m:Str)(apos:Pos)(e:Expr)(cpos:Pos):Prop where
 base:attributeBase o m X.env (eval o X.env)=eval o X.env
 few:((backTo cpos (starEach [e] X.env)).all (λx=>!x.1)&&(backToKw cpos (keywordEach [] X.env)).all (λx=>x.1.isSome)
  && decide (([e]:List Expr).length+([]:List Keyword).length+(if ([]:List Keyword).isEmpty then 0 else 1)<30))=true
 line:(apos.endLine == cpos.line)=true
 trees:backTo cpos (starEach [e] X.env)=[(false,eval e X.env)]
structure M2(X:Cx)(o:Expr)(m:Str)(apos:Pos)(e f:Expr)(cpos:Pos):Prop where
 base:attributeBase o m X.env (eval o X.env)=eval o X.env
 few:((backTo cpos (starEach [e,f] X.env)).all (λx=>!x.1)&&(backToKw cpos (keywordEach [] X.env)).all (λx=>x.1.isSome)
  && decide (([e,f]:List Expr).length+([]:List Keyword).length+(if ([]:List Keyword).isEmpty then 0 else 1)<30))=true
 line:(apos.endLine == cpos.line)=true
 trees:backTo cpos (starEach [e,f] X.env)=[(false,eval e X.env),(false,eval f X.env)]
def IsD(H:Hp)(a:Addr):Prop:=(∃kvs,Rd H a (.dK kvs))\/∃kvs,Rd H a (.dT kvs)
theorem NE{X:Cx}{pins:List (Addr × Obj)}{σ:St}{H:Hp}{s:Shared}{a:Addr}(I:cF X pins σ H s)(d:IsD H a) :
  s.TypeIs (.ref a) "dict" /\ (∀b,Value.ref a=.ref b->∃ob,s.heap.get? b=some ob/\ob.dict=none)/\(a == sysModules)=false:=by
 rcases d with ⟨kvs,e⟩ | ⟨kvs,e⟩
 ·obtain ⟨_,hd,vs,_,dd⟩:=wA I.hok e;refine ⟨dd.typeIs,λb q=>?_,hd⟩;cases q;obtain ⟨ob,_,_,h1,h2,_⟩:=dd;exact ⟨ob,h1,h2.2.1⟩
 ·obtain ⟨_,hd,xs,_,dd⟩:=vY I.hok e;refine ⟨dd.typeIs,λb q=>?_,hd⟩;cases q;obtain ⟨ob,_,_,h1,h2,_⟩:=dd;exact ⟨ob,h1,h2.2.1⟩
section
variable{X:Cx}{pins:List (Addr × Obj)}{σ:St}{H:Hp}{s:Shared}{a:Addr}{y d:V}{u r:Value}{o:Option V}{A:Around}{E:Value->Shared->Prop}
theorem ZF{Q:Value->Shared->Prop}(hu:A.units+1<cLine)(I:cF X pins σ H s)(g:jP H a y o)(ry:dO y u)(h:∀w' s',cF X pins σ H s'->dO (o.getD .non) w'->Q w' s') :
  wpAny (model X.prog X.w) A (call (.builtin "dict.get") [.ref a,u]) Q E s:=by
 rcases g with ⟨kvs,k,e,ey,l⟩ | ⟨kvs,k,b,e,ey,eb,l⟩
 ·subst ey;obtain ⟨z,hd,vs,rel,dd⟩:=wA I.hok e;refine call_meetsIn PySem.F.slot_dict_get dd.typeIs PySem.F.entry_dict_get (PySem.F.args_dict_get_2 _ _) (meets_dict_get (dU X.prog X.w) a (vO ry) hd) ⟨_,dd.mapOf,h _ _ (I.tok _) ?_⟩;rw [l];exact (rel.val k).getD rfl
 ·subst ey;cases (show u=Value.ref b from ry);obtain ⟨z,hd,xs,rel,dd⟩:=vY I.hok e;refine call_meetsIn PySem.F.slot_dict_get dd.typeIs PySem.F.entry_dict_get (PySem.F.args_dict_get_2 _ _) (meetsH_dict_get (tupleKind (dU X.prog X.w)) a b hd) ⟨tupleKind_room_in1 hu,k,xs,mW I.hok eb,dd,h _ _ (I.tok _) ?_⟩;rw [l];exact (rel.val k).getD rfl
theorem ZE{Q:Value->Shared->Prop}(hu:A.units+1<cLine)(I:cF X pins σ H s)(g:jP H a y o)(ry:dO y u)(rd:dO d r)(h:∀w' s',cF X pins σ H s'->dO (o.getD d) w'->Q w' s') :
  wpAny (model X.prog X.w) A (call (.builtin "dict.get") [.ref a,u,r]) Q E s:=by
 rcases g with ⟨kvs,k,e,ey,l⟩ | ⟨kvs,k,b,e,ey,eb,l⟩
 ·subst ey;obtain ⟨z,hd,vs,rel,dd⟩:=wA I.hok e;refine call_meetsIn PySem.F.slot_dict_get dd.typeIs PySem.F.entry_dict_get (PySem.F.args_dict_get_3 _ _ _) (meets_dict_get_default (dU X.prog X.w) a (vO ry) hd r) ⟨_,dd.mapOf,h _ _ (I.tok _) ?_⟩;rw [l];exact (rel.val k).getD rd
 ·subst ey;cases (show u=Value.ref b from ry);obtain ⟨z,hd,xs,rel,dd⟩:=vY I.hok e;refine call_meetsIn PySem.F.slot_dict_get dd.typeIs PySem.F.entry_dict_get (PySem.F.args_dict_get_3 _ _ _) (meetsH_dict_get_default (tupleKind (dU X.prog X.w)) a b hd r) ⟨tupleKind_room_in1 hu,k,xs,mW I.hok eb,dd,h _ _ (I.tok _) ?_⟩;rw [l];exact (rel.val k).getD rd
end
def LC(td ty:TE):TE:=λσ H Q=>td σ H λx H1=>∃a,x=.ref a/\IsD H1 a/\ty σ H1 λy H2=>∃o,jP H2 a y o/\Q (o.getD .non) H2
def LB(td ty tx:TE):TE:=λσ H Q=>td σ H λx H1=>∃a,x=.ref a/\IsD H1 a/\ty σ H1 λy H2=>tx σ H2 λz H3=>∃o,jP H3 a y o/\Q (o.getD z) H3
section
variable{X:Cx}{o e f:Expr}{apos cpos:Pos}{td ty tx:TE}
theorem MN(hu:X.A.units+1<cLine)(ho:PE X o td)(he:PE X e ty)(m:M1 X o "get" apos e cpos):PE X (.Call (.Attribute o "get" apos) [e] [] cpos) (LC td ty):=by
 intro pins s σ H Q I h;refine wpAny_Call_method m.base m.few m.line PySem.F.plainAttrs_dict PySem.F.slot_dict_get PySem.F.type_dict_get (thn (ho pins s σ H _ I h) λu s1 ⟨x,H1,I1,rx,a,ex,d,q1⟩=>?_);subst ex;obtain rfl:u=Value.ref a:=rx;obtain ⟨t1,t2,_⟩:=NE I1 d;refine ⟨t1,t2,?_⟩;rw [m.trees];refine Calls.callWith_builtin rfl (Calls.evalArgs_plain (Calls.spliced_cons (thn (he pins s1 σ H1 _ I1 q1) λiv s2 ⟨y,H2,I2,ry,ov,g,q2⟩=>Calls.spliced_nil ?_)));exact ZF hu I2 g ry λw' s3 I3 rw'=>⟨_,H2,I3,rw',q2⟩
theorem MM(hu:X.A.units+1<cLine)(ho:PE X o td)(he:PE X e ty)(hf:PE X f tx)(m:M2 X o "get" apos e f cpos):PE X (.Call (.Attribute o "get" apos) [e,f] [] cpos) (LB td ty tx):=by
 intro pins s σ H Q I h;refine wpAny_Call_method m.base m.few m.line PySem.F.plainAttrs_dict PySem.F.slot_dict_get PySem.F.type_dict_get (thn (ho pins s σ H _ I h) λu s1 ⟨x,H1,I1,rx,a,ex,d,q1⟩=>?_);subst ex;obtain rfl:u=Value.ref a:=rx;obtain ⟨t1,t2,_⟩:=NE I1 d;refine ⟨t1,t2,?_⟩;rw [m.trees];refine Calls.callWith_builtin rfl (Calls.evalArgs_plain (Calls.spliced_cons (thn (he pins s1 σ H1 _ I1 q1) λiv s2 ⟨y,H2,I2,ry,q2⟩ =>
  Calls.spliced_cons (thn (hf pins s2 σ H2 _ I2 q2) λfv s3 ⟨z,H3,I3,rz,ov,g,q3⟩=>Calls.spliced_nil ?_))))
 exact ZE hu I3 g ry rz λw' s4 I4 rw'=>⟨_,H3,I4,rw',q3⟩
end
section
variable{X:Cx}{pins:List (Addr × Obj)}{σ:St}{H:Hp}{s:Shared}{a:Addr}{kvs:List (dS × V)}{A:Around}{E:Value->Shared->Prop}
end
section
variable{X:Cx}{pins:List (Addr × Obj)}{σ:St}{H:Hp}{s:Shared}{a:Addr}{y:V}{u:Value}{A:Around}{E:Value->Shared->Prop}
end
section
variable{κ:Type}[DecidableEq κ]
theorem KS{kvs:List (κ × V)}{k:κ}(h:eN kvs k=none):¬k∈kvs.map (·.1):=by
 intro m;obtain ⟨p,hp,e⟩:=aD.mp m;have q:(kvs.any λkv=>decide (kv.1=k))=true:=List.any_eq_true.mpr ⟨p,hp,cV e⟩;rw [jK,h] at q;exact absurd q (by simp)
theorem qB{kvs:List (κ × V)}{k:κ}{v:V}(h:eN kvs k=some v):k∈kvs.map (·.1):=by
 have q:(kvs.any λkv=>decide (kv.1=k))=true:=by
  rw [jK,h]
  all_goals rfl
 obtain ⟨p,hp,e⟩:=List.any_eq_true.mp q;exact aD.mpr ⟨p,hp,of_decide_eq_true e⟩
end
abbrev bits(i:Int):Nat:=Builtin.Int.intBits i
def OV(i j:Int):Prop:=0<j/\bits j<=9000
theorem CF{j:Int}{n:Nat}(h:bits j<=n)(hn:0<n):j.natAbs.log2<n:=by
 unfold bits Builtin.Int.intBits at h;by_cases hj:(j == 0)=true
 ·have:j=0:=by simpa using hj
  subst this;exact aQ (by decide +kernel:(0:Int).natAbs.log2<=0) hn
 ·rw [if_neg hj] at h;omega
section
variable{X:Cx}
theorem fQ:pW X (binaryOp .FloorDiv) (rI OV λi j=>.int (i/j)):=opI λi j _ _ _ _ _ hc q=>by
 refine floordiv_int (by have:=hc.1;omega) ?_ (.inl (PyProof.noPylong_of_log2 (CF hc.2 Dd)));rw [Int.fdiv_eq_ediv_of_nonneg i (by have:=hc.1;omega)];exact q
theorem fG:pW X (binaryOp .Mult) (rI IntMulOk λi j=>.int (i*j)):=opI λ_ _ _ _ _ _ _ hc q=>mul_int q hc
end
mutual
def cA(H:Hp):PyData->V->Prop
 | .none,v=>v=.non
 | .bool b,v=>v=.bl b
 | .int i,v=>v=.int i
 | .str x,v=>v=.str x
 | .list ds,v=>∃a xs,v=.ref a/\H a=some (.lst xs)/\bD H ds xs
 | .tuple ds,v=>∃a xs,v=.ref a/\H a=some (.tup xs)/\bD H ds xs
 | .dict kvs,v=>kvs=[]/\∃a,v=.ref a/\H a=some (.dK [])
def bD(H:Hp):List PyData->List V->Prop
 | [],vs=>vs=[]
 | d::ds,vs=>∃x xs,vs=x::xs/\cA H d x/\bD H ds xs
end
mutual
theorem cA.same{H H':Hp}(e:bE H H'):∀{d:PyData}{v:V},cA H d v->cA H' d v
 | .none,_,h=>h
 | .bool _,_,h=>h
 | .int _,_,h=>h
 | .str _,_,h=>h
 | .list ds,_,h=>by
  unfold cA at h ⊢;obtain ⟨a,xs,rfl,h1,h2⟩:=h;exact ⟨a,xs,rfl,e _ _ h1,bD.same e h2⟩
 | .tuple ds,_,h=>by
  unfold cA at h ⊢;obtain ⟨a,xs,rfl,h1,h2⟩:=h;exact ⟨a,xs,rfl,e _ _ h1,bD.same e h2⟩
 | .dict kvs,_,h=>by
  unfold cA at h ⊢;obtain ⟨h0,a,rfl,h1⟩:=h;exact ⟨h0,a,rfl,e _ _ h1⟩
theorem bD.same{H H':Hp}(e:bE H H'):∀{ds:List PyData}{vs:List V},bD H ds vs->bD H' ds vs
 | [],_,h=>h
 | d::ds,_,h=>by
  unfold bD at h ⊢;obtain ⟨x,xs,rfl,h1,h2⟩:=h;exact ⟨x,xs,rfl,cA.same e h1,bD.same e h2⟩
end
theorem cA.tup{H:Hp}{a:Addr}{xs:List V}{ds:List PyData}(h:H a=some (.tup xs))(r:bD H ds xs):cA H (.tuple ds) (.ref a):=by
 unfold cA;exact ⟨a,xs,rfl,h,r⟩
theorem cA.lst{H:Hp}{a:Addr}{xs:List V}{ds:List PyData}(h:H a=some (.lst xs))(r:bD H ds xs):cA H (.list ds) (.ref a):=by
 unfold cA;exact ⟨a,xs,rfl,h,r⟩
theorem cA.int{H:Hp}(i:Int):cA H (.int i) (.int i):=by unfold cA;rfl
theorem cA.str{H:Hp}(i:Str):cA H (.str i) (.str i):=by unfold cA;rfl
theorem bD.nil{H:Hp}:bD H [] []:=by unfold bD;rfl
theorem bD.cons{H:Hp}{d:PyData}{ds:List PyData}{x:V}{xs:List V}(h:cA H d x)(hs:bD H ds xs):bD H (d::ds) (x::xs):=by
 unfold bD;exact ⟨x,xs,rfl,h,hs⟩
section
variable{X:Cx}{pins:List (Addr × Obj)}{σ:St}{H:Hp}{s:Shared}
mutual
theorem cA.reads(I:cF X pins σ H s):∀{d:PyData}{v:V}{u:Value},cA H d v->dO v u->∃as,Reads s.heap u d as
 | .none,_,u,h,r=>by
  cases (show _=V.non from h);cases (show u=Value.none from r);exact ⟨_,.none⟩
 | .bool b,_,u,h,r=>by
  cases (show _=V.bl b from h);cases (show u=Value.bool b from r);exact ⟨_,.bool b⟩
 | .int b,_,u,h,r=>by
  cases (show _=V.int b from h);obtain ⟨t,q⟩:=(show ∃t,u=Value.int b t from r);cases q;exact ⟨_,.int b t⟩
 | .str b,_,u,h,r=>by
  cases (show _=V.str b from h);obtain ⟨t,q⟩:=(show ∃t,u=Value.str b t from r);cases q;exact ⟨_,.str b t⟩
 | .list ds,v,u,h,r=>by
  unfold cA at h;obtain ⟨a,xs,rfl,h1,h2⟩:=h;cases (show u=Value.ref a from r);obtain ⟨_,its,n,r',e⟩:=(show eU X.prog X.w H s.heap a (.lst xs) from I.hok a _ h1);obtain ⟨as,q⟩:=bD.reads I h2 r';exact ⟨_,.list e rfl rfl (by simpa using q)⟩
 | .tuple ds,v,u,h,r=>by
  unfold cA at h;obtain ⟨a,xs,rfl,h1,h2⟩:=h;cases (show u=Value.ref a from r);obtain ⟨_,its,r',o,e,hc,n,hd⟩:=(show eU X.prog X.w H s.heap a (.tup xs) from I.hok a _ h1);obtain ⟨as,q⟩:=bD.reads I h2 r';exact ⟨_,.tuple e hc hd (by simpa using q)⟩
 | .dict kvs,v,u,h,r=>by
  unfold cA at h;obtain ⟨rfl,a,rfl,h1⟩:=h;cases (show u=Value.ref a from r);obtain ⟨_,_,vs,kv,o,es,ep,e,hx,hd,_,hes,_⟩:=(show eU X.prog X.w H s.heap a (.dK []) from I.hok a _ h1);cases kv;have he:es.toList=[]:=by
   cases q:es.toList with
   | nil=>rfl
   | cons y ys=>rw [q] at hes;cases hes
  exact ⟨_,.dict e hx.1 hd (by rw [he];exact .nil) (by rw [he];exact .nil)⟩
theorem bD.reads(I:cF X pins σ H s):∀{ds:List PyData}{vs:List V}{us:List Value},bD H ds vs->cZ vs us->∃as,ReadsAll s.heap us ds as
 | [],_,us,h,r=>by
  cases (show _=[] from h);cases r;exact ⟨_,.nil⟩
 | d::ds,_,us,h,r=>by
  unfold bD at h;obtain ⟨x,xs,rfl,h1,h2⟩:=h;cases r with
  | cons r1 r2 =>
   obtain ⟨as,q1⟩:=cA.reads I h1 r1;obtain ⟨bs,q2⟩:=bD.reads I h2 r2;exact ⟨_,.cons q1 q2⟩
end
end
section
variable{X:Cx}
end
section
variable{X:Cx}
end
structure eZ(CX:KB)(P:Program)(w:World)(K:PySem.W.Frag)(mg:Str->Option Value)(base:Heap)(k:Nat)(x:Str)(ps:List Str)(sp:Sp):Prop where
 ex:∃(f:Addr) (fd:FuncData),eA P w K mg base CX k f fd ps sp/\mg x=some (.ref f)/\PySem.W.keepIn K (.ref f)=true/\yO K fd ps []
section
variable{X:Cx}{k:Nat}{ps:List Str}{sp:Sp}{x:Str}{p pos:Pos}{e:Expr}{es:List Expr}{t:TA}
theorem aAO(F:eZ dG X.prog X.w X.K X.mg X.base k x ps sp)(hr:kC k X.A)(ha:PA X (e::es) t)(hg:Gl X x:=by rfl)
  (hdb:(x == ("__debug__" : Str))=false:=by decide) (he:starEach (e::es) X.env=(false,eval e X.env)::starEach es X.env:=by rfl) (hpl:(backTo pos (starEach es X.env)).any (·.1)=false:=by rfl) :
  PE X (.Call (.Name x p) (e::es) [] pos) (LD sp [] E0 t):=by
 obtain ⟨f,fd,h1,h2,h3,h4⟩:=F.ex;exact RZ h1 hr hg h2 h3 h4 .nil aAP ha hdb he hpl
end
section
variable{K:PySem.W.Frag}{H:Hp}{p:Addr}{xs:List V}{i:Int}{v:V}{Q:VK}
theorem KF(h:H p=some (.lst xs))(e:DG xs i=some v)(q:Q v H):rIx K (.ref p) (.int i) H Q:=.inl ⟨p,xs,i,v,rfl,rfl,fM.of h,e,q⟩
theorem pE(h:H p=some (.tup xs))(e:DG xs i=some v)(q:Q v H):rIx K (.ref p) (.int i) H Q:=.inr (.inl ⟨p,xs,i,v,rfl,rfl,fF.of h,e,q⟩)
theorem stL{u:V}{Q:Hp->Prop}{j:Nat}(h:H p=some (.lst xs))(e:JA xs.length i=some j)(q:Q (upd H p (.lst (xs.set j u)))):MD (.ref p) (.int i) u H Q:=⟨p,xs,i,j,rfl,rfl,h,e,q⟩
end
def gW(p:Addr)(H:Hp):Hp:=λb=>if b=p then none else H b
theorem gW.at{p b:Addr}{H:Hp}(h:b≠p):gW p H b=H b:=by unfold gW;rw [if_neg h]
theorem gW.self{p:Addr}{H:Hp}:gW p H p=none:=by unfold gW;rw [if_pos rfl]
theorem gW.same{p:Addr}{H:Hp}:bE (gW p H) H:=λb o h=>by
 unfold gW at h;by_cases e:b=p
 ·rw [if_pos e] at h;cases h
 ·rw [if_neg e] at h;exact h
theorem gW.ne{p b:Addr}{H:Hp}{o:HO}(h:gW p H b=some o):b≠p:=λe=>by
 subst e;rw [gW.self] at h;cases h
theorem gW.of{p b:Addr}{H:Hp}{o:HO}(n:b≠p)(h:H b=some o):gW p H b=some o:=by rw [gW.at n];exact h
theorem gW.upd_self{p:Addr}{H:Hp}{o:HO}:gW p (upd H p o)=gW p H:=by
 funext b
 by_cases e:b=p
 ·subst e;rw [gW.self,gW.self]
 ·rw [gW.at e,gW.at e,L2.cU e]
abbrev aR(p:Addr)(H H':Hp):Prop:=bE (gW p H) (gW p H')
theorem bE.but{p:Addr}{H H':Hp}(h:bE H H'):aR p H H':=λb o e=>by
 have n:=gW.ne e;exact gW.of n (h _ _ (gW.same _ _ e))
theorem bE.upd{H:Hp}{q:Addr}{o:HO}(h:H q=none):bE H (upd H q o):=λb u e=>by
 rw [L2.cU (cR e h)];exact e
theorem aR.self{p:Addr}{H:Hp}{o:HO}:aR p H (upd H p o):=by unfold aR;rw [gW.upd_self];exact bE.refl _
theorem aR.free{p q:Addr}{H H':Hp}(e:aR p H H')(hp:∃o,H' p=some o)(h:H' q=none):H q=none:=by
 cases k:H q with
 | none=>rfl
 | some o =>
  by_cases n:q=p
  ·subst n;obtain ⟨o',h'⟩:=hp;rw [h'] at h;cases h
  ·have:=gW.same _ _ (e q o (gW.of n k));rw [this] at h;cases h
section
variable{K:PySem.W.Frag}{H:Hp}{p:Addr}{xs:List V}{i:Int}{v:V}{Q:VK}
theorem stG{u:V}{Q:Hp->Prop}{j:Nat}(h:H p=some (.lst xs))(e:JA xs.length i=some j)(k:∀H',H' p=some (.lst (xs.set j u))->aR p H H'->Q H'):MD (.ref p) (.int i) u H Q :=
 stL h e (k _ bI aR.self)
theorem alT{Q:V->Hp->Prop}(hz:xs.length<=sizeLine)(k:∀q H',H q=none->H' q=some (.tup xs)->bE H H'->Q (.ref q) H'):xs.length<=sizeLine/\∀p,H p=none->Q (.ref p) (upd H p (.tup xs)) :=
 ⟨hz,λq hq=>k q _ hq bI (bE.upd hq)⟩
theorem alL{Q:V->Hp->Prop}(hz:xs.length<=sizeLine)(k:∀q H',H q=none->H' q=some (.lst xs)->bE H H'->Q (.ref q) H'):xs.length<=sizeLine/\∀p,H p=none->Q (.ref p) (upd H p (.lst xs)) :=
 ⟨hz,λq hq=>k q _ hq bI (bE.upd hq)⟩
theorem aR.at{p b:Addr}{H H':Hp}{o:HO}(s:aR p H H')(n:b≠p)(h:H b=some o):H' b=some o:=gW.same _ _ (s _ _ (gW.of n h))
end
theorem mN{n:Nat}(h:n<=64):n<=sizeLine:=aW h Dd
theorem CM{c A B:Prop}[Decidable c](h1:c->A)(h2:¬c->B):if decide c=true then A else B :=
 aAZ (λh=>h1 (of_decide_eq_true h)) (λh=>h2 (λk=>h (cV k)))
theorem aAY{c A B:Prop}[Decidable c](h1:¬c->A)(h2:c->B):if (!decide c)=true then A else B :=
 aAZ (λh=>h1 (λk=>by rw [cV k] at h;exact absurd h Dd)) (λh=>h2 (Decidable.of_not_not λk=>h (by rw [cI k];rfl)))
def qC(c:TT):TT:=λσ H Q=>∃Q':Bool->Hp->Prop,c σ H Q'/\∀b H1,Q' b H1->Q b H1
theorem PT.mono{X:Cx}{e:Expr}{c:TT}(h:PT X e c):PT X e (qC c):=λpins s σ H Q I ⟨Q',h1,h2⟩ =>
 thn (h pins s σ H Q' I h1) λb s' ⟨H',I',q⟩=>⟨H',I',h2 _ _ q⟩
theorem IP{X:Cx}{pos:Pos}{c:Expr}{body:List Stmt}{tc:TT}{tb:TS}(hp:PassesOwn (model X.prog X.w) X.A X.env X.xe)(hc:PT X c tc)(hb:FF X body tb):PS X (.While c body [] pos) (yY (qC tc) tb) :=
 MG hp hc.mono hb
@[irreducible] def zV(K:PySem.W.Frag):List V->Hp->VK->Prop:=λxs H Q=>∃x n,xs=[x]/\aBi K x H n/\Q (.int n) H
@[irreducible] def QX:List V->Hp->VK->Prop:=λxs H Q=>∃i,xs=[.int i]/\Q (.int (i.natAbs:Int)) H
section
variable{X:Cx}{K:PySem.W.Frag}{H:Hp}{p:Addr}{xs:List V}{Q:VK}
theorem lJ:iP X (.builtin "len") (zV X.K):=by unfold zV;exact OC
theorem ZI:iP X (.builtin "abs") QX:=by
 unfold QX;exact λpins s σ H xs us Q I r ⟨i,e,q⟩=>OD pins s σ H xs us Q I r ⟨i,e,by
 have:(if i<0 then -i else i)=(i.natAbs:Int):=by split <;> omega
 rw [this];exact q⟩
theorem rlL(h:H p=some (.lst xs))(q:Q (.int xs.length) H):zV K [V.ref p] H Q:=by unfold zV;exact ⟨_,_,rfl,.inl ⟨xs,fM.of h,rfl⟩,q⟩
theorem rlT(h:H p=some (.tup xs))(q:Q (.int xs.length) H):zV K [V.ref p] H Q:=by unfold zV;exact ⟨_,_,rfl,.inr ⟨xs,fF.of h,rfl⟩,q⟩
theorem raI{i:Int}(q:Q (.int (i.natAbs:Int)) H):QX [V.int i] H Q:=by unfold QX;exact ⟨i,rfl,q⟩
end
theorem tO{c:TT}{tb:TS}{D:sW}{σ:St}{H:Hp}(W:Nat->St->Hp->Prop)(R:St->Hp->Prop)(m:Nat)(h0:W m σ H)
  (hs:∀m σ H,W m σ H->c σ H λb H1=>if b=true then tb { D with nx:=λσ' H'=>∃m',m' < m/\W m' σ' H',ct:=λσ' H'=>∃m',m' < m/\W m' σ' H',bk:=D.nx } σ H1 else R σ H1)
  (hd:∀σ H,R σ H->D.nx σ H):yY (qC c) tb D σ H :=
 ⟨W,⟨m,h0⟩,λm σ H hw=>⟨_,hs m σ H hw,λb H1 q=>by
  by_cases hb:b=true
  ·rw [if_pos hb] at q ⊢;exact ⟨_,λ_ _ h=>h,q⟩
  ·rw [if_neg hb] at q ⊢;exact hd _ _ q⟩⟩
def aAw(t:TS):TS:=λD σ H=>∃R:St->Hp->Prop,(∀σ' H',R σ' H'->D.nx σ' H')/\t { D with nx:=R } σ H
theorem XW{X:Cx}{st:Stmt}{t:TS}(h:PS X st t):PS X st (aAw t):=λpins s σ H D I ⟨R,hR,q⟩ =>
 thn (h pins s σ H _ I q) λf s' z=>by
  cases f with
  | next=>obtain ⟨σ',H',I',r⟩:=z;exact ⟨σ',H',I',hR _ _ r⟩
  | brk=>exact z
  | cont=>exact z
  | ret u=>exact z
section
variable{es:List Expr}{env:Env}
theorem gD{a b c d}:starEach (.BinOp a b c d::es) env=(false,eval (.BinOp a b c d) env)::starEach es env:=by rw [starEach] <;> (intros;contradiction)
theorem eO{a b c}:starEach (.UnaryOp a b c::es) env=(false,eval (.UnaryOp a b c) env)::starEach es env:=by rw [starEach] <;> (intros;contradiction)
theorem eD{a b c d}:starEach (.ListComp a b c d::es) env=(false,eval (.ListComp a b c d) env)::starEach es env:=by rw [starEach] <;> (intros;contradiction)
theorem eP{a b c d}:starEach (.Compare a b c d::es) env=(false,eval (.Compare a b c d) env)::starEach es env:=by rw [starEach] <;> (intros;contradiction)
theorem fX{a b c d}:starEach (.Call a b c d::es) env=(false,eval (.Call a b c d) env)::starEach es env:=by rw [starEach] <;> (intros;contradiction)
theorem eE{a b c}:starEach (.Constant a b c::es) env=(false,eval (.Constant a b c) env)::starEach es env:=by rw [starEach] <;> (intros;contradiction)
theorem dE{a b c}:starEach (.Subscript a b c::es) env=(false,eval (.Subscript a b c) env)::starEach es env:=by rw [starEach] <;> (intros;contradiction)
theorem fW{a b}:starEach (.Name a b::es) env=(false,eval (.Name a b) env)::starEach es env:=by rw [starEach] <;> (intros;contradiction)
theorem iJ{a b}:starEach (.List a b::es) env=(false,eval (.List a b) env)::starEach es env:=by rw [starEach] <;> (intros;contradiction)
theorem gC{a b c}:starEach (.Tuple a b c::es) env=(false,eval (.Tuple a b c) env)::starEach es env:=by rw [starEach] <;> (intros;contradiction)
end
section
variable{X:Cx}{k:Nat}{ps:List Str}{sp:Sp}{x:Str}{p pos:Pos}{e:Expr}{es:List Expr}{te:TE}{t:TA}{id T:String}{r:List V->Hp->VK->Prop}
theorem sT{env:Env}:(backTo pos (starEach [] env)).any (·.1)=false:=rfl
theorem pC{env:Env}(hs:starEach (e::es) env=(false,eval e env)::starEach es env)(h:(backTo pos (starEach es env)).any (·.1)=false):(backTo pos (starEach (e::es) env)).any (·.1)=false:=by
 rw [hs];show (false || (backTo pos (starEach es env)).any (·.1))=false;rw [h];rfl
end
structure hZ(X:Cx)(e:Expr)(t:TE):Prop where p:PE X e t
structure HM(X:Cx)(e:Expr)(t:TT):Prop where p:PT X e t
structure ZV(X:Cx)(e:Expr)(t:TT):Prop where p:PW X e t
structure HN(X:Cx)(es:List Expr)(t:TA):Prop where p:PA X es t
structure FE(X:Cx)(st:Stmt)(t:TS):Prop where p:PS X st t
structure wV(X:Cx)(st:List Stmt)(t:TS):Prop where p:FF X st t
structure TZ(X:Cx)(e:Expr)(t:TG):Prop where p:PG X e t
structure UA(X:Cx)(es:List Expr)(t:OQ):Prop where p:PGs X es t
structure PD(X:Cx)(tg iter:Expr)(t:TI):Prop where p:PI X tg iter t
structure POw(X:Cx)(e:Option Expr)(t:TO):Prop where p:PO X e t
@[irreducible] def FX(xs:List V)(H:Hp)(Q:VK):Prop:=xs.length<=sizeLine/\∀p,H p=none->Q (.ref p) (upd H p (.tup xs))
@[irreducible] def FY(xs:List V)(H:Hp)(Q:VK):Prop:=xs.length<=sizeLine/\∀p,H p=none->Q (.ref p) (upd H p (.lst xs))
theorem mC{xs:List V}{H:Hp}{Q:VK}(hz:xs.length<=64)(k:∀q H',H q=none->H' q=some (.tup xs)->bE H H'->Q (.ref q) H'):FX xs H Q:=by unfold FX;exact alT (mN hz) k
theorem qU{xs:List V}{H:Hp}{Q:VK}(hz:xs.length<=64)(k:∀q H',H q=none->H' q=some (.lst xs)->bE H H'->Q (.ref q) H'):FY xs H Q:=by unfold FY;exact alL (mN hz) k
def tTu(t:TA):TE:=λσ H Q=>t σ H λxs H1=>FX xs H1 Q
def tLs(t:TA):TE:=λσ H Q=>t σ H λxs H1=>FY xs H1 Q
section
variable{X:Cx}{a b c e o tg:Expr}{es rest:List Expr}{ta tb tc te to:TE}{tA tB':TT}{t:TA}{pos p p2:Pos}{st:Stmt}{sts body orelse:List Stmt}{ts us:TS}{x:Str}{r r':R2}{id T:String}{rl:List V->Hp->VK->Prop}{k i j:Nat}{ps:List Str}{sp:Sp}{n:Nat}
theorem aG(i:Nat){x:Str}{pos:Pos}(hN:X.N[i]?=some x:=by rfl)(hv:Vis X.env.scope x:=by first | exact Or.inl rfl | exact Or.inr (Or.inl rfl) | exact Or.inr (Or.inr rfl))(hd:(x == ("__debug__" : Str))=false:=by decide)
  (hcd:(x == ("__classdict__" : Str))=false:=by decide):hZ X (.Name x pos) (VY i):=⟨pv i hN hv hd hcd⟩
theorem aI{i j pos}:hZ X (.Constant (.int i) j pos) (tC (.int i)):=⟨pe_int⟩
theorem uJ{b j pos}:hZ X (.Constant (.bool b) j pos) (tC (.bl b)):=⟨pe_bl⟩
theorem KP{j pos}:hZ X (.Constant .none j pos) (tC .non):=⟨pe_non⟩
theorem eT{x j pos}:hZ X (.Constant (.str x) j pos) (tC (.str x)):=⟨pe_str⟩
theorem kY{v:V}{u:Value}(hg:Gl X x)(hm:X.mg x=some u)(r:dO v u)(hd:(x == ("__debug__" : Str))=false:=by decide):hZ X (.Name x pos) (tC v):=⟨RQ hg hm r hd⟩
theorem cE{op:Operator}(ho:pW X (binaryOp op) r)(ha:hZ X a ta)(hb:hZ X b tb):hZ X (.BinOp a op b pos) (QA r ta tb):=⟨aAM ho ha.p hb.p⟩
theorem FL{op:UnaryOp}{r:V->Hp->VK->Prop}(ho:UnR X (unaryOp op) r)(ha:hZ X a ta):hZ X (.UnaryOp op a pos) (tUn r ta):=⟨aAL ho ha.p⟩
theorem pP{op:CmpOp}(ho:pW X (compareOp op) r)(ha:hZ X a ta)(hb:hZ X b tb)(hm:behindInMarks op b=false):hZ X (.Compare a [op] [b] pos) (QA r ta tb):=⟨RY ho ha.p hb.p hm⟩
theorem eS{op:CmpOp}(ho:pW X (compareOp op) r)(ha:hZ X a ta)(hb:hZ X b tb)(hm:behindInMarks op b=false):HM X (.Compare a [op] [b] pos) (UK (QA r ta tb)):=⟨RE ho ha.p hb.p hm⟩
theorem pO(h:hZ X e te)(he:∀whole,isTrue e X.env whole=(do let v <-whole;standAt e.pos;holding [v] (truthy v)):=by intro _;rfl):HM X e (tB te):=⟨XO h.p he⟩
theorem FJ(ha:HM X a tA):ZV X (.BoolOp .And [a] pos) tA:=⟨QY ha.p⟩
theorem KK(ha:HM X a tA):ZV X (.BoolOp .Or [a] pos) tA:=⟨XM ha.p⟩
theorem KL(ha:HM X a tA)(hb:ZV X (.BoolOp .And (b::rest) pos) tB'):ZV X (.BoolOp .And (a::b::rest) pos) (aAx tA tB'):=⟨XN ha.p hb.p⟩
theorem UF(ha:HM X a tA)(hb:ZV X (.BoolOp .Or (b::rest) pos) tB'):ZV X (.BoolOp .Or (a::b::rest) pos) (tOr tA tB'):=⟨aAI ha.p hb.p⟩
theorem PM(h:ZV X e tA):HM X e tA:=⟨h.p.pt⟩
theorem KM(ha:HM X a tA):HM X (.UnaryOp .Not a pos) (aAq tA):=⟨XR ha.p⟩
theorem aE:HN X [] aAr:=⟨pa_nil⟩
theorem aF(ha:hZ X e te)(hr:HN X es t)(hs:starEach (e::es) X.env=(false,eval e X.env)::starEach es X.env:=by first | exact fW | exact eE | exact se_BoolOp | exact gD | exact eO | exact se_IfExp | exact se_Dict | exact eD | exact eP | exact fX | exact se_Attribute | exact dE | exact iJ | exact gC | exact se_JoinedStr | exact se_GeneratorExp):HN X (e::es) (UQ te t):=⟨SA ha.p hr.p hs⟩
theorem cY{x1}(h:HN X es t):hZ X (.Tuple es x1 pos) (tTu t):=⟨by unfold tTu FX;exact YE h.p⟩
theorem eB(h:HN X es t):hZ X (.List es pos) (tLs t):=⟨by unfold tLs FY;exact YF h.p⟩
theorem uI:hZ X (.Dict [] [] pos) LA:=⟨pe_dnewT⟩
theorem bV(hr:OU X r)(ha:hZ X a ta)(hb:hZ X b tb)(hs:HK b):hZ X (.Subscript a b pos) (QA r ta tb):=⟨aAN hr ha.p hb.p hs⟩
theorem kX:POw X none FQ:=⟨po_none⟩
theorem kW(h:hZ X e te):POw X (some e) (UL te):=⟨RJ h.p⟩
theorem jJ{lo hi:Option Expr}{tl th:TO}{r:V->Option Int->Option Int->Hp->VK->Prop}(hr:SlR X r)(he:hZ X e te)(hl:POw X lo tl)(hu:POw X hi th):hZ X (.Subscript e (.Slice lo hi none p2) pos) (tSl r te tl th):=⟨ML hr he.p hl.p hu.p⟩
theorem bK(F:eZ dG X.prog X.w X.K X.mg X.base k x ps sp)(hr:kC k X.A)(ha:HN X (e::es) t)(hg:Gl X x:=by rfl)
  (hdb:(x == ("__debug__" : Str))=false:=by decide) (he:starEach (e::es) X.env=(false,eval e X.env)::starEach es X.env:=by first | exact fW | exact eE | exact se_BoolOp | exact gD | exact eO | exact se_IfExp | exact se_Dict | exact eD | exact eP | exact fX | exact se_Attribute | exact dE | exact iJ | exact gC | exact se_JoinedStr | exact se_GeneratorExp)
  (hpl:(backTo pos (starEach es X.env)).any (·.1)=false:=by repeat (first | exact sT | refine pC (by first | exact fW | exact eE | exact se_BoolOp | exact gD | exact eO | exact se_IfExp | exact se_Dict | exact eD | exact eP | exact fX | exact se_Attribute | exact dE | exact iJ | exact gC | exact se_JoinedStr | exact se_GeneratorExp) ?_)) :
  hZ X (.Call (.Name x p) (e::es) [] pos) (LD sp [] E0 t):=⟨aAO F hr ha.p hg hdb he hpl⟩
theorem gL(hc:iP X (.builtin id) rl)(hg:Gl X x)(hm:X.mg x=none)(hv:bootBuiltins x=some (.builtin id))(ha:HN X (e::es) t)(hn:x ≠ "__name__" := by decide)(hdb:(x == ("__debug__" : Str))=false:=by decide)
  (he:starEach (e::es) X.env=(false,eval e X.env)::starEach es X.env:=by first | exact fW | exact eE | exact se_BoolOp | exact gD | exact eO | exact se_IfExp | exact se_Dict | exact eD | exact eP | exact fX | exact se_Attribute | exact dE | exact iJ | exact gC | exact se_JoinedStr | exact se_GeneratorExp) (hpl:(backTo pos (starEach es X.env)).any (·.1)=false:=by repeat (first | exact sT | refine pC (by first | exact fW | exact eE | exact se_BoolOp | exact gD | exact eO | exact se_IfExp | exact se_Dict | exact eD | exact eP | exact fX | exact se_Attribute | exact dE | exact iJ | exact gC | exact se_JoinedStr | exact se_GeneratorExp) ?_)):hZ X (.Call (.Name x p) (e::es) [] pos) (tCB rl t) :=
 ⟨MO hc hg hm hv ha.p hn hdb he hpl⟩
theorem hU(hc:iP X (.type T) rl)(hg:Gl X x)(hm:X.mg x=none)(hv:bootBuiltins x=some (.type T))(ha:HN X (e::es) t)(hn:x ≠ "__name__" := by decide)(hdb:(x == ("__debug__" : Str))=false:=by decide)
  (he:starEach (e::es) X.env=(false,eval e X.env)::starEach es X.env:=by first | exact fW | exact eE | exact se_BoolOp | exact gD | exact eO | exact se_IfExp | exact se_Dict | exact eD | exact eP | exact fX | exact se_Attribute | exact dE | exact iJ | exact gC | exact se_JoinedStr | exact se_GeneratorExp) (hpl:(backTo pos (starEach es X.env)).any (·.1)=false:=by repeat (first | exact sT | refine pC (by first | exact fW | exact eE | exact se_BoolOp | exact gD | exact eO | exact se_IfExp | exact se_Dict | exact eD | exact eP | exact fX | exact se_Attribute | exact dE | exact iJ | exact gC | exact se_JoinedStr | exact se_GeneratorExp) ?_)):hZ X (.Call (.Name x p) (e::es) [] pos) (tCB rl t) :=
 ⟨IS hc hg hm hv ha.p hn hdb he hpl⟩
theorem qA{name:Str}{apos cpos:Pos}{r:V->List V->Hp->VK->Prop}(pa:PlainAttrs T)(slot:Slot T name id)(hty:typeOf (.builtin id)=pure (.type "method_descriptor"))(hm:VN X id r)(ho:hZ X o to)(ha:HN X (e::es) t)
  (hbase:attributeBase o name X.env (eval o X.env)=eval o X.env:=by rfl)
  (hfew:((backTo cpos (starEach (e::es) X.env)).all (λx=>!x.1)&&(backToKw cpos (keywordEach [] X.env)).all (λx=>x.1.isSome)
   && decide ((e::es).length+([]:List Keyword).length+(if ([]:List Keyword).isEmpty then 0 else 1)<30))=true:=by rfl)
  (hline:(apos.endLine == cpos.line)=true:=by rfl) (hs:starEach (e::es) X.env=(false,eval e X.env)::starEach es X.env:=by first | exact fW | exact eE | exact se_BoolOp | exact gD | exact eO | exact se_IfExp | exact se_Dict | exact eD | exact eP | exact fX | exact se_Attribute | exact dE | exact iJ | exact gC | exact se_JoinedStr | exact se_GeneratorExp) (hplain:(backTo cpos (starEach es X.env)).any (·.1)=false:=by repeat (first | exact sT | refine pC (by first | exact fW | exact eE | exact se_BoolOp | exact gD | exact eO | exact se_IfExp | exact se_Dict | exact eD | exact eP | exact fX | exact se_Attribute | exact dE | exact iJ | exact gC | exact se_JoinedStr | exact se_GeneratorExp) ?_)) :
  hZ X (.Call (.Attribute o name apos) (e::es) [] cpos) (tBM X.K T r to t):=⟨UW pa slot hty hm ho.p ha.p hbase hfew hline hs hplain⟩
theorem eK:wV X [] UM:=⟨pss_nil⟩
theorem aK(h1:FE X st ts)(h2:wV X sts us):wV X (st::sts) (aAn ts us):=⟨MF h1.p h2.p⟩
theorem bF(h1:FE X st ts):wV X [st] ts:=⟨RF h1.p⟩
theorem kU(he:hZ X e te)(hs:swapsWith e none pos.line X.env=pure false:=by rfl):FE X (.Expr e pos) (UN te):=⟨RG he.p hs⟩
theorem bZ(he:hZ X e te):FE X (.Return (some e) pos) (aAo te):=⟨XT he.p⟩
theorem iO{c:Expr}{a b:List Stmt}(hc:HM X c tA)(ha:wV X a ts)(hb:wV X b us):FE X (.If c a b pos) (aAs tA ts us):=⟨aAJ hc.p ha.p hb.p⟩
theorem yS(h:FE X st ts):FE X st (aAw ts):=⟨XW h.p⟩
theorem dD{i:Nat}{x:Str}(hN:X.N.Nodup)(hi:X.N[i]?=some x)(hx:Loc X.env.scope x)(hf:X.fn x=true\/X.env.scope.names.lookup x=some .local:=by first | exact .inl rfl | exact .inr rfl | assumption):TZ X (.Name x pos) (qY i):=⟨RP hN hi hx hf⟩
theorem jF:UA X [] YY:=⟨pgs_nil⟩
theorem dM{t:TG}{u:OQ}(h1:TZ X e t)(h2:UA X es u)
  (hs:(assignEach (e::es) X.env).map (·.2)=assign e X.env::(assignEach es X.env).map (·.2):=by rfl):UA X (e::es) (NK t u):=⟨MK h1.p h2.p hs⟩
theorem lC{k:Nat}{t:OQ}{n:Nat}(hc:X.calm=true)(h:UA X es t)
  (hn:(assignEach es X.env).length=n:=by rfl) (hst:(assignEach es X.env).findIdx? (·.1)=none:=by rfl):TZ X (.Tuple es k pos) (YX X.K n t):=⟨YB hc h.p hn hst⟩
theorem VU{i:Expr}{ti:TE}{t:TX}(ho:hZ X o to)(hi:hZ X i ti)(hs:ZW X t)
  (ha:∀v,assign (.Subscript o i pos) X.env v=(do
   let ov <-holding [v] (eval o X.env)
   let iv <-holding [v,ov] (eval i X.env)
   standAt pos
   holding [v,ov,iv] (setItem ov iv v)
   release [v,ov,iv] []):=by intro _;rfl):TZ X (.Subscript o i pos) (aA2 to ti t):=⟨YC ho.p hi.p hs ha⟩
theorem DM{g:TG}(he:hZ X e te)(hg:TZ X tg g)(hs:swapsWithSole [tg] e pos.line X.env=pure false:=by rfl)(hw:swappedStores [tg] e X.env=pure none:=by rfl)(h1:(assignEach [tg] X.env).map (·.2)=[assign tg X.env]:=by rfl):FE X (.Assign [tg] e pos) (IC te g):=⟨XX he.p hg.p hs hw h1⟩
theorem bQ{i:Nat}{pos':Pos}(hN:X.N.Nodup)(hi:X.N[i]?=some x)(hx:Loc X.env.scope x)(he:hZ X e te)(hs:swapsWith e (some (.Name x pos')) pos.line X.env=pure false:=by rfl)(hf:X.fn x=true\/X.env.scope.names.lookup x=some .local:=by first | exact .inl rfl | exact .inr rfl | assumption) :
  FE X (.Assign [.Name x pos'] e pos) (IC te (qY i)):=⟨XS hN hi hx he.p hs hf⟩
theorem VR{i j:Nat}{x y:Str}{ta:TA}{px py pt:Pos}{kt k2 pt2}(hc:X.calm=true)(hN:X.N.Nodup)(hi:X.N[i]?=some x)(hj:X.N[j]?=some y)(hij:i≠j)
  (hx:X.env.scope.names.lookup x=some .local) (hy:X.env.scope.names.lookup y=some .local) (ha:HN X [a,b] ta)
  (hw:swappedStores [.Tuple [.Name x px,.Name y py] kt pt] (.Tuple [a,b] k2 pt2) X.env=pure (some [x,y]))
  (hs:swapsWithSole [.Tuple [.Name x px,.Name y py] kt pt] (.Tuple [a,b] k2 pt2) pos.line X.env=pure false:=by rfl) :
  FE X (.Assign [.Tuple [.Name x px,.Name y py] kt pt] (.Tuple [a,b] k2 pt2) pos) (aAp i j ta):=⟨XU hc hN hi hj hij hx hy ha.p hw hs⟩
theorem pY{c:Expr}{tc:TT}{tb:TS}(hp:PassesOwn (model X.prog X.w) X.A X.env X.xe)(hc:HM X c tc)(hb:wV X body tb):FE X (.While c body [] pos) (yY (qC tc) tb):=⟨IP hp hc.p hb.p⟩
theorem fT{l:Expr}{tl:TE}(hl:hZ X l tl):PD X tg l (VC X.K tl):=⟨RN hl.p⟩
theorem rM{l:Expr}{tl:TE}(hl:hZ X l tl):PD X tg l (aA1 X.K tl):=⟨YA hl.p⟩
theorem eV{a:Expr}{ta:TA}{p pos:Pos}(hg:Gl X "range")(hm:X.mg "range" = none)(ha:HN X [a] ta)(hs:starEach [a] X.env=[(false,eval a X.env)]:=by first | exact fW | exact eE | exact se_BoolOp | exact gD | exact eO | exact se_IfExp | exact se_Dict | exact eD | exact eP | exact fX | exact se_Attribute | exact dE | exact iJ | exact gC | exact se_JoinedStr | exact se_GeneratorExp):PD X tg (.Call (.Name "range" p) [a] [] pos) (VB ta):=⟨IR hg hm ha.p hs⟩
theorem gK{iter:Expr}{wi:TI}{g:TG}{tb:TS}{pos:Pos}(hp:PassesOwn (model X.prog X.w) X.A X.env X.xe)(hc:X.calm=true)(hi:PD X tg iter wi)(hg:TZ X tg g)(hb:wV X body tb)
  (hs:∀x,foldedSetIterable iter X.env x=pure x:=by intro _;rfl):FE X (.For tg iter body [] pos) (aAt wi g tb):=⟨XV hp hc hi.p hg.p hb.p hs⟩
end
theorem iQ.okw{P:Program}{w:World}{K:PySem.W.Frag}{mg:Str->Option Value}{base:Heap}{x qual:Str}{st:Stmt}{f:Addr}{fd:FuncData}{N ps:List Str}{k:Nat}{sp:Sp}(F:iQ K x qual st f fd)(S:bT N ps (bB st))(len:∀vs H Q E,sp vs H Q E->vs.length=ps.length)
  (hbody:∀(cdv:Value) (A:Around) (outer:List Env) (s:Shared) (H:Hp) (vs:List V) (Q:VK) (E:XK),kC k (A.deeper (envOfC qual (bB st) s.heap.objs.size f cdv))->sp vs H Q E ->
   ∃t,wV (CT dG P w K mg base N qual (bB st) f cdv A outer s H E).nox (kB st) t/\t { nx:=λ_ H'=>Q .non H',rt:=Q } (start N vs) H):eA P w K mg base dG (k+1) f fd ps sp :=
 F.ok S len λcdv A outer s H vs Q E hr h=>by
  obtain ⟨t,h1,h2⟩:=hbody cdv A outer s H vs Q E hr h;exact ⟨t,h1.p,h2⟩
theorem iQ.oky{P:Program}{w:World}{K:PySem.W.Frag}{mg:Str->Option Value}{base:Heap}{x qual:Str}{st:Stmt}{f:Addr}{fd:FuncData}{N ps:List Str}{k:Nat}{sp:Sp}(F:iQ K x qual st f fd)(S:bT N ps (bB st))
  (h:∀(vs:List V) (H:Hp) (Q:VK) (E:XK),sp vs H Q E->vs.length=ps.length/\∀(cdv:Value) (A:Around) (outer:List Env) (s:Shared),kC k (A.deeper (envOfC qual (bB st) s.heap.objs.size f cdv)) ->
   ∃t,wV (CT dG P w K mg base N qual (bB st) f cdv A outer s H E).nox (kB st) t/\t { nx:=λ_ H'=>Q .non H',rt:=Q } (start N vs) H):eA P w K mg base dG (k+1) f fd ps sp :=
 F.okw S (λvs H Q E q=>(h vs H Q E q).1) λcdv A outer s H vs Q E hr q=>(h vs H Q E q).2 cdv A outer s hr
theorem CN(a b:Int):Int.gcd b (a % b)=Int.gcd a b:=by
 have h:=Int.gcd_add_mul_right_right b (a % b) (a/b);rw [show a % b+a/b*b=a from by have:=Int.emod_add_mul_ediv a b;rw [Int.mul_comm];exact this] at h;rw [<-h,Int.gcd_comm]
theorem GU{a:Int}(h:0<a):(Int.gcd a 0:Int)=a:=by rw [Int.gcd_zero_right];omega
section
variable{H:Hp}{x:V}{d:PyData}{Q:VK}
end
theorem bD.len{H:Hp}:∀{ds:List PyData}{vs:List V},bD H ds vs->vs.length=ds.length
 | [],_,h=>by cases (show _=[] from h);rfl
 | d::ds,_,h=>by
  unfold bD at h;obtain ⟨x,xs,rfl,_,h2⟩:=h;simp [bD.len h2]
section
variable{p:Addr}{σ:St}{t:TE}{ta:TA}{d:PyData}{ds:List PyData}
end
theorem AW{α:Type}{xs:List α}{x:Int}(h0:0<=x)(h1:x<xs.length):∃v,DG xs x=some v/\v∈xs/\xs[x.toNat]?=some v:=by
 have h:x.toNat<xs.length:=Oo;have e:=aC h;have:=eI e;rw [Int.toNat_of_nonneg h0] at this;exact ⟨_,this,List.getElem_mem h,e⟩
theorem bD.append{H:Hp}{es:List PyData}{ws:List V}(h':bD H es ws):∀{ds:List PyData}{vs:List V},bD H ds vs->bD H (ds++es) (vs++ws)
 | [],_,h=>by cases (show _=[] from h);exact h'
 | d::ds,_,h=>by
  unfold bD at h;obtain ⟨x,xs,rfl,h1,h2⟩:=h;exact bD.cons h1 (bD.append h' h2)
end L2
namespace L2
end L2
namespace L2
open PySem PySem.Spec PyProof.Rows
theorem bE.thru{l:Addr}{H0 H1 H2:Hp}(hl:H0 l=none)(s:bE H0 H1)(b:aR l H1 H2):bE H0 H2:=λc o e=>by
 have n:c≠l:=cR e hl;exact b.at n (s _ _ e)
theorem OB{H:Hp}{l b:Addr}{xs zs:List V}{Q:VK}(h1:H l=some (.lst xs))(h2:H b=some (.lst zs))(hz:xs.length+zs.length<=1000)(k:∀q H',H q=none->H' q=some (.lst (xs++zs))->bE H H'->Q (.ref q) H'):aAH (.ref l) (.ref b) H Q :=
 ⟨l,b,xs,zs,rfl,rfl,h1,h2,Nat.le_of_lt (sA hz),λq hq=>k q _ hq bI (bE.upd hq)⟩
@[irreducible] def QW:V->List V->Hp->VK->Prop:=GC
theorem vI{X:Cx}:VN X "list.append" QW:=by unfold QW;exact sG
theorem ON{H:Hp}{l:Addr}{xs:List V}{y:V}{Q:VK}(h:H l=some (.lst xs))(hz:xs.length<=1000)(k:∀H',H' l=some (.lst (xs++[y]))->aR l H H'->Q .non H'):QW (.ref l) [y] H Q:=by
 unfold QW;exact ⟨l,xs,y,rfl,rfl,h,sA hz,k _ bI aR.self⟩
theorem PZ{K:PySem.W.Frag}{H:Hp}{l:Addr}{xs:List V}(h:H l=some (.lst xs)):tyV K "list" (.ref l) H:=.inl ⟨rfl,xs,fM.of h⟩
def mH(env:Env):List (Str × NameKind)->List (Str × Addr)->List (Str × Addr)
 | [],cs=>cs
 | (n,k)::r,cs=>if k == .free then mH env r ((n,(env.cells.lookup n).getD 0)::cs) else mH env r cs
theorem HE(env:Env):∀(l:List (Str × NameKind)) (cs:List (Str × Addr)),(∀y∈l,y.2=.free->∃c,env.cells.lookup y.1=some c) ->
  (forIn l cs λ(x:Str × NameKind) r=>if x.2 == .free then (do let c <-cellOf env x.1;pure (ForInStep.yield ((x.1,c)::r)):Sem _) else pure (ForInStep.yield r))=pure (mH env l cs)
 | [],cs,_=>rfl
 | (n,k)::r,cs,h=>by
  rw [List.forIn_cons];have ih:=λcs=>HE env r cs λy hy=>h y (aM _ hy);by_cases hk:(k == NameKind.free)=true
  ·obtain ⟨c,hc⟩:=h (n,k) aL (by simpa using hk);dsimp only at hc;simp only [hk,if_true,mH,hc,Option.getD_some,cellOf,pure_bind];exact ih _
  ·simp only [hk,mH,pure_bind];exact ih _
theorem lI{env:Env}{scope:Scope}(h:∀y∈scope.names,y.2=.free->∃c,env.cells.lookup y.1=some c):closureFor scope env=pure (mH env scope.names []):=by
 have e:=HE env scope.names [] h;unfold closureFor;simp only [bind_pure];exact e
theorem sQ{env:Env}:∀(l:List (Str × NameKind)) (cs:List (Str × Addr)),(∀y∈l,y.2=.free->∃c,env.cells.lookup y.1=some c)->∀p∈mH env l cs,p∈cs\/env.cells.lookup p.1=some p.2
 | [],cs,_,p,hp=>.inl hp
 | (n,k)::r,cs,h,p,hp=>by
  have h':∀y∈r,y.2=.free->∃c,env.cells.lookup y.1=some c:=λy hy=>h y (aM _ hy);unfold mH at hp;by_cases hk:(k == NameKind.free)=true
  ·rw [if_pos hk] at hp;obtain ⟨c,hc⟩:=h (n,k) aL (by simpa using hk);rcases sQ r _ h' p hp with hm | hm
   ·rcases bA.mp hm with rfl | hm
    ·exact .inr (by dsimp only at hc ⊢;rw [hc];rfl)
    ·exact .inl hm
   ·exact .inr hm
  ·rw [if_neg hk] at hp;exact sQ r cs h' p hp
theorem sS{env:Env}:∀(l:List (Str × NameKind)) (cs:List (Str × Addr)),∀p∈cs,p∈mH env l cs
 | [],_,_,hp=>hp
 | (n,k)::r,cs,p,hp=>by
  unfold mH;by_cases hk:(k == NameKind.free)=true
  ·rw [if_pos hk];exact sS r _ p (aM _ hp)
  ·rw [if_neg hk];exact sS r _ p hp
theorem sR{env:Env}:∀(l:List (Str × NameKind)) (cs:List (Str × Addr)) (y:Str),(y,NameKind.free)∈l->∃a,(y,a)∈mH env l cs
 | (n,k)::r,cs,y,hy=>by
  unfold mH;rcases bA.mp hy with e | hm
  ·cases e;rw [if_pos (by rfl)];exact ⟨_,sS r _ _ aL⟩
  ·by_cases hk:(k == NameKind.free)=true
   ·rw [if_pos hk];exact sR r _ y hm
   ·rw [if_neg hk];exact sR r _ y hm
theorem mV{α β:Type}[BEq α][LawfulBEq α]{x:α}{c:β}:∀{l:List (α × β)},l.lookup x=some c->(x,c)∈l
 | [],h=>by cases h
 | (a,b)::r,h=>by
  rw [List.lookup_cons] at h;by_cases e:(x == a)=true
  ·rw [e] at h;have:x=a:=by simpa using e
   subst this;cases h;exact aL
  ·have e':(x == a)=false:=by simpa using e
   rw [e'] at h;exact aM _ (mV h)
theorem mU{α β:Type}[BEq α][LawfulBEq α]{x:α}{c:β}:∀{l:List (α × β)},(x,c)∈l->∃c',l.lookup x=some c'
 | (a,b)::r,h=>by
  rw [List.lookup_cons];by_cases e:(x == a)=true
  ·rw [e];exact ⟨_,rfl⟩
  ·have e':(x == a)=false:=by simpa using e
   rw [e'];rcases bA.mp h with q | q
   ·cases q;simp at e
   ·exact mU q
def EY(X:Cx)(scope:Scope):List (Str × Addr):=mH X.env scope.names []
theorem gU{X:Cx}{scope:Scope}(h:∀y∈scope.names,y.2=.free->∃c,X.env.cells.lookup y.1=some c){x:Str}{c:Addr}(e:(EY X scope).lookup x=some c):X.env.cells.lookup x=some c:=by
 rcases sQ scope.names [] h _ (mV e) with hm | hm
 ·cases hm
 ·exact hm
theorem mI{X:Cx}{scope:Scope}(h:∀y∈scope.names,y.2=.free->∃c,X.env.cells.lookup y.1=some c){x:Str}(hx:(x,NameKind.free)∈scope.names){c:Addr}(e:X.env.cells.lookup x=some c):(EY X scope).lookup x=some c:=by
 obtain ⟨a,ha⟩:=sR (env:=X.env) scope.names [] x hx;obtain ⟨c',hc'⟩:=mU ha;have:=gU h hc';rw [e] at this;cases this;exact hc'
def kS(X:Cx)(scope:Scope)(C:Addr)(fp:List Addr)(s₀:Shared)(H₀:Hp)(N':List Str):Cx where
 prog:=X.prog
 w:=X.w
 K:=X.K
 mg:=X.mg
 base:=X.base
 A:=X.A
 N:=N'
 s₀:=s₀
 H₀:=H₀
 env:=compEnvC scope (EY X scope) C X.env
 outer:=X.stack
 stack:=X.stack
 ex:=fp
 fn:=λ_=>false
 calm:=true
 pn:=[]
 xe:=λ_ _=>False
def slots(σ:St)(js:List Nat):St:=js.map λj=>(σ[j]?).getD none
def OT(X:Cx)(ifs:List Expr)(t:TT):Prop :=
 ∀(pins:List (Addr × Obj)) (s:Shared) (σ:St) (H:Hp) (Q:Bool->Hp->Prop),cF X pins σ H s->t σ H Q ->
  wpAny (model X.prog X.w) X.A (forIn ifs true λc r=>if r=true then do let ok <-isTrue c X.env (eval c X.env);pure (ForInStep.yield ok) else pure (ForInStep.yield r)) (TP X pins σ Q) X.xe s
def uQ:TT:=λ_ H Q=>Q true H
theorem pts_nil{X:Cx}:OT X [] uQ:=λpins s σ H Q I h=>wpAny_tests_nil ⟨H,I,h⟩
theorem QZ{X:Cx}{c:Expr}{t:TT}(h:PT X c t):OT X [c] t:=λpins s σ H Q I q=>wpAny_tests_one (h pins s σ H Q I q)
def UR(wi:TI)(js:List Nat)(tc:TT)(te:TE):TE:=λσ H Q=>wi σ H λJ H1=>∀D,H1 D=none->∃W:Nat->Nat->List V->Hp->Prop,(∃m,W 0 m [] (upd H1 D (.lst []))) /\
 ∀i m ys H2,W i m ys H2->H2 D=some (.lst ys)/\((J.stop i H2/\Q (.ref D) H2)\/(J.go i H2/\ys.length<sizeLine/\∀x H3,J.yld i H2 x H3 ->
  tc (some x::slots σ js) H3 λb H4=>if b=true then te (some x::slots σ js) H4 λy H5=>H5 D=some (.lst ys)/\∃m',m' < m/\W (i+1) m' (ys++[y]) (upd H5 D (.lst (ys++[y])))
   else H4 D=some (.lst ys)/\∃m',m' < m/\W (i+1) m' ys H4))
structure eC(X:Cx)(scope:Scope)(x:Str)(N':List Str)(js:List Nat):Prop where
 calm:X.calm=true
 free:∀y∈scope.names,y.2=.free->X.env.kindOf y.1=some .cell
 cell:∀y∈scope.names,y.2 ≠ .cell
 kind:scope.kind=.function
 names:∀y∈scope.names,y.2=.local->scope.names.lookup y.1=some .local
 own:scope.names.lookup x=some .local
 nofl:∀y,(y,NameKind.free)∈scope.names->scope.names.lookup y=some .local->False
 len:N'.length=js.length+1
 zero:N'[0]?=some x
 nd:N'.Nodup
 slot:∀(i:Nat) (j:Nat),js[i]?=some j->∃y,N'[i+1]?=some y/\X.N[j]?=some y/\(y,NameKind.free)∈scope.names
section
variable{X:Cx}{pins:List (Addr × Obj)}{σ:St}{H:Hp}{s:Shared}{scope:Scope}{x:Str}{N':List Str}{js:List Nat}{fp:List Addr}
theorem eC.cells(S:eC X scope x N' js)(ok:X.Ok):∀y∈scope.names,y.2=.free->∃c,X.env.cells.lookup y.1=some c:=λy hy hf=>ok.has _ (.inl (S.free y hy hf))
theorem iF{env:Env}:∀{names:List (Str × NameKind)}{y:Str}{k:NameKind},(names.map λ(n,k)=>if (k == NameKind.free&&env.scope.kind == .function&&env.kindOf n == some .cell) then (n,NameKind.cell) else (n,k)).lookup y=some k ->
  (k=.cell\/k=.free)->(∀z∈names,z.2 ≠ .cell)->(y,NameKind.free)∈names
 | [],_,_,h,_,_=>by cases h
 | (n,q)::r,y,k,h,hk,hc=>by
  rw [aP,List.lookup_cons] at h;have ih:=λh=>@iF env r y k h hk λz hz=>hc z (aM _ hz);by_cases hq:(q == NameKind.free&&env.scope.kind == .function&&env.kindOf n == some .cell)=true
  ·dsimp only at h;rw [if_pos hq] at h;have qf:q=.free:=by
    rw [dP,dP] at hq;simpa using hq.1.1
   subst qf;by_cases e:(y == n)=true
   ·have:y=n:=by simpa using e
    subst this;exact aL
   ·have e':(y == n)=false:=by simpa using e
    dsimp only at h;rw [e'] at h;exact aM _ (ih h)
  ·dsimp only at h;rw [if_neg hq] at h;by_cases e:(y == n)=true
   ·have:y=n:=by simpa using e
    subst this;dsimp only at h;rw [e] at h;have hkq:k=q:=by injection h with h;exact h.symm
    subst hkq;rcases hk with rfl | rfl
    ·exact absurd rfl (hc _ aL)
    ·exact aL
   ·have e':(y == n)=false:=by simpa using e
    dsimp only at h;rw [e'] at h;exact aM _ (ih h)
theorem ZG(S:eC X scope x N' js)(I:cF X pins σ H s)(hf:∀b∈fp,jE X pins H b)(hb:∀b∈fp,b<s.heap.objs.size):(kS X scope s.heap.objs.size fp s H N').Ok where
 mod:=I.ok.mod
 kind:=S.kind
 glob:=I.ok.glob
 blt:=I.ok.blt
 above:=aJ _
 inj:=λy z c h1 h2=>I.ok.inj y z c (gU (S.cells I.ok) h1) (gU (S.cells I.ok) h2)
 has:=λy hy=>by
  have hm:(y,NameKind.free)∈scope.names:=by
   rcases hy with hy | hy
   ·exact iF (env:=X.env) hy (.inl rfl) S.cell
   ·exact iF (env:=X.env) hy (.inr rfl) S.cell
  obtain ⟨c,hc⟩:=S.cells I.ok _ hm rfl;exact ⟨c,mI (S.cells I.ok) hm hc⟩
 cab:=λ_ _ h=>by cases h
 hd:=λ_=>I.ok.hd S.calm
 frames:=I.ok.frames
 stk:=.inl rfl
 exf:=λb hb'=>⟨λe=>by have:=hb b hb';rw [e] at this;exact cG _ this,λy c h=>(hf b hb').2.2.2.2.1 y c (gU (S.cells I.ok) h)⟩
 bs:=I.bs
 bsz:=aW I.ok.bsz I.sz
 noex:=λb o e hb'=>by
  rcases (hf b hb').2.2.2.1 with h | h
  ·exact I.ok.noex b o e h
  ·exact absurd (aV (aY e) (aW I.ok.bsz h)) (cG _)
 exfs:=λb hb' hs=>by
  have h2:=I.stkSub b hs;rcases bA.mp h2 with h2 | h2
  ·exact (hf b hb').2.1 h2
  ·exact (hf b hb').2.2.1 h2
 funs:=I.stack
 frf:=I.stkFree
theorem xK{i j:Nat}(h:js[i]?=some j):(slots σ js)[i]?=some ((σ[j]?).getD none):=by
 unfold slots;rw [aH,h];rfl
theorem SY{h':Heap}{tk:Nat}(S:eC X scope x N' js)(I:cF X pins σ H s)(hf:∀b∈fp,jE X pins H b)(hb:∀b∈fp,b<s.heap.objs.size)
  (hn:h'.Ns s.heap.objs.size (λ_=>none)) (hk:∀b o,s.heap.get? b=some o->h'.get? b=some o):cF (kS X scope s.heap.objs.size fp s H N') [] (none::slots σ js) H { s with heap:=h',toks:=tk } where
 ok:=ZG S I hf hb
 os:=rfl
 bare:=I.bare
 base:=Un.kept hk
 loc:=by
  refine ⟨_,hn,λi y v hi hv hvis=>?_⟩;cases i with
  | zero=>cases hv
  | succ i =>
   have hv':(slots σ js)[i]?=some (some v):=hv;have hlt:i<js.length:=by
    have:=(aN.mp hv').1;unfold slots at this
    rwa [aA] at this
   have hj:js[i]?=some js[i]:=aC hlt;obtain ⟨z,h1,h2,h3⟩:=S.slot i _ hj;have hzy:z=y:=by
    have:N'[i+1]?=some y:=hi;rw [h1] at this;cases this;rfl
   subst hzy;rw [xK hj] at hv';have hσ:σ[js[i]]?=some (some v):=by
    cases q:σ[js[i]]? with
    | none=>rw [q] at hv';cases hv'
    | some o=>rw [q] at hv';cases hv';rfl
   have hkc:X.env.kindOf z=some .cell:=S.free _ h3 rfl;obtain ⟨m,hm,hl⟩:=I.loc;obtain ⟨u,ru,lk⟩:=hl _ z v h2 hσ (.inr (.inl hkc));rcases lk with ⟨hk1,_⟩ | ⟨_,c,hc,hcell⟩
   ·rw [hkc] at hk1;cases hk1
   ·refine ⟨u,ru,.inr ⟨?_,c,mI (S.cells I.ok) h3 hc,?_⟩⟩
    ·rcases hvis with hvis | hvis | hvis
     ·exfalso;have hcl:=mI (S.cells I.ok) h3 hc;have hm2:=mV (l:=(relabel scope X.env).names) hvis;unfold relabel at hm2;obtain ⟨⟨n,k⟩,hmem,he⟩:=aD.mp hm2;dsimp only at he;by_cases hq:(k == NameKind.free&&X.env.scope.kind == .function&&X.env.kindOf n == some .cell)=true
      ·rw [if_pos hq] at he;cases he
      ·rw [if_neg hq] at he;cases he;have:=S.names _ hmem rfl;have l2:=mU h3;obtain ⟨c',l2⟩:=l2;dsimp only at this;rw [this] at l2;have key:(relabel scope X.env).names.lookup z=some .local:=lookup_relabel_local this;have hck:scope.names.lookup z=some .local:=this;exact S.nofl z h3 hck
     ·exact .inl hvis
     ·exact .inr hvis
    ·obtain ⟨o,e,r⟩:=hcell;exact ⟨o,hk _ _ e,r⟩
 cell:=λy c h=>by
  obtain ⟨v,o,e,r⟩:=I.cell y c (gU (S.cells I.ok) h);exact ⟨v,o,hk _ _ e,r⟩
 free:=I.hok.fresh (aJ _)
 freeC:=λy c h=>I.freeC y c (gU (S.cells I.ok) h)
 pin:=λp hp=>by cases hp
 hok:=I.hok.kept hk
 len:=by
  show (slots σ js).length+1=N'.length;unfold slots;rw [aA,S.len]
theorem nI.but{P:Program}{w:World}{H:Hp}{h h':Heap}{C:Addr}(x:nI P w H h)(hC:H C=none)(k:∀b u,b≠C->h.get? b=some u->h'.get? b=some u):nI P w H h':=λa o e =>
 (x a o e).stay (λb u hb q=>k b u (by
  rcases hb with rfl | hb
  ·exact cR e hC
  ·exact cR hb hC) q) (λ_ q=>q) λ_ _ q=>q
theorem CU{H2:Hp}{σ':St}{s2:Shared}{h'':Heap}(S:eC X scope x N' js)(I:cF X pins σ H s)(hf:∀b∈fp,jE X pins H b)
  (J:cF (kS X scope s.heap.objs.size fp s H N') [] σ' H2 s2) (hs:Heap.SameBut s.heap.objs.size s2.heap h''):cF X pins σ H2 { s2 with heap:=h'' }:=by
 have hC:H2 s.heap.objs.size=none:=J.free;have ne:∀{b:Addr} {o:Obj},s.heap.get? b=some o->b≠s.heap.objs.size:=λe q=>by
  have:=aY e;rw [q] at this;exact cG _ this
 refine I.call' (s':={ s2 with heap:=h'' }) (ch:=fp) (by rw [show ({ s2 with heap:=h'' }:Shared).os=s2.os from rfl];exact J.os) ?_ (J.hok.but hC λb u hb q=>hs.extBut b u hb q) J.bare λb hb=>⟨(hf b hb).2.2.2.1,(hf b hb).2.1,(hf b hb).2.2.2.2.1,(hf b hb).2.2.2.2.2⟩;have U:=J.base;exact {
  keep:=λb o e n h1 h2=>hs.extBut b o (ne e) (U.keep b o e n h1 h2)
  slot:=λb o e n h1 h2=>by
   obtain ⟨sl,q⟩:=U.slot b o e n h1 h2;exact ⟨sl,hs.extBut b _ (ne e) q⟩
  free:=U.free
  there:=λb o e h2=>by
   obtain ⟨o',q⟩:=U.there b o e h2;exact ⟨o',hs.extBut b _ (ne e) q⟩
  tups:=U.tups
  frzs:=U.frzs
  tbls:=U.tbls }
end
abbrev PF:Value->Shared->Prop:=λ_ _=>False
theorem rF{prog:Program}{w:World}{A:Around}{R:Result->Shared->Prop}{s:Shared}{elt target iter:Expr}{ifs:List Expr}{scope:Scope}{pos:Pos}{it acc:Value}{env:Env}(I:Nat->Shared->Prop)
  (turn:∀n s,I n s->wpAny (model prog w) A (pyNext it) (λr s₁=>match r with
   | none=>R (.ok .next) s₁
   | some v=>wpAny (model prog w) A (letOwnedTupleGo target it v) (λ_ s₁'=>wpAny (model prog w) A (assign target env v) (λ_ s₂ =>
     wpAny (model prog w) A (forIn ifs true λc r=>if r=true then do let ok <-isTrue c env (eval c env);pure (ForInStep.yield ok) else pure (ForInStep.yield r)) (λok s₃ =>
      if ok=true then wpAny (model prog w) A (eval elt env) (λx s₄=>wpAny (model prog w) A (call (.builtin "list.append") [acc,x]) (λ_ s₅=>∃m,m<n/\I m s₅) PF s₄) PF s₃
      else ∃m,m<n/\I m s₃) PF s₂) PF s₁') PF s₁) PF s)
  (n:Nat) (h:I n s):codeAny (model prog w) A (.compLoop (.ListComp elt [⟨target,iter,ifs,0⟩] scope pos) 0 it acc env) R s:=by
 refine codeAny_loop rfl I (λn s hI=>?_) n h;show wpAny _ A ((compTurn (.ListComp elt [⟨target,iter,ifs,0⟩] scope pos) 0 it acc env).onRaise (λx=>do noteFrame x env;theTreesLotGoes x)) _ _ s;refine wpAny_noted ?_;rw [compTurn_list];refine wpAny_bind (wpAny_standAt (wpAny_bind (wpAny_mono (turn n s hI) (λr s₁ h₁=>?_) λ_ _ h'=>h'.elim)));cases r with
 | none=>exact wpAny_pure h₁
 | some v =>
  refine wpAny_bind (wpAny_mono h₁ (λ_ s₁' h₁'=>?_) λ_ _ h'=>h'.elim);refine wpAny_bind (wpAny_mono h₁' (λ_ s₂ h₂=>wpAny_bind (wpAny_mono h₂ (λok s₃ h₃=>?_) λ_ _ h'=>h'.elim)) λ_ _ h'=>h'.elim);cases ok with
  | false=>exact wpAny_pure ⟨rfl,h₃⟩
  | true =>
   exact wpAny_bind (wpAny_bind (wpAny_mono h₃ (λx s₄ h₄=>wpAny_bind (wpAny_mono h₄ (λ_ s₅ h₅=>wpAny_pure (wpAny_pure ⟨rfl,h₅⟩)) λ_ _ h'=>h'.elim)) λ_ _ h'=>h'.elim))
section
variable{X:Cx}{pins:List (Addr × Obj)}{σ:St}{H:Hp}{s:Shared}{scope:Scope}{x:Str}{N':List Str}{js:List Nat}{fp:List Addr}{elt iter:Expr}{px pos:Pos}{ifs:List Expr}{tc:TT}{te:TE}
theorem wB{J:It}{it:Addr}{tn:Nat->Heap->Prop}{RR:Value->Addr->Result->Shared->Prop}{E:Value->Shared->Prop}{Q:VK}
  (S:eC X scope x N' js) (I:cF X pins σ H s) (T:DI X.prog X.w X.K (.Name x px) J fp it tn) (h0:tn 0 s.heap) (hf:∀b∈fp,jE X pins H b)
  (ht:∀C fp s₀ H₀,OT (kS X scope C fp s₀ H₀ N') ifs tc) (he:∀C fp s₀ H₀,PE (kS X scope C fp s₀ H₀ N') elt te)
  (R:∀D,H D=none->∃W:Nat->Nat->List V->Hp->Prop,(∃m,W 0 m [] (upd H D (.lst []))) /\
   ∀i m ys H2,W i m ys H2->H2 D=some (.lst ys)/\((J.stop i H2/\Q (.ref D) H2)\/(J.go i H2/\ys.length<sizeLine/\∀x H3,J.yld i H2 x H3 ->
    tc (some x::slots σ js) H3 λb H4=>if b=true then te (some x::slots σ js) H4 λy H5=>H5 D=some (.lst ys)/\∃m',m' < m/\W (i+1) m' (ys++[y]) (upd H5 D (.lst (ys++[y])))
     else H4 D=some (.lst ys)/\∃m',m' < m/\W (i+1) m' ys H4)))
  (hRR:∀(D:Addr) (H3:Hp) (s3:Shared) (σ':St) (H':Hp) (s':Shared),cF X pins σ H3 s3->(∀b∈fp,jE X pins H3 b)->cF (kS X scope s3.heap.objs.size fp s3 H3 N') [] σ' H' s'->Q (.ref D) H'->RR (.ref D) s3.heap.objs.size (.ok .next) s') :
  wpAny (model X.prog X.w) X.A (newList []) (λacc s₃=>wpAny (model X.prog X.w) X.A (newFunctionEnv scope X.env.globals (EY X scope) [] X.env.qual none .none (some X.env)) (λcenv s₄ =>
   codeAny (model X.prog X.w) X.A (.compStart (.ListComp elt [⟨.Name x px,iter,ifs,0⟩] scope pos) 0 (.ref it) acc { cenv with scope:=relabel scope X.env }) (RR acc cenv.locals) s₄) E s₃) E s:=by
 have hb:∀b∈fp,b<s.heap.objs.size:=λb hb=>by
  obtain ⟨o,e,_⟩:=T.obj 0 _ h0 b hb;exact aY e
 refine wpAny_newObj_type (wpAny_newFunctionEnv S.cell (by intro y hy;simp at hy) (λh₁ hns₁ hsb₁=>?_) S.kind);have hDn:H s.heap.objs.size=none:=I.hok.fresh (aJ _);obtain ⟨W,⟨m0,hw0⟩,hW⟩:=R _ hDn;have I3:cF X pins σ (upd H s.heap.objs.size (.lst [])) { s with heap:=s.heap.push { cls:=.type "list",dict:=none,data:=.seq ([]:List Value).toArray } }:=I.lnew (its:=[]) (ys:=[]) (t':=s.toks) .nil (cM _);have hf3:∀b∈fp,jE X pins (upd H s.heap.objs.size (.lst [])) b:=λb hb' =>
  ⟨by rw [cU (λe=>by have:=hb b hb';rw [e] at this;exact cG _ this)];exact (hf b hb').1,(hf b hb').2⟩
 have hb3:∀b∈fp,b<(s.heap.push { cls:=.type "list",dict:=none,data:=.seq ([]:List Value).toArray }).objs.size:=λb hb'=>by
  rw [eG];exact Nat.lt_succ_of_lt (hb b hb')
 have hkeep:∀b o,(s.heap.push { cls:=.type "list",dict:=none,data:=.seq ([]:List Value).toArray }).get? b=some o->h₁.get? b=some o:=λb o e =>
  hsb₁.extBut b o (λq=>by have:=aY e;rw [q] at this;exact cG _ this) (aB _ e)
 have J4:=SY (h':=h₁) (tk:=s.toks+([]:List (Str × Value)).length) S I3 hf3 hb3 hns₁ hkeep;have t4:tn 0 h₁:=T.keep 0 _ _ h0 λb hb' o e=>hkeep b o (aB _ e);have loop:codeAny (model X.prog X.w) X.A (.compLoop (.ListComp elt [⟨.Name x px,iter,ifs,0⟩] scope pos) 0 (.ref it) (.ref s.heap.objs.size) (compEnvC scope (EY X scope) (s.heap.push { cls:=.type "list",dict:=none,data:=.seq ([]:List Value).toArray }).objs.size X.env))
   (RR (.ref s.heap.objs.size) (s.heap.push { cls:=.type "list",dict:=none,data:=.seq ([]:List Value).toArray }).objs.size) { s with heap:=h₁,toks:=s.toks+([]:List (Str × Value)).length }:=by
  refine rF (λn s'=>∃(i:Nat) (ys:List V) (H2:Hp) (o:Option V),cF (kS X scope _ fp _ _ N') [] (o::slots σ js) H2 s'/\tn i s'.heap/\(∀b∈fp,H2 b=none)/\W i n ys H2) ?_ m0 ⟨0,[],_,none,J4,t4,λb hb'=>(hf3 b hb').1,hw0⟩;rintro n s' ⟨i,ys,H2,o,J2,t2,f2,w2⟩;obtain ⟨hD,hcase⟩:=hW i n ys H2 w2;have Fp:∀b∈fp,jE (kS X scope (s.heap.push { cls:=.type "list",dict:=none,data:=.seq ([]:List Value).toArray }).objs.size fp { s with heap:=s.heap.push { cls:=.type "list",dict:=none,data:=.seq ([]:List Value).toArray } } (upd H s.heap.objs.size (.lst [])) N') [] H2 b:=λb hb' =>
   ⟨f2 b hb',(J2.ok.exf b hb').1,J2.ok.exfs b hb',.inl hb',(J2.ok.exf b hb').2,λp hp=>by cases hp⟩
  rcases hcase with ⟨hstop,hq⟩ | ⟨hgo,hz,hturn⟩
  ·refine wpAny_mono (T.done (kS X scope _ fp _ _ N') rfl rfl rfl rfl i [] s' _ H2 PF J2 Fp t2 hstop) (λr s1 ⟨hr,J5⟩=>?_) λ_ _ f=>f;subst hr;exact hRR _ _ _ _ _ _ I3 hf3 J5 hq
  ·refine wpAny_mono (T.item (kS X scope _ fp _ _ N') rfl rfl rfl rfl i [] s' _ H2 PF J2 Fp t2 hgo) (λr s1 ⟨u,hr,hx⟩=>?_) λ_ _ f=>f;subst hr;refine wpAny_mono hx (λ_ s2 ⟨v,H3,J3,rv,hy,t3,f3⟩=>?_) λ_ _ f=>f;have Fp3:∀b∈fp,jE (kS X scope (s.heap.push { cls:=.type "list",dict:=none,data:=.seq ([]:List Value).toArray }).objs.size fp { s with heap:=s.heap.push { cls:=.type "list",dict:=none,data:=.seq ([]:List Value).toArray } } (upd H s.heap.objs.size (.lst [])) N') [] H3 b:=λb hb' =>
    ⟨f3 b hb',(J3.ok.exf b hb').1,J3.ok.exfs b hb',.inl hb',(J3.ok.exf b hb').2,λp hp=>by cases hp⟩
   have P3:=J3.pinned Fp3 (T.obj (i+1) _ t3);have keepT:∀{σ':St} {Hx:Hp} {sx:Shared},cF (kS X scope (s.heap.push { cls:=.type "list",dict:=none,data:=.seq ([]:List Value).toArray }).objs.size fp { s with heap:=s.heap.push { cls:=.type "list",dict:=none,data:=.seq ([]:List Value).toArray } } (upd H s.heap.objs.size (.lst [])) N') ([]++sE fp s2.heap) σ' Hx sx->tn (i+1) sx.heap/\∀b∈fp,Hx b=none:=λJx =>
    ⟨T.keep (i+1) _ _ t3 λb hb' ob e=>(Jx.pin (b,ob) (bL _ (bL _ (jC hb' e)))).1,λb hb'=>by
     obtain ⟨ob,e,_⟩:=T.obj (i+1) _ t3 b hb';exact (Jx.pin (b,ob) (bL _ (bL _ (jC hb' e)))).2.1⟩
   refine wpAny_assign_Name (nO P3 (i:=0) (x:=x) (v:=v) ?nd ?hi ?hx rv (λs5 J5=>?_) ?hfn)
   case nd=>exact S.nd
   case hi=>exact S.zero
   case hx=>exact .inl (lookup_relabel_local S.own)
   case hfn=>exact .inr (lookup_relabel_local S.own)
   have J5':cF _ _ (some v::slots σ js) H3 s5:=J5;refine wpAny_mono (ht _ _ _ _ _ _ _ _ _ J5' (hturn v H3 hy)) (λok s6 ⟨H6,J6,q6⟩=>?_) λ_ _ f=>f;dsimp only at q6;by_cases hok:ok=true
   ·rw [if_pos hok] at q6 ⊢;refine wpAny_mono (he _ _ _ _ _ _ _ _ _ J6 q6) (λy s7 ⟨w',H7,J7,r7,hD7,m',hm',w7⟩=>?_) λ_ _ f=>f;refine wpAny_mono (sG (X:=kS X scope _ fp _ _ N') _ _ _ _ (.ref s.heap.objs.size) [w'] (.ref s.heap.objs.size) [y] (λ_ H8=>H8=upd H7 s.heap.objs.size (.lst (ys++[w']))) J7 rfl (.cons r7 .nil) ⟨_,_,_,rfl,rfl,hD7,hz,rfl⟩) (λ_ s8 ⟨_,H8,J8,_,e8⟩=>?_) λ_ _ f=>f;subst e8;obtain ⟨k1,k2⟩:=keepT J8;exact ⟨m',hm',i+1,ys++[w'],_,some v,J8.unpinned,k1,k2,w7⟩
   ·rw [if_neg hok] at q6 ⊢;obtain ⟨_,m',hm',w7⟩:=q6;obtain ⟨k1,k2⟩:=keepT J6;exact ⟨m',hm',i+1,ys,_,some v,J6.unpinned,k1,k2,w7⟩
 refine codeAny_compStart_list loop (T.self X.A 0 _ _ _ t4 loop)
theorem RX{wi:TI}(S:eC X scope x N' js)(hi:PI X (.Name x px) iter wi)(ht:∀C fp s₀ H₀,OT (kS X scope C fp s₀ H₀ N') ifs tc)(he:∀C fp s₀ H₀,PE (kS X scope C fp s₀ H₀ N') elt te)
  (hs:∀x,foldedSetIterable iter X.env x=pure x:=by intro _;rfl):PE X (.ListComp elt [⟨.Name x px,iter,ifs,0⟩] scope pos) (UR wi js tc te):=by
 intro pins s σ H Q I h;rw [eval_ListComp];refine wpAny_comprehension_free (use:=none) rfl hs (lI (S.cells I.ok)) S.kind S.names (wpAny_mono (hi pins s σ H _ I h) (λv s1 h1=>?_) λ_ _ e=>e);refine wpAny_mono h1 (λitv s2 ⟨it,fp,tn,J,H2,e,I2,T,t0,hf,R⟩=>?_) λ_ _ e=>e;subst e;refine wB S I2 T t0 hf ht he R ?_;intro D H3 s3 σ' H' s' I3 hf3 J3 q;obtain ⟨m,hm,_⟩:=J3.loc;exact ⟨m,hm,λh' hs'=>⟨.ref D,H',CU S I3 hf3 J3 hs',rfl,q⟩⟩
theorem EL{wi:TI}{y:Str}{py spos:Pos}{i:Nat}(S:eC X scope x N' js)(hN:X.N.Nodup)(hiN:X.N[i]?=some y)(hy:X.env.kindOf y=some .local)(hi:PI X (.Name x px) iter wi)(ht:∀C fp s₀ H₀,OT (kS X scope C fp s₀ H₀ N') ifs tc)(he:∀C fp s₀ H₀,PE (kS X scope C fp s₀ H₀ N') elt te)
  (hsw:swapsWith (.ListComp elt [⟨.Name x px,iter,ifs,0⟩] scope pos) (some (.Name y py)) spos.line X.env=pure true) (hs:∀x,foldedSetIterable iter X.env x=pure x:=by intro _;rfl) :
  PS X (.Assign [.Name y py] (.ListComp elt [⟨.Name x px,iter,ifs,0⟩] scope pos) spos) (IC (UR wi js tc te) (qY i)):=by
 intro pins s σ H D0 I h;rw [exec_Assign_Name_used _ _ _ _ hsw];refine wpAny_bind (wpAny_standAt (wpAny_bind ?_));show wpAny _ X.A (do let _ <-comprehension (.ListComp elt [⟨.Name x px,iter,ifs,0⟩] scope pos) scope X.env _ (newList []) false (eval iter X.env) (some (assign (.Name y py) X.env))) _ _ s;refine wpAny_bind (wpAny_mono (wpAny_comprehension_free (use:=some (assign (.Name y py) X.env)) (Q:=λ_ s'=>SP X pins D0 .next s') rfl hs (lI (S.cells I.ok)) S.kind S.names (wpAny_mono (hi pins s σ H _ I h) (λv s1 h1=>?_) λ_ _ e=>e)) (λ_ s' hq=>wpAny_pure (wpAny_pure hq)) λ_ _ e=>e);refine wpAny_mono h1 (λitv s2 ⟨it,fp,tn,J,H2,e,I2,T,t0,hf,R⟩=>?_) λ_ _ e=>e;subst e;refine wB (Q:=λv H'=>qY i v σ H' D0.nx) S I2 T t0 hf ht he R ?_;intro D H3 s3 σ' H' s' I3 hf3 J3 q;obtain ⟨m,hm,_⟩:=J3.loc;have IX:cF X pins σ H' s':=CU S I3 hf3 J3 (Heap.SameBut.refl ..);have hCL:s3.heap.objs.size≠X.env.locals:=λe=>by have:=I3.lt;rw [e] at this;exact cG _ this
 show wpAny _ X.A (assign (.Name y py) X.env (.ref D)) _ _ _;refine wpAny_assign_Name (xG IX hN hiN (.inl hy) (v:=.ref D) rfl (λs5 I5 hsb=>?_) (.inr hy));obtain ⟨a,hsb,ha⟩:=hsb;have hCa:s3.heap.objs.size≠a:=by
  rcases ha with rfl | ha
  ·exact hCL
  ·intro e;obtain ⟨v,o,eo,_⟩:=I3.cell y a ha;have:=aY eo;rw [<-e] at this;exact cG _ this
 refine ⟨m,hm.sameBut hsb hCa,λh' hs'=>⟨_,H',?_,q⟩⟩;exact I5.turned (it:=s3.heap.objs.size) (t':=s5.toks) (λb o n e=>hs'.extBut b o n e) J3.free hCL (.inr I3.sz)
  (λz c hz e=>by
   obtain ⟨v,o,eo,_⟩:=I3.cell z c hz;have:=aY eo;rw [e] at this;exact cG _ this)
  (λp hp e=>by
   have:=aY (I3.pin p hp).1;rw [e] at this;exact cG _ this)
end
structure JY(X:Cx)(ifs:List Expr)(t:TT):Prop where p:OT X ifs t
def yZ(t:TE):TE:=λσ H Q=>∃Q':VK,t σ H Q'/\∀v H1,Q' v H1->Q v H1
theorem PE.mono{X:Cx}{e:Expr}{t:TE}(h:PE X e t):PE X e (yZ t):=λpins s σ H Q I ⟨Q',h1,h2⟩ =>
 thn (h pins s σ H Q' I h1) λb s' ⟨v,H',I',r,q⟩=>⟨v,H',I',r,h2 _ _ q⟩
theorem OT.mono{X:Cx}{es:List Expr}{t:TT}(h:OT X es t):OT X es (qC t):=λpins s σ H Q I ⟨Q',h1,h2⟩ =>
 thn (h pins s σ H Q' I h1) λb s' ⟨H',I',q⟩=>⟨H',I',h2 _ _ q⟩
@[irreducible] def kQ(J:It)(σ:St)(js:List Nat)(tc:TT)(te:TE)(H1:Hp)(Q:VK):Prop:=∀D,H1 D=none->∃W:Nat->Nat->List V->Hp->Prop,(∃m,W 0 m [] (upd H1 D (.lst []))) /\
 ∀i m ys H2,W i m ys H2->H2 D=some (.lst ys)/\((J.stop i H2/\Q (.ref D) H2)\/(J.go i H2/\ys.length<sizeLine/\∀x H3,J.yld i H2 x H3 ->
  qC tc (some x::slots σ js) H3 λb H4=>if b=true then yZ te (some x::slots σ js) H4 λy H5=>H5 D=some (.lst ys)/\∃m',m' < m/\W (i+1) m' (ys++[y]) (upd H5 D (.lst (ys++[y])))
   else H4 D=some (.lst ys)/\∃m',m' < m/\W (i+1) m' ys H4))
def zD(wi:TI)(js:List Nat)(tc:TT)(te:TE):TE:=λσ H Q=>wi σ H λJ H1=>kQ J σ js tc te H1 Q
section
variable{X:Cx}{scope:Scope}{x y:Str}{N':List Str}{js:List Nat}{elt iter c:Expr}{px py pos spos:Pos}{ifs:List Expr}{tc:TT}{te:TE}{wi:TI}{i:Nat}
theorem eJ:JY X [] uQ:=⟨pts_nil⟩
theorem yP{t:TT}(h:HM X c t):JY X [c] t:=⟨QZ h.p⟩
theorem fU(S:eC X scope x N' js)(hi:PD X (.Name x px) iter wi)(ht:∀C fp s₀ H₀,JY (kS X scope C fp s₀ H₀ N') ifs tc)(he:∀C fp s₀ H₀,hZ (kS X scope C fp s₀ H₀ N') elt te)
  (hs:∀x,foldedSetIterable iter X.env x=pure x:=by intro _;rfl):hZ X (.ListComp elt [⟨.Name x px,iter,ifs,0⟩] scope pos) (zD wi js tc te) :=
 ⟨by unfold zD kQ;exact RX S hi.p (λC fp s₀ H₀=>(ht C fp s₀ H₀).p.mono) (λC fp s₀ H₀=>(he C fp s₀ H₀).p.mono) hs⟩
theorem uD(S:eC X scope x N' js)(hN:X.N.Nodup)(hiN:X.N[i]?=some y)(hy:X.env.kindOf y=some .local)(hi:PD X (.Name x px) iter wi)(ht:∀C fp s₀ H₀,JY (kS X scope C fp s₀ H₀ N') ifs tc)(he:∀C fp s₀ H₀,hZ (kS X scope C fp s₀ H₀ N') elt te)
  (hsw:swapsWith (.ListComp elt [⟨.Name x px,iter,ifs,0⟩] scope pos) (some (.Name y py)) spos.line X.env=pure true:=by rfl) (hs:∀x,foldedSetIterable iter X.env x=pure x:=by intro _;rfl) :
  FE X (.Assign [.Name y py] (.ListComp elt [⟨.Name x px,iter,ifs,0⟩] scope pos) spos) (IC (zD wi js tc te) (qY i)) :=
 ⟨by unfold zD kQ;exact EL S hN hiN hy hi.p (λC fp s₀ H₀=>(ht C fp s₀ H₀).p.mono) (λC fp s₀ H₀=>(he C fp s₀ H₀).p.mono) hsw hs⟩
end
def VJ(psc scope:Scope)(N:List Str)(x:Str)(N':List Str)(js:List Nat):Bool :=
 (scope.names.all λy=>!(y.2 == .free) || psc.names.lookup y.1 == some .cell)&&(scope.names.all λy=>!(y.2 == .cell))&&scope.kind == .function &&
 (scope.names.all λy=>!(y.2 == .local) || scope.names.lookup y.1 == some .local)&&scope.names.lookup x == some .local &&
 (scope.names.all λy=>!(y.2 == .free) || !(scope.names.lookup y.1 == some .local))&&N'.length == js.length+1&&N'[0]? == some x&&decide N'.Nodup &&
 ((List.range js.length).all λi=>match js[i]?,N'[i+1]? with
  | some j,some y=>N[j]? == some y&&scope.names.contains (y,NameKind.free)
  | _,_=>false)
theorem eC.of{X:Cx}{psc scope:Scope}{N:List Str}{x:Str}{N':List Str}{js:List Nat}(h:VJ psc scope N x N' js=true)(hX:X.env.scope=psc)(hN:X.N=N)(hc:X.calm=true):eC X scope x N' js:=by
 unfold VJ at h;simp only [dP] at h;obtain ⟨⟨⟨⟨⟨⟨⟨⟨⟨h1,h2⟩,h3⟩,h4⟩,h5⟩,h6⟩,h7⟩,h8⟩,h9⟩,h10⟩:=h;rw [List.all_eq_true] at h1 h2 h4 h6 h10;refine ⟨hc,λy hy e=>?_,λy hy e=>?_,by simpa using h3,λy hy e=>?_,by simpa using h5,λy hy e=>?_,by simpa using h7,by simpa using h8,of_decide_eq_true h9,λi j hj=>?_⟩
 ·have:=h1 y hy;rw [e] at this;show X.env.scope.names.lookup y.1=_;rw [hX];simpa using this
 ·have:=h2 y hy;rw [e] at this;simp at this
 ·have:=h4 y hy;rw [e] at this;simpa using this
 ·have:=h6 _ hy;rw [e] at this;simp at this
 ·have hi:i<js.length:=(aN.mp hj).1;have:=h10 i (dC.mpr hi);rw [hj] at this;cases q:N'[i+1]? with
  | none=>rw [q] at this;simp at this
  | some y =>
   rw [q] at this;simp only [dP] at this;exact ⟨y,rfl,by rw [hN];simpa using this.1,List.contains_iff_mem.mp this.2⟩
section
variable{js:List Nat}{te:TE}{tc:TT}{σ:St}{H:Hp}{Q:VK}
theorem rE{J:It}{n:Nat}(src:Nat->V->Prop)(hz:n<=100000)(Pv:Addr->Nat->List V->Hp->Prop)
  (h0:∀D H1,H D=none->H1 D=some (.lst [])->bE H H1->Pv D 0 [] H1)
  (hg:∀D i ys H',i<n->H' D=some (.lst ys)->Pv D i ys H'->J.go i H'/\∀x H3,J.yld i H' x H3->H3=H'/\src i x)
  (hst:∀D ys H',H' D=some (.lst ys)->Pv D n ys H'->J.stop n H')
  (hs:∀D i x ys H',src i x->i<n->ys.length=i->H' D=some (.lst ys)->Pv D i ys H'->te (some x::slots σ js) H' λy H5=>H5 D=some (.lst ys)/\∀H6,H6 D=some (.lst (ys++[y]))->aR D H5 H6->Pv D (i+1) (ys++[y]) H6)
  (hd:∀D ys H',ys.length=n->H D=none->H' D=some (.lst ys)->Pv D n ys H'->Q (.ref D) H') :
  kQ J σ js uQ te H Q:=by
 unfold kQ;intro D hD;refine ⟨λi m ys H'=>m=n-i/\i<=n/\ys.length=i/\H' D=some (.lst ys)/\Pv D i ys H',⟨n,by simp,cM _,rfl,bI,h0 D _ hD bI (bE.upd hD)⟩,?_⟩;rintro i m ys H2 ⟨rfl,hi,hy,hD2,p⟩;refine ⟨hD2,?_⟩;by_cases hlt:i<n
 ·obtain ⟨g1,g2⟩:=hg D i ys H2 hlt hD2 p;refine .inr ⟨g1,aQ (m:=100000) Oo Dd,λx H3 hy3=>?_⟩;obtain ⟨rfl,hx⟩:=g2 x H3 hy3;refine ⟨λb H4=>b=true/\H4=H3,⟨rfl,rfl⟩,?_⟩;rintro b H4 ⟨rfl,rfl⟩;rw [if_pos rfl];refine ⟨_,hs D i x ys H4 hx hlt hy hD2 p,?_⟩;rintro v H5 ⟨hD5,k⟩;exact ⟨hD5,n-(i+1),Oo,rfl,hlt,by rw [aX,hy];rfl,bI,k _ bI aR.self⟩
 ·have e:i=n:=Oo;subst e;exact .inl ⟨hst D ys H2 hD2 p,hd D ys H2 hy hD hD2 p⟩
end
@[irreducible] def MC(K:PySem.W.Frag):List V->Hp->VK->Prop:=λxs H Q=>∃(p:Addr) (ns:List Int),xs=[.ref p]/\fM K H p (ns.map V.int)/\Q (.int ns.sum) H
@[irreducible] def IO(b:Bool):R2:=λx y H Q=>∃d d',cA H d x/\cA H d' y/\SeqAt.shaped d=true/\SeqAt.shaped d'=true/\Q (.bl (b == PyData.eqv d d')) H
section
variable{X:Cx}
theorem NZ(hc:X.calm=true):iP X (.builtin "sum") (MC X.K):=by
 unfold MC;intro pins s σ H xs us Q I r h;obtain ⟨p,ns,rfl,hq,q⟩:=h;obtain ⟨u,rfl,rx⟩:=lN r;cases rx;obtain ⟨its,r',pl,hz⟩:=I.list hq;have hi:=vP r';obtain ⟨xs',e⟩:=hi.allInts.items;rw [e] at pl;refine sum_intListG (I.ok.hd hc) pl.isList λh' tk t' hk=>⟨.int ns.sum,H,I.kept hk,⟨t',?_⟩,q⟩;rw [preSum_eq,List.take_of_length_le (by simp)];rw [<-hi.numsOf];have e2:its=(intItems xs').toList:=by rw [<-e]
 rw [e2,nums_intItems]
theorem rsI{K:PySem.W.Frag}{H:Hp}{p:Addr}{ns:List Int}{Q:VK}(h:fM K H p (ns.map V.int))(q:Q (.int ns.sum) H):MC K [.ref p] H Q:=by unfold MC;exact ⟨p,ns,rfl,h,q⟩
theorem MT(hu:X.A.units+64<cLine):pW X (compareOp .Eq) (IO true):=by
 unfold IO;intro pins s σ H x y v u Q I rx ry h;obtain ⟨d,d',h1,h2,s1,s2,q⟩:=h;obtain ⟨as,ra⟩:=h1.reads I rx;obtain ⟨bs,rb⟩:=h2.reads I ry;exact SeqAt.compareEq_shaped ra rb s1 s2 hu ⟨.bl _,H,I,by show _=_;simp,q⟩
theorem zZ(hu:X.A.units+64<cLine):pW X (compareOp .NotEq) (IO false):=by
 unfold IO;intro pins s σ H x y v u Q I rx ry h;obtain ⟨d,d',h1,h2,s1,s2,q⟩:=h;obtain ⟨as,ra⟩:=h1.reads I rx;obtain ⟨bs,rb⟩:=h2.reads I ry;exact SeqAt.compareNe_shaped ra rb s1 s2 hu ⟨.bl _,H,I,by show _=_;simp,q⟩
theorem reD{b:Bool}{x y:V}{d d':PyData}{H:Hp}{Q:VK}(h1:cA H d x)(h2:cA H d' y)(s1:SeqAt.shaped d=true)(s2:SeqAt.shaped d'=true)(q:Q (.bl (b == PyData.eqv d d')) H):IO b x y H Q:=by
 unfold IO;exact ⟨d,d',h1,h2,s1,s2,q⟩
end
mutual
theorem oM:∀d:PyData,d.hasDict=false->PyData.eqv d d=true
 | .none,_=>by simp [PyData.eqv]
 | .bool _,_=>by simp [PyData.eqv]
 | .int _,_=>by simp [PyData.eqv]
 | .str _,_=>by simp [PyData.eqv]
 | .list xs,h=>by simp only [PyData.eqv];exact oN xs (by simpa [PyData.hasDict] using h)
 | .tuple xs,h=>by simp only [PyData.eqv];exact oN xs (by simpa [PyData.hasDict] using h)
 | .dict _,h=>by simp [PyData.hasDict] at h
theorem oN:∀ds:List PyData,PyData.hasDictAll ds=false->PyData.eqvAll ds ds=true
 | [],_=>by simp [PyData.eqvAll]
 | d::ds,h=>by
  simp only [PyData.hasDictAll,Bool.or_eq_false_iff] at h;simp only [PyData.eqvAll,oM d h.1,oN ds h.2,Bool.and_self]
end
mutual
def fC:PyData->Bool
 | .list _=>false
 | .dict _=>false
 | .tuple ds=>eQ ds
 | _=>true
def eQ:List PyData->Bool
 | []=>true
 | d::ds=>fC d&&eQ ds
end
def eF(H H':Hp):Prop:=∀b xs,H b=some (.tup xs)->H' b=some (.tup xs)
theorem eF.trans{H H1 H2:Hp}(a:eF H H1)(b:eF H1 H2):eF H H2:=λc o h=>b c o (a c o h)
theorem bE.t{H H':Hp}(s:bE H H'):eF H H':=λb xs h=>s _ _ h
theorem aR.t{H H':Hp}{p:Addr}(s:aR p H H'){xs:List V}(hp:H p=some (.lst xs)):eF H H':=λb ys h=>s.at (vH h hp (by intro z;cases z)) h
mutual
theorem cA.flat{H H':Hp}(s:eF H H'):∀{d:PyData}{v:V},fC d=true->cA H d v->cA H' d v
 | .none,_,_,h=>h
 | .bool _,_,_,h=>h
 | .int _,_,_,h=>h
 | .str _,_,_,h=>h
 | .list _,_,f,_=>by simp [fC] at f
 | .dict _,_,f,_=>by simp [fC] at f
 | .tuple ds,_,f,h=>by
  unfold cA at h ⊢;obtain ⟨a,ys,rfl,h1,h2⟩:=h;exact ⟨a,ys,rfl,s _ _ h1,bD.flat s (by simpa [fC] using f) h2⟩
theorem bD.flat{H H':Hp}(s:eF H H'):∀{ds:List PyData}{vs:List V},eQ ds=true->bD H ds vs->bD H' ds vs
 | [],_,_,h=>h
 | d::ds,_,f,h=>by
  unfold bD at h ⊢;obtain ⟨x,ys,rfl,h1,h2⟩:=h;simp only [eQ,dP] at f;exact ⟨x,ys,rfl,cA.flat s f.1 h1,bD.flat s f.2 h2⟩
end
theorem bD.get{H:Hp}:∀{ds:List PyData}{vs:List V}{i:Nat}{v:V},bD H ds vs->vs[i]?=some v->∃d,ds[i]?=some d/\cA H d v
 | [],_,i,v,h,e=>by cases (show _=[] from h);simp at e
 | d::ds,_,i,v,h,e=>by
  unfold bD at h;obtain ⟨x,ys,rfl,h1,h2⟩:=h;cases i with
  | zero=>simp at e;subst e;exact ⟨d,rfl,h1⟩
  | succ i =>
   rw [List.getElem?_cons_succ] at e ⊢;exact bD.get h2 e
theorem bD.get'{H:Hp}:∀{ds:List PyData}{vs:List V}{i:Nat}{d:PyData},bD H ds vs->ds[i]?=some d->∃v,vs[i]?=some v/\cA H d v
 | [],_,i,d,h,e=>by simp at e
 | d' :: ds,_,i,d,h,e=>by
  unfold bD at h;obtain ⟨x,ys,rfl,h1,h2⟩:=h;cases i with
  | zero=>simp at e;subst e;exact ⟨x,rfl,h1⟩
  | succ i =>
   rw [List.getElem?_cons_succ] at e ⊢;exact bD.get' h2 e
theorem bD.snoc{H:Hp}{ds:List PyData}{vs:List V}{d:PyData}{v:V}(h:bD H ds vs)(r:cA H d v):bD H (ds++[d]) (vs++[v]):=bD.append (bD.cons r bD.nil) h
theorem EZ{i:Int}{n:Nat}(h:i.natAbs<2^n):bits i<=n:=PySem.intBits_le_iff.mpr h
theorem tI{i j:Int}{n m:Nat}(h1:i.natAbs<2^n)(h2:j.natAbs<2^m)(hn:n<=1048576:=by decide)(hm:m<=1048576:=by decide):IntMulOk i j:=by
 refine IntMulOk.of_bits ?_ ?_
 ·exact aW (EZ h1) hn
 ·exact aW (EZ h2) hm
section
variable{X:Cx}(K:PySem.W.Frag)
theorem jI(h:X.K=K:=by rfl):OU X (rIx K):=by subst h;exact bR
theorem TH(h:X.K=K:=by rfl):iP X (.builtin "len") (zV K):=by subst h;exact lJ
theorem TF(hc:X.calm=true)(h:X.K=K:=by rfl):iP X (.builtin "sum") (MC K):=by subst h;exact NZ hc
theorem LO(h:X.K=K:=by rfl):SlR X (XJ K):=by subst h;exact tS
end
end L2
namespace L2
open PySem
def pH(b:Bool)(h:Heap)(i l:Addr)(k:Nat):Prop:=∃o,h.get? i=some o/\o.cls=.type (bif b then "tuple_iterator" else "list_iterator")/\o.data=.fields #[.ref l,.int k 0]
def fK(b:Bool)(h:Heap)(l:Addr)(xs:Array Value):Prop:=∃o,h.get? l=some o/\o.cls=.type (bif b then "tuple" else "list")/\∃n,o.data=.seq xs n
theorem pH.at{b:Bool}{h h':Heap}{i l:Addr}{k:Nat}(x:pH b h i l k)(f:∀o,h.get? i=some o->h'.get? i=some o):pH b h' i l k:=let ⟨o,ho,r⟩:=x;⟨o,f o ho,r⟩
theorem fK.at{b:Bool}{h h':Heap}{l:Addr}{xs:Array Value}(x:fK b h l xs)(f:∀o,h.get? l=some o->h'.get? l=some o):fK b h' l xs:=let ⟨o,ho,r⟩:=x;⟨o,f o ho,r⟩
section
variable{prog:Program}{w:World}{A:Around}{E:Value->Shared->Prop}{s:Shared}
theorem jY{b:Bool}{it l:Addr}{i:Nat}{items:Array Value}{x:Value}{Q:Value->Shared->Prop}(hit:pH b s.heap it l i)(hl:fK b s.heap l items)(hx:items[i]?=some x)
  (hQ:∀h',pH b h' it l (i+1)->Heap.SameBut it s.heap h'->Q x { s with heap:=h' }):wpAny (model prog w) A (Builtin.SmallTypes.nextOf (.ref it)) Q E s:=by
 cases b with
 | false=>exact wpAny_nextOf_list_item hit hl hx hQ
 | true =>
  have ty:s.heap.IsTupleIter it l i:=hit;obtain ⟨o,ho,hc,hd⟩:=id ty;obtain ⟨ol,hol,_,nl,hdl⟩:=hl;unfold Builtin.SmallTypes.nextOf;refine wpAny_bind (wpAny_callSpecial?_slot (name:=Str.ofString "__next__") ty.typeIs F.slot_tuple_iterator_next (wpAny_call_entry F.slot_tuple_iterator_next ty.typeIs F.entry_tuple_iterator_next ?_ (F.args_tuple_iterator_next_1 _)));show wpAny _ _ (field (.ref it) 0 >>= _) _ _ s;refine wpAny_bind (wpAny_field ho hd (x:=.ref l) rfl ?_);show wpAny _ _ (if (Value.ref l == Value.none)=true then _ else _) _ _ s;rw [if_neg (show ¬((Value.ref l == Value.none)=true) from bS)];show wpAny _ _ (field (.ref it) 1 >>= _) _ _ s;refine wpAny_bind (wpAny_field ho hd (x:=.int i 0) rfl ?_);show wpAny _ _ (seqItems? (.ref l) >>= _) _ _ s;refine wpAny_bind (wpAny_seqItems hol hdl ?_);simp only [Int.toNat_natCast,hx];refine wpAny_bind (wpAny_setField ho hd (by simp) (wpAny_pure ⟨x,rfl,wpAny_pure (hQ _ ?_ (Heap.SameBut.update ..))⟩));refine ⟨_,Heap.get?_update_self _ ho (Obj.isFreed_of_fields (Obj.data_mapFields hd _)),(Obj.cls_mapFields ..).trans hc,?_⟩;rw [Obj.data_mapFields hd];simp [rawInt]
theorem AA{b:Bool}{it l:Addr}{i:Nat}{items:Array Value}{Q:Value->Shared->Prop}(hh:A.handled=none)(hit:pH b s.heap it l i)(hl:fK b s.heap l items)(hx:items[i]?=none)
  (hE:∀h' e,Heap.ExtBut it s.heap h'->(∃o,h'.get? e=some o/\o.cls=.type "StopIteration")->E (.ref e) { s with heap:=h' }):wpAny (model prog w) A (Builtin.SmallTypes.nextOf (.ref it)) Q E s:=by
 cases b with
 | false=>exact wpAny_nextOf_list_end hh hit hl hx hE
 | true =>
  have ty:s.heap.IsTupleIter it l i:=hit;obtain ⟨o,ho,hc,hd⟩:=id ty;obtain ⟨ol,hol,_,nl,hdl⟩:=hl;unfold Builtin.SmallTypes.nextOf;refine wpAny_bind (wpAny_callSpecial?_slot (name:=Str.ofString "__next__") ty.typeIs F.slot_tuple_iterator_next (wpAny_call_entry F.slot_tuple_iterator_next ty.typeIs F.entry_tuple_iterator_next ?_ (F.args_tuple_iterator_next_1 _)));show wpAny _ _ (field (.ref it) 0 >>= _) _ _ s;refine wpAny_bind (wpAny_field ho hd (x:=.ref l) rfl ?_);show wpAny _ _ (if (Value.ref l == Value.none)=true then _ else _) _ _ s;rw [if_neg (show ¬((Value.ref l == Value.none)=true) from bS)];show wpAny _ _ (field (.ref it) 1 >>= _) _ _ s;refine wpAny_bind (wpAny_field ho hd (x:=.int i 0) rfl ?_);show wpAny _ _ (seqItems? (.ref l) >>= _) _ _ s;refine wpAny_bind (wpAny_seqItems hol hdl ?_);simp only [Int.toNat_natCast,hx];refine wpAny_bind (wpAny_rule (wpAny_bind (wpAny_setField ho hd (by simp) ?_)));show wpAny _ _ (newExc (.type "StopIteration") [] >>= _) _ _ _;refine wpAny_bind ?_;simp only [newExc,newTuple];refine wpAny_bind (wpAny_newObj_type ?_ (by size_fits));refine wpAny_bind (m:=firstArgMember _ _) (wpAny_of_eq (a:=Value.none) (by first | rfl | (simp only [firstArgMember];rfl)) ?_);refine wpAny_newObj_type ?_ (by size_fits);simp only [raiseNew];refine wpAny_bind (wpAny_handled ?_)
  first | rw [show A.in1.handled=none from hh] | rw [hh]
  refine wpAny_bind (wpAny_pure (wpAny_throw ?_));exact hE _ _ (((Heap.SameBut.update ..).extBut.push _).push _) ⟨_,aU _ rfl,rfl⟩
structure VL(b1 b2:Bool)(z TI TO i1 i2 l1 l2:Addr)(f:Value)(k:Nat)(h:Heap):Prop where
 z:IsZip h z TI TO f
 ti:IsPair h TI (.ref i1) (.ref i2)
 to:∃a b,IsPair h TO a b
 i1:pH b1 h i1 l1 k
 i2:pH b2 h i2 l2 k
theorem HS{b1 b2:Bool}{z TI TO i1 i2 l1 l2:Addr}{k:Nat}{xs ys:Array Value}{x y:Value}{Q:Value->Shared->Prop}(D:ZipApart z TI TO i1 i2 l1 l2)(Z:VL b1 b2 z TI TO i1 i2 l1 l2 .none k s.heap)
  (hl1:fK b1 s.heap l1 xs) (hl2:fK b2 s.heap l2 ys) (hx:xs[k]?=some x) (hy:ys[k]?=some y)
  (hQ:∀h',VL b1 b2 z TI TO i1 i2 l1 l2 (rawInt s.heap.objs.size) (k+1) h'->IsPair h' s.heap.objs.size x y->(∀c o,c≠z->c≠TO->c≠i1->c≠i2->s.heap.get? c=some o->h'.get? c=some o)->Q (.ref s.heap.objs.size) { s with heap:=h' }) :
  wpAny (model prog w) A (Builtin.«zip.__next__» ⟨[.ref z],[]⟩) (λfin s'=>∃v,fin=.done (.ret v)/\Q v s') E s:=by
 obtain ⟨hz,hTI,⟨a,b,hTO⟩,h1,h2⟩:=Z;show wpAny _ _ (field (.ref z) 2 >>= _) _ _ _;refine wpAny_bind (wpAny_field hz rfl (x:=.bool false) rfl ?_);show wpAny _ _ (field (.ref z) 3 >>= _) _ _ _;refine wpAny_bind (wpAny_field hz rfl (x:=.ref TI) rfl ?_);refine wpAny_bind (wpAny_seqItems hTI rfl ?_);show wpAny _ _ (Builtin.SmallTypes.ownedTupleIsFree (.ref z) >>= _) _ _ _;refine wpAny_bind ?_;unfold Builtin.SmallTypes.ownedTupleIsFree;refine wpAny_bind (wpAny_field hz rfl (x:=.none) rfl (wpAny_pure ?_));simp only [if_true];refine wpAny_bind (wpAny_rule ?_);refine wpAny_bind (wpAny_field hz rfl (x:=.ref TO) rfl ?_);refine wpAny_bind (wpAny_setField_rec hz (by simp) λh₁ hz₁ hs₁=>?_);have g₁:=hs₁.extBut;replace hz₁:IsZip h₁ z TI TO .ellipsis:=hz₁;refine wpAny_bind ?_;simp only [List.zipIdx_cons,List.zipIdx_nil,List.forIn_cons,List.forIn_nil];refine wpAny_bind (wpAny_bind (wpAny_onRaise ?_));show wpAny _ _ (Builtin.SmallTypes.nextOf (.ref i1) >>= _) _ _ _;refine wpAny_bind (jY (h1.at λo e=>g₁ _ o D.i1z e) (hl1.at λo e=>g₁ _ o D.l1z e) hx λh₂ h1₂ hs₂=>wpAny_pure ?_);have g₂:=hs₂.extBut;have hTO₂:IsPair h₂ TO a b:=g₂ _ _ D.TOi1 (g₁ _ _ D.TOz hTO);refine wpAny_bind (wpAny_seqItems hTO₂ rfl ?_);refine wpAny_bind (wpAny_updateSeq_pair hTO₂ λh₃ hTO₃ hs₃=>?_);have g₃:=hs₃.extBut;replace hTO₃:IsPair h₃ TO x b:=hTO₃;refine wpAny_bind (wpAny_letGo (wpAny_pure ?_));refine wpAny_bind (wpAny_bind (wpAny_onRaise ?_));show wpAny _ _ (Builtin.SmallTypes.nextOf (.ref i2) >>= _) _ _ _
 refine wpAny_bind (jY (h2.at λo e=>g₃ _ o D.TOi2.symm (g₂ _ o D.i12.symm (g₁ _ o D.i2z e))) (hl2.at λo e=>g₃ _ o D.l2TO (g₂ _ o D.l2i1 (g₁ _ o D.l2z e))) hy λh₄ h2₄ hs₄=>wpAny_pure ?_);have g₄:=hs₄.extBut;have hTO₄:IsPair h₄ TO x b:=g₄ _ _ D.TOi2 hTO₃;refine wpAny_bind (wpAny_seqItems hTO₄ rfl ?_);refine wpAny_bind (wpAny_updateSeq_pair hTO₄ λh₅ hTO₅ hs₅=>?_);have g₅:=hs₅.extBut;replace hTO₅:IsPair h₅ TO x y:=hTO₅;refine wpAny_bind (wpAny_letGo (wpAny_pure (wpAny_pure ?_)));refine wpAny_bind (wpAny_seqItems hTO₅ rfl ?_);refine wpAny_bind (wpAny_newTuple ?_);have hsz:h₅.objs.size=s.heap.objs.size:=by rw [hs₅.1,hs₄.1,hs₃.1,hs₂.1,hs₁.1]
 have hz₅:IsZip h₅ z TI TO .ellipsis:=g₅ _ _ D.TOz.symm (g₄ _ _ D.i2z.symm (g₃ _ _ D.TOz.symm (g₂ _ _ D.i1z.symm hz₁)));have hk₅:∀c o,c≠z->c≠TO->c≠i1->c≠i2->s.heap.get? c=some o->h₅.get? c=some o:=λc o c1 c2 c3 c4 e=>g₅ _ _ c2 (g₄ _ _ c4 (g₃ _ _ c2 (g₂ _ _ c3 (g₁ _ _ c1 e))));have h1₅:pH b1 h₅ i1 l1 (k+1):=h1₂.at λo e=>g₅ _ o D.TOi1.symm (g₄ _ o D.i12 (g₃ _ o D.TOi1.symm e));have h2₅:pH b2 h₅ i2 l2 (k+1):=h2₄.at λo e=>g₅ _ o D.TOi2.symm e;have hzlt:=aY hz₅;show wpAny _ _ (Builtin.SmallTypes.ownedTupleHandOut (.ref z) (.ref h₅.objs.size) >>= _) _ _ _;refine wpAny_bind ?_;unfold Builtin.SmallTypes.ownedTupleHandOut;have hz₆:IsZip (h₅.push { cls:=.type "tuple",data:=.seq #[x,y] }) z TI TO .ellipsis:=aB _ hz₅;refine wpAny_bind (wpAny_setField_rec hz₆ (by simp) λh₇ hz₇ hs₇=>?_);replace hz₇:IsZip h₇ z TI TO (rawInt h₅.objs.size):=hz₇;refine wpAny_setField_rec hz₇ (by simp) λh₈ hz₈ hs₈=>?_;replace hz₈:IsZip h₈ z TI TO (rawInt h₅.objs.size):=hz₈;have up:∀c o,c≠z->h₅.get? c=some o->h₈.get? c=some o:=λc o c1 e=>hs₈.extBut _ _ c1 (hs₇.extBut _ _ c1 (aB _ e));have hT₈:IsPair h₈ h₅.objs.size x y:=hs₈.extBut _ _ (Nat.ne_of_gt hzlt) (hs₇.extBut _ _ (Nat.ne_of_gt hzlt) (aU _ rfl));rw [hsz] at hz₈ hT₈;refine wpAny_pure ⟨_,rfl,?_⟩;show Q (.ref h₅.objs.size) _;rw [hsz]
 exact hQ h₈ ⟨hz₈,up _ _ D.TIz (hk₅ _ _ D.TIz D.TITO D.TIi1 D.TIi2 hTI),⟨_,_,up _ _ D.TOz hTO₅⟩,h1₅.at λo e=>up _ o D.i1z e,h2₅.at λo e=>up _ o D.i2z e⟩ hT₈ λc o c1 c2 c3 c4 e=>up c o c1 (hk₅ c o c1 c2 c3 c4 e)
theorem KH{b1 b2:Bool}{z TI TO i1 i2 l1 l2:Addr}{k:Nat}{xs ys:Array Value}{Q:Fin->Shared->Prop}(hh:A.handled=none)(D:ZipApart z TI TO i1 i2 l1 l2)(Z:VL b1 b2 z TI TO i1 i2 l1 l2 .none k s.heap)
  (hl1:fK b1 s.heap l1 xs) (hl2:fK b2 s.heap l2 ys) (hend:xs[k]?=none\/ys[k]?=none)
  (hE:∀h' e,(∀c o,c≠z->c≠TO->c≠i1->c≠i2->s.heap.get? c=some o->h'.get? c=some o)->(∃o,h'.get? e=some o/\o.cls=.type "StopIteration")->E (.ref e) { s with heap:=h' }) :
  wpAny (model prog w) A (Builtin.«zip.__next__» ⟨[.ref z],[]⟩) Q E s:=by
 obtain ⟨hz,hTI,⟨a,b,hTO⟩,h1,h2⟩:=Z;show wpAny _ _ (field (.ref z) 2 >>= _) _ _ _;refine wpAny_bind (wpAny_field hz rfl (x:=.bool false) rfl ?_);show wpAny _ _ (field (.ref z) 3 >>= _) _ _ _;refine wpAny_bind (wpAny_field hz rfl (x:=.ref TI) rfl ?_);refine wpAny_bind (wpAny_seqItems hTI rfl ?_);show wpAny _ _ (Builtin.SmallTypes.ownedTupleIsFree (.ref z) >>= _) _ _ _;refine wpAny_bind ?_;unfold Builtin.SmallTypes.ownedTupleIsFree;refine wpAny_bind (wpAny_field hz rfl (x:=.none) rfl (wpAny_pure ?_));simp only [if_true];refine wpAny_bind (wpAny_rule ?_);refine wpAny_bind (wpAny_field hz rfl (x:=.ref TO) rfl ?_);refine wpAny_bind (wpAny_setField_rec hz (by simp) λh₁ hz₁ hs₁=>?_);have g₁:=hs₁.extBut;replace hz₁:IsZip h₁ z TI TO .ellipsis:=hz₁;refine wpAny_bind ?_;simp only [List.zipIdx_cons,List.zipIdx_nil,List.forIn_cons,List.forIn_nil];refine wpAny_bind (wpAny_bind (wpAny_onRaise ?_));show wpAny _ _ (Builtin.SmallTypes.nextOf (.ref i1) >>= _) _ _ _;cases hx:xs[k]? with
 | none =>
  refine wpAny_bind (AA hh (h1.at λo e=>g₁ _ o D.i1z e) (hl1.at λo e=>g₁ _ o D.l1z e) hx λh₂ e hs₂ he=>?_);obtain ⟨oe,hoe,hce⟩:=he;have hz₂:IsZip h₂ z TI TO .ellipsis:=hs₂ _ _ D.i1z.symm hz₁;have hez:e≠z:=λx=>by subst x;rw [hz₂] at hoe;cases hoe;simp at hce
  exact wpAny_setField_rec hz₂ (by simp) λh₃ _ hs₃=>hE h₃ e (λc o c1 _ c3 _ x=>hs₃.extBut _ _ c1 (hs₂ _ _ c3 (g₁ _ _ c1 x))) ⟨oe,hs₃.extBut _ _ hez hoe,hce⟩
 | some x =>
  have hy:ys[k]?=none:=by
   rcases hend with h | h
   ·rw [hx] at h;cases h
   ·exact h
  refine wpAny_bind (jY (h1.at λo e=>g₁ _ o D.i1z e) (hl1.at λo e=>g₁ _ o D.l1z e) hx λh₂ h1₂ hs₂=>wpAny_pure ?_);have g₂:=hs₂.extBut;have hTO₂:IsPair h₂ TO a b:=g₂ _ _ D.TOi1 (g₁ _ _ D.TOz hTO);refine wpAny_bind (wpAny_seqItems hTO₂ rfl ?_);refine wpAny_bind (wpAny_updateSeq_pair hTO₂ λh₃ hTO₃ hs₃=>?_);have g₃:=hs₃.extBut;refine wpAny_bind (wpAny_letGo (wpAny_pure ?_));refine wpAny_bind (wpAny_bind (wpAny_onRaise ?_));show wpAny _ _ (Builtin.SmallTypes.nextOf (.ref i2) >>= _) _ _ _;refine wpAny_bind (AA hh (h2.at λo e=>g₃ _ o D.TOi2.symm (g₂ _ o D.i12.symm (g₁ _ o D.i2z e))) (hl2.at λo e=>g₃ _ o D.l2TO (g₂ _ o D.l2i1 (g₁ _ o D.l2z e))) hy λh₄ e hs₄ he=>?_);obtain ⟨oe,hoe,hce⟩:=he;have hz₄:IsZip h₄ z TI TO .ellipsis:=hs₄ _ _ D.i2z.symm (g₃ _ _ D.TOz.symm (g₂ _ _ D.i1z.symm hz₁));have hez:e≠z:=λx=>by subst x;rw [hz₄] at hoe;cases hoe;simp at hce
  exact wpAny_setField_rec hz₄ (by simp) λh₅ _ hs₅=>hE h₅ e (λc o c1 c2 c3 c4 x=>hs₅.extBut _ _ c1 (hs₄ _ _ c4 (g₃ _ _ c2 (g₂ _ _ c3 (g₁ _ _ c1 x))))) ⟨oe,hs₅.extBut _ _ hez hoe,hce⟩
theorem HR{b1 b2:Bool}{z TI TO i1 i2 l1 l2:Addr}{k:Nat}{xs ys:Array Value}{x y:Value}{Q:Option Value->Shared->Prop}(D:ZipApart z TI TO i1 i2 l1 l2)(Z:VL b1 b2 z TI TO i1 i2 l1 l2 .none k s.heap)
  (hl1:fK b1 s.heap l1 xs) (hl2:fK b2 s.heap l2 ys) (hx:xs[k]?=some x) (hy:ys[k]?=some y)
  (hQ:∀h',VL b1 b2 z TI TO i1 i2 l1 l2 (rawInt s.heap.objs.size) (k+1) h'->IsPair h' s.heap.objs.size x y->(∀c o,c≠z->c≠TO->c≠i1->c≠i2->s.heap.get? c=some o->h'.get? c=some o)->Q (some (.ref s.heap.objs.size)) { s with heap:=h' }) :
  wpAny (model prog w) A (pyNext (.ref z)) Q E s:=by
 have hT:s.TypeIs (.ref z) "zip" := ⟨_,Z.z,rfl⟩;unfold pyNext;refine wpAny_bind (wpAny_attempt (wpAny_callSpecial?_slot (name:=Str.ofString "__next__") hT F.slot_zip_next (wpAny_call_entry F.slot_zip_next hT F.entry_zip_next ?_ (F.args_zip_next_1 _))));exact HS D Z hl1 hl2 hx hy λh' a1 a2 a3=>wpAny_pure (hQ h' a1 a2 a3)
theorem HQ{b1 b2:Bool}{z TI TO i1 i2 l1 l2:Addr}{k:Nat}{xs ys:Array Value}{Q:Option Value->Shared->Prop}(hh:A.handled=none)(D:ZipApart z TI TO i1 i2 l1 l2)(Z:VL b1 b2 z TI TO i1 i2 l1 l2 .none k s.heap)
  (hl1:fK b1 s.heap l1 xs) (hl2:fK b2 s.heap l2 ys) (hend:xs[k]?=none\/ys[k]?=none)
  (hQ:∀h',(∀c o,c≠z->c≠TO->c≠i1->c≠i2->s.heap.get? c=some o->h'.get? c=some o)->Q none { s with heap:=h' }):wpAny (model prog w) A (pyNext (.ref z)) Q E s:=by
 have hT:s.TypeIs (.ref z) "zip" := ⟨_,Z.z,rfl⟩;unfold pyNext;refine wpAny_bind (wpAny_attempt (wpAny_callSpecial?_slot (name:=Str.ofString "__next__") hT F.slot_zip_next (wpAny_call_entry F.slot_zip_next hT F.entry_zip_next ?_ (F.args_zip_next_1 _))));refine KH hh D Z hl1 hl2 hend λh' e hk he=>?_;obtain ⟨o,ho,hc⟩:=he;refine wpAny_bind (wpAny_isInstance (T := "StopIteration") (b:=true) ⟨o,ho,hc⟩ isSubtype_stop ?_);exact wpAny_pure (hQ _ hk)
abbrev PB(b:Bool)(l:Addr):Obj:={ cls:=.type (bif b then "tuple_iterator" else "list_iterator"),data:=.fields #[.ref l,.int 0 0] }
theorem CI{b:Bool}{l:Addr}{xs:Array Value}{Q:Value->Shared->Prop}(h:fK b s.heap l xs)(q:Q (.ref s.heap.objs.size) { s with heap:=s.heap.push (PB b l) }):wpAny (model prog w) A (pyIter (.ref l)) Q E s:=by
 cases b with
 | false=>exact wpAny_pyIter_list h q
 | true=>exact wpAny_pyIter_tuple h q
end
end L2
namespace L2
open PySem PySem.Spec PyProof.Rows
section
variable{X:Cx}{pins:List (Addr × Obj)}{σ:St}{H:Hp}{s:Shared}{h':Heap}
theorem cF.turnedL{t':Nat}{fp:List Addr}(I:cF X pins σ H s)(k:∀b o,b ∉ fp->s.heap.get? b=some o->h'.get? b=some o)(hf:∀b∈fp,jE X pins H b):cF X pins σ H { s with heap:=h',toks:=t' }:=by
 have nit:∀b u,H b=some u->b ∉ fp:=λb u e z=>by rw [(hf b z).1] at e;cases e
 refine I.step (g':=s.gens) (d':=s.drawn) (ch:=fp) (λb hb=>?_) (λb o _ _ hc e _=>k b o hc e) (λb o _ _ hc e _=>⟨o.slots,k b o hc e⟩) (λ_ _ _ _ n=>n)
  (λb o hc e=>⟨o,k b o hc e⟩) (λ_ _ e=>e) (λ_ _ _ e=>e) (λb ps e=>⟨#[],by rw [e];simp⟩) (λm hm=>?_) (λb u e=>?_) I.bare
 ·obtain ⟨f0,f1,f2,f3,f4,f5⟩:=hf b hb;exact ⟨f3,f1,f4,f5⟩
 ·obtain ⟨o,es,ep,ho,r⟩:=hm;exact ⟨o,es,ep,k _ o (λz=>(hf _ z).2.1 rfl) ho,r⟩
 ·refine (I.hok b u e).stay (λc v hc q=>k c v ?_ q) (λ_ q=>q) λ_ _ q=>q;rcases hc with z | z
  ·rw [z];exact nit b u e
  ·exact nit c _ z
theorem Un.putE{fs ex:List Addr}{H H1:Hp}{h h1:Heap}{a:Addr}{u:HO}(x:Un fs ex H H1 h h1)(ha:h.get? a=none)(hn:H1 a=none):Un fs ex H (upd H1 a u) h h1 where
 keep:=x.keep
 slot:=x.slot
 free:=λb ob e n m=>by rw [cU (λz=>by subst z;rw [ha] at e;cases e)];exact x.free b ob e n m
 there:=x.there
 tups:=λb xs e=>by rw [cU (cR (x.tups b xs e) hn)];exact x.tups b xs e
 frzs:=λb ob xs e=>by rw [cU (cR (x.frzs b ob xs e) hn)];exact x.frzs b ob xs e
 tbls:=λb ps e=>by
  obtain ⟨m,q⟩:=x.tbls b ps e;exact ⟨m,by rw [cU (cR q hn)];exact q⟩
theorem nI.putE{P:Program}{w:World}{h:Heap}{a:Addr}{u:HO}(x:nI P w H h)(hn:H a=none)(new:eU P w (upd H a u) h a u):nI P w (upd H a u) h:=λb v e=>by
 by_cases hb:b=a
 ·subst hb;rw [bI] at e;cases e;exact new
 ·rw [cU hb] at e;exact (x b v e).stay (λc q _ r=>r) (λc q=>by rw [cU (cR q hn)];exact q) λc xs q=>by rw [cU (cR q hn)];exact q
theorem cF.put{a:Addr}{o:HO}(I:cF X pins σ H s)(f:jE X pins H a)(hs:X.s₀.heap.get? a=none)(new:eU X.prog X.w (upd H a o) s.heap a o):cF X pins σ (upd H a o) s :=
 ⟨I.ok,I.os,I.bare,I.base.putE hs f.1,I.loc,I.cell,by rw [cU (Ne.symm f.2.1)];exact I.free,λx c e=>by rw [cU (f.2.2.2.2.1 x c e)];exact I.freeC x c e,λp hp=>by
  obtain ⟨q1,q2,q3⟩:=I.pin p hp;exact ⟨q1,by rw [cU (f.2.2.2.2.2 p hp)];exact q2,q3⟩,nI.putE I.hok f.1 new,I.len⟩
def BC(b:Bool)(xs:List V):HO:=bif b then .tup xs else .lst xs
theorem BC.inj{b:Bool}{xs ys:List V}(h:some (BC b xs)=some (BC b ys)):xs=ys:=by
 cases b <;> (injection h with h;injection h)
theorem cF.sq{b:Bool}{a:Addr}{xs:List V}(I:cF X pins σ H s)(h:H a=some (BC b xs)):∃its:List Value,cZ xs its/\fK b s.heap a its.toArray:=by
 cases b with
 | false=>obtain ⟨its,r,p,_⟩:=I.list (fM.of h);exact ⟨its,r,p.isList⟩
 | true=>obtain ⟨its,r,p,_⟩:=I.tuple (fF.of h);exact ⟨its,r,p⟩
end
def Itz(b1 b2:Bool)(l1 l2:Addr):It :=
  ⟨λi H=>∃xs ys x y,H l1=some (BC b1 xs)/\H l2=some (BC b2 ys)/\xs[i]?=some x/\ys[i]?=some y,
   λi H v H'=>∃q x y,v=.ref q/\H q=none/\H'=upd H q (.tup [x,y])/\∀xs ys,H l1=some (BC b1 xs)->H l2=some (BC b2 ys)->xs[i]?=some x/\ys[i]?=some y,
   λi H=>∃xs ys,H l1=some (BC b1 xs)/\H l2=some (BC b2 ys)/\(xs.length<=i\/ys.length<=i)⟩
structure ZD(z TI TO i1 i2:Addr):Prop where
 TIz:TI≠z
 TOz:TO≠z
 i1z:i1≠z
 i2z:i2≠z
 TITO:TI≠TO
 TIi1:TI≠i1
 TIi2:TI≠i2
 TOi1:TO≠i1
 TOi2:TO≠i2
 i12:i1≠i2
theorem ZD.seq(n:Nat):ZD (n+4) (n+2) (n+3) n (n+1) where
 TIz:=λh=>absurd (show (n+2:Nat)=n+4 from h) Oo
 TOz:=λh=>absurd (show (n+3:Nat)=n+4 from h) Oo
 i1z:=λh=>absurd (show (n:Nat)=n+4 from h) Oo
 i2z:=λh=>absurd (show (n+1:Nat)=n+4 from h) Oo
 TITO:=λh=>absurd (show (n+2:Nat)=n+3 from h) Oo
 TIi1:=λh=>absurd (show (n+2:Nat)=n from h) Oo
 TIi2:=λh=>absurd (show (n+2:Nat)=n+1 from h) Oo
 TOi1:=λh=>absurd (show (n+3:Nat)=n from h) Oo
 TOi2:=λh=>absurd (show (n+3:Nat)=n+1 from h) Oo
 i12:=λh=>absurd (show (n:Nat)=n+1 from h) Oo
theorem ZD.all{z TI TO i1 i2 l1 l2:Addr}(d:ZD z TI TO i1 i2){H:Hp}{o1 o2:HO}(e1:H l1=some o1)(e2:H l2=some o2)(h:∀b∈[z,TI,TO,i1,i2],H b=none):ZipApart z TI TO i1 i2 l1 l2 :=
 ⟨d.TIz,d.TOz,d.i1z,d.i2z,d.TITO,d.TIi1,d.TIi2,d.TOi1,d.TOi2,d.i12,cR e1 (h _ (by simp)),cR e1 (h _ (by simp)),cR e1 (h _ (by simp)),cR e1 (h _ (by simp)),cR e2 (h _ (by simp)),cR e2 (h _ (by simp)),cR e2 (h _ (by simp)),cR e2 (h _ (by simp))⟩
theorem KW{P:Program}{w:World}{K:PySem.W.Frag}{elts:List Expr}{x1}{tp:Pos}{b1 b2:Bool}{z TI TO i1 i2 l1 l2:Addr}(d:ZD z TI TO i1 i2):DI P w K (.Tuple elts x1 tp) (Itz b1 b2 l1 l2) [z,TI,TO,i1,i2] z (λi h=>VL b1 b2 z TI TO i1 i2 l1 l2 .none i h) where
 mem:=by simp
 obj:=λi h st b hb=>by
  obtain ⟨a,b',ht⟩:=st.to;obtain ⟨o1,e1,_,d1⟩:=st.i1;obtain ⟨o2,e2,_,d2⟩:=st.i2;simp only [bA,List.not_mem_nil,or_false] at hb;rcases hb with rfl | rfl | rfl | rfl | rfl
  ·exact ⟨_,st.z,λv q=>by cases q⟩
  ·exact ⟨_,st.ti,λv q=>by cases q⟩
  ·exact ⟨_,ht,λv q=>by cases q⟩
  ·exact ⟨_,e1,λv q=>by rw [d1] at q;cases q⟩
  ·exact ⟨_,e2,λv q=>by rw [d2] at q;cases q⟩
 keep:=λi h h' st k=>by
  obtain ⟨a,b,ht⟩:=st.to;exact ⟨k _ (by simp) _ st.z,k _ (by simp) _ st.ti,⟨a,b,k _ (by simp) _ ht⟩,st.i1.at λo e=>k _ (by simp) o e,st.i2.at λo e=>k _ (by simp) o e⟩
 item:=by
  intro X hP hw hK hc i pins s σ H E I hf st hg;subst hP hw hK;obtain ⟨xs,ys,x,y,e1,e2,hx,hy⟩:=hg;obtain ⟨u1,r1,p1⟩:=I.sq e1;obtain ⟨u2,r2,p2⟩:=I.sq e2;obtain ⟨ux,hux,rx⟩:=r1.get hx;obtain ⟨uy,huy,ry⟩:=r2.get hy;have D:=d.all e1 e2 λb hb=>(hf b hb).1;refine HR D st p1 p2 (x:=ux) (y:=uy) (by simpa using hux) (by simpa using huy) λh' Z' hp hk=>?_;refine ⟨_,rfl,wpAny_letOwnedTupleGo_zip Z'.z λh2 hz2 hs2=>?_⟩;have kk:∀b o,b ∉ [z,TI,TO,i1,i2]->s.heap.get? b=some o->h2.get? b=some o:=λb o hb e=>by
   simp only [bA,List.not_mem_nil,or_false,not_or] at hb;exact hs2.extBut b o hb.1 (hk b o hb.1 hb.2.2.1 hb.2.2.2.1 hb.2.2.2.2 e)
  have I1:cF X pins σ H { s with heap:=h2 }:=I.turnedL (t':=s.toks) kk hf;have fq:jE X pins H s.heap.objs.size:=I.fpOk (aJ _) (I.hok.fresh (aJ _));have e0:X.s₀.heap.get? s.heap.objs.size=none:=by
   cases q:X.s₀.heap.get? s.heap.objs.size with
   | none=>rfl
   | some o=>exact absurd (aV (aY q) I.sz) (cG _)
  have nz:s.heap.objs.size≠z:=λq=>absurd (aY st.z) (by rw [<-q];exact cG _);obtain ⟨a,b,ht⟩:=Z'.to;refine ⟨.ref s.heap.objs.size,upd H s.heap.objs.size (.tup [x,y]),I1.put fq e0 ⟨⟨mN (by show 2<=64;decide),_,hs2.extBut _ _ nz hp,rfl⟩,[ux,uy],.cons rx (.cons ry .nil),⟨_,hs2.extBut _ _ nz hp,rfl,_,rfl⟩⟩,rfl,⟨_,x,y,rfl,fq.1,rfl,λxs' ys' q1 q2=>?_⟩,
   ⟨hz2,hs2.extBut _ _ d.TIz Z'.ti,⟨a,b,hs2.extBut _ _ d.TOz ht⟩,Z'.i1.at λo e=>hs2.extBut _ o d.i1z e,Z'.i2.at λo e=>hs2.extBut _ o d.i2z e⟩,λb hb=>?_⟩
  ·rw [e1] at q1;rw [e2] at q2;rw [<-BC.inj q1,<-BC.inj q2];exact ⟨hx,hy⟩
  ·have nb:b≠s.heap.objs.size:=λq=>by
    obtain ⟨a',b',ht'⟩:=st.to;obtain ⟨o1,e1',_⟩:=st.i1;obtain ⟨o2,e2',_⟩:=st.i2;have lt:∀{c o},s.heap.get? c=some o->c≠s.heap.objs.size:=λe=>cK (aY e);simp only [bA,List.not_mem_nil,or_false] at hb;rcases hb with rfl | rfl | rfl | rfl | rfl
    ·exact lt st.z q
    ·exact lt st.ti q
    ·exact lt ht' q
    ·exact lt e1' q
    ·exact lt e2' q
   rw [cU nb];exact (hf b hb).1
 done:=by
  intro X hP hw hK hc i pins s σ H E I hf st hg;subst hP hw hK;obtain ⟨xs,ys,e1,e2,hl⟩:=hg;obtain ⟨u1,r1,p1⟩:=I.sq e1;obtain ⟨u2,r2,p2⟩:=I.sq e2;have D:=d.all e1 e2 λb hb=>(hf b hb).1;have l1:=r1.length;have l2:=r2.length;have hend:u1.toArray[i]?=none\/u2.toArray[i]?=none:=by
   rcases hl with h | h
   ·left;simp;omega
   ·right;simp;omega
  refine HQ (I.ok.hd hc) D st p1 p2 hend λh' hk=>⟨rfl,I.turnedL (t':=s.toks) (λb o hb e=>?_) hf⟩;simp only [bA,List.not_mem_nil,or_false,not_or] at hb;exact hk b o hb.1 hb.2.2.1 hb.2.2.2.1 hb.2.2.2.2 e
 self:=λ_ _ _ _ _ st h=>wpAny_pyIter_zip st.z h
abbrev zA(b:Bool)(h:Heap)(l:Addr):Heap:=h.push (PB b l)
abbrev zB(b1 b2:Bool)(h:Heap)(l1 l2:Addr):Heap:=(zA b1 h l1).push (PB b2 l2)
abbrev zC(b1 b2:Bool)(h:Heap)(l1 l2:Addr):Heap:=(zB b1 b2 h l1 l2).push { cls:=.type "tuple",data:=.seq #[.ref h.objs.size,.ref (zA b1 h l1).objs.size] }
abbrev zE(b1 b2:Bool)(h:Heap)(l1 l2:Addr):Heap:=(zC b1 b2 h l1 l2).push { cls:=.type "tuple",data:=.seq #[.none,.none] }
abbrev zF(b1 b2:Bool)(h:Heap)(l1 l2:Addr):Heap:=(zE b1 b2 h l1 l2).push { cls:=.type "zip",data:=.fields #[.none,.bool false,.bool false,.ref (zB b1 b2 h l1 l2).objs.size,.ref (zC b1 b2 h l1 l2).objs.size] }
theorem YL(b1 b2:Bool)(l1 l2:Addr)(xs ys:Array Value):Meets (Builtin.«zip.__new__» ⟨[.type "zip",.ref l1,.ref l2],[]⟩) (λ_ R s=>fK b1 s.heap l1 xs/\fK b2 s.heap l2 ys/\R (.ok (.ret (.ref (zE b1 b2 s.heap l1 l2).objs.size))) { s with heap:=zF b1 b2 s.heap l1 l2 }) :=
 .of_wp λprog w A R s h=>by
  obtain ⟨hp,g,d,tk,os⟩:=s;obtain ⟨hl1,hl2,h⟩:=h;have hsub:=sub_zip;have hL1:fK b1 (Shared.heap ⟨hp,g,d,tk,os⟩) l1 xs:=hl1;have hL2:fK b2 (Shared.heap ⟨hp.push (PB b1 l1),g,d,tk,os⟩) l2 ys:=hl2.at λo e=>aB _ e
  wp_walk using CI hL1,CI hL2
  exact ⟨_,rfl,h⟩
section
variable{prog:Program}{w:World}{A:Around}{E:Value->Shared->Prop}{s:Shared}
theorem aA7{b1 b2:Bool}{l1 l2:Addr}{xs ys:Array Value}{Q:Value->Shared->Prop}(hl1:fK b1 s.heap l1 xs)(hl2:fK b2 s.heap l2 ys)
  (h:∀h',VL b1 b2 (s.heap.objs.size+4) (s.heap.objs.size+2) (s.heap.objs.size+3) s.heap.objs.size (s.heap.objs.size+1) l1 l2 .none 0 h'->(∀c o,s.heap.get? c=some o->h'.get? c=some o)->Q (.ref (s.heap.objs.size+4)) { s with heap:=h' }) :
  wpAny (model prog w) A (call (.type "zip") [.ref l1,.ref l2]) Q E s:=by
 refine callType_new F.called_zip Dd (F.typeCall_zip_2 _ _) (F.newCall_zip_2 _ _) (λobj=>F.args_object_init_3 obj _ _) F.entry_zip_new (YL b1 b2 l1 l2 xs ys) ⟨hl1,hl2,?_⟩;have z1:(zA b1 s.heap l1).objs.size=s.heap.objs.size+1:=eG ..;have z2:(zB b1 b2 s.heap l1 l2).objs.size=s.heap.objs.size+2:=by rw [eG,z1]
 have z3:(zC b1 b2 s.heap l1 l2).objs.size=s.heap.objs.size+3:=by rw [eG,z2]
 have z4:(zE b1 b2 s.heap l1 l2).objs.size=s.heap.objs.size+4:=by rw [eG,z3]
 have g5:(zF b1 b2 s.heap l1 l2).get? (zE b1 b2 s.heap l1 l2).objs.size=some _:=aU _ rfl;have g4:(zF b1 b2 s.heap l1 l2).get? (zC b1 b2 s.heap l1 l2).objs.size=some _:=aB _ (aU _ rfl);have g3:(zF b1 b2 s.heap l1 l2).get? (zB b1 b2 s.heap l1 l2).objs.size=some _:=aB _ (aB _ (aU _ rfl));have g2:(zF b1 b2 s.heap l1 l2).get? (zA b1 s.heap l1).objs.size=some _:=aB _ (aB _ (aB _ (aU _ rfl)));have g1:(zF b1 b2 s.heap l1 l2).get? s.heap.objs.size=some _:=aB _ (aB _ (aB _ (aB _ (aU _ rfl))));show _/\_;rw [z2,z3,z4] at g5;rw [z1,z2] at g3;rw [z3] at g4;rw [z1] at g2;rw [z4];exact ⟨⟨_,g5,rfl⟩,h _ ⟨g5,g3,⟨_,_,g4⟩,⟨_,g1,rfl,rfl⟩,⟨_,g2,rfl,rfl⟩⟩ λc o x=>aB _ (aB _ (aB _ (aB _ (aB _ x))))⟩
end
def aA0(b1 b2:Bool)(ta:TA):TI:=λσ H R=>ta σ H λvs H1=>∃l1 l2 xs ys,vs=[.ref l1,.ref l2]/\H1 l1=some (BC b1 xs)/\H1 l2=some (BC b2 ys)/\R (Itz b1 b2 l1 l2) H1
theorem DE:bootBuiltins (Str.ofString "zip")=some (Value.type "zip"):=Kk
section
variable{X:Cx}
theorem XZ{a b:Expr}{ta:TA}{p pos tp:Pos}{elts:List Expr}{x1}{b1 b2:Bool}(hg:Gl X "zip")(hm:X.mg "zip" = none)(ha:PA X [a,b] ta)(hs:starEach [a,b] X.env=[(false,eval a X.env),(false,eval b X.env)])(hs2:starEach [b] X.env=[(false,eval b X.env)]) :
  PI X (.Tuple elts x1 tp) (.Call (.Name "zip" p) [a,b] [] pos) (aA0 b1 b2 ta):=by
 intro pins s σ H R I h;refine Call_ (vN I hg hm DE (PyProof.Rows.callWith_type1 (thn (ha pos pins s σ H _ I h) λus s1 ⟨vs,H1,I1,r1,q1⟩=>?_) (by rw [hs,hs2]) (by rw [hs2];rfl)));obtain ⟨l1,l2,xs,ys,e,e1,e2,q⟩:=q1;subst e;cases r1 with
 | cons r rr =>
  cases rr with
  | cons r' rr =>
   cases rr;cases r;cases r';obtain ⟨u1,_,p1⟩:=I1.sq e1;obtain ⟨u2,_,p2⟩:=I1.sq e2;refine aA7 p1 p2 λh' Z kk=>wpAny_pyIter_zip Z.z ?_;refine ⟨_,[s1.heap.objs.size+4,s1.heap.objs.size+2,s1.heap.objs.size+3,s1.heap.objs.size,s1.heap.objs.size+1],_,_,H1,rfl,I1.kept (t':=s1.toks) kk,KW (ZD.seq _),Z,λb hb=>?_,q⟩;have hle:s1.heap.objs.size<=b:=by
    simp only [bA,List.not_mem_nil,or_false] at hb;rcases hb with rfl | rfl | rfl | rfl | rfl
    ·exact Nat.le_add_right _ _
    ·exact Nat.le_add_right _ _
    ·exact Nat.le_add_right _ _
    ·exact aJ _
    ·exact Nat.le_add_right _ _
   exact I1.fpOk hle (I1.hok.fresh hle)
theorem uF(b1 b2:Bool){a b:Expr}{ta:TA}{p pos tp:Pos}{elts:List Expr}{x1}(hg:Gl X "zip")(hm:X.mg "zip" = none)(ha:HN X [a,b] ta)(hs:starEach [a,b] X.env=[(false,eval a X.env),(false,eval b X.env)]:=by rfl)(hs2:starEach [b] X.env=[(false,eval b X.env)]:=by first | exact fW | exact fX | exact dE | rfl) :
  PD X (.Tuple elts x1 tp) (.Call (.Name "zip" p) [a,b] [] pos) (aA0 b1 b2 ta):=⟨XZ hg hm ha.p hs hs2⟩
end
theorem tZ{b1 b2:Bool}{l1 l2:Addr}{xs ys:List V}{g:TG}{tb:TS}{D:sW}{σ:St}{H:Hp}(Pv:Nat->St->Hp->Prop)(h0:Pv 0 σ H)(hl:∀i σ H,Pv i σ H->H l1=some (BC b1 xs)/\H l2=some (BC b2 ys))
  (hs:∀i x y q σ H H',xs[i]?=some x->ys[i]?=some y->Pv i σ H->H q=none->H' q=some (.tup [x,y])->bE H H'->g (.ref q) σ H' λσ2 H2=>tb { D with nx:=Pv (i+1),ct:=Pv (i+1),bk:=D.nx } σ2 H2) (hd:∀σ H,Pv (min xs.length ys.length) σ H->D.nx σ H) :
  ∃W:Nat->Nat->St->Hp->Prop,(∃m,W 0 m σ H)/\∀i m σ H,W i m σ H ->
   ((Itz b1 b2 l1 l2).stop i H/\D.nx σ H)\/((Itz b1 b2 l1 l2).go i H/\∃N:St->Hp->Prop,(∀σ' H',N σ' H'->∃m',m' < m/\W (i+1) m' σ' H')/\∀x H',(Itz b1 b2 l1 l2).yld i H x H'->g x σ H' λσ2 H2=>tb { D with nx:=N,ct:=N,bk:=D.nx } σ2 H2):=by
 refine ⟨λi m σ H=>m=min xs.length ys.length-i/\i<=min xs.length ys.length/\Pv i σ H,⟨_,rfl,cM _,h0⟩,?_⟩;rintro i m σ H ⟨rfl,hi,p⟩;obtain ⟨q1,q2⟩:=hl i σ H p;by_cases hlt:i<min xs.length ys.length
 ·have hx:xs[i]?=some xs[i]:=aC Oo;have hy:ys[i]?=some ys[i]:=aC Oo;refine .inr ⟨⟨xs,ys,_,_,q1,q2,hx,hy⟩,Pv (i+1),λσ' H' p'=>⟨_,Oo,rfl,hlt,p'⟩,λv H' y=>?_⟩;obtain ⟨q,x,y,rfl,hq,rfl,hh⟩:=y;obtain ⟨h1,h2⟩:=hh xs ys q1 q2;exact hs i x y q σ H _ h1 h2 p hq bI (bE.upd hq)
 ·have e:i=min xs.length ys.length:=Oo;subst e;refine .inl ⟨⟨xs,ys,q1,q2,?_⟩,hd σ H p⟩;omega
end L2
namespace L2
open PySem
def mY:List Value->List Int->Bool
 | [],[]=>true
 | .int i _::vs,n::ns=>decide (i=n)&&mY vs ns
 | _,_=>false
def pS(K:PySem.W.Frag)(a:Addr)(ns:List Int):Bool :=
 match K.lookup a with
 | some o=>(match o.cls with | .type n=>n == "tuple" | _=>false)&&(match o.data with | .seq xs _=>decide (xs.size<=64)&&mY xs.toList ns | _=>false)
 | none=>false
theorem mY.vals:∀{vs:List Value}{ns:List Int},mY vs ns=true->cZ (ns.map V.int) vs
 | [],[],_=>.nil
 | v::vs,n::ns,h=>by
  cases v with
  | int i t =>
   have h':(decide (i=n)&&mY vs ns)=true:=h;rw [dP] at h';have e:=of_decide_eq_true h'.1;subst e;exact .cons ⟨t,rfl⟩ (mY.vals h'.2)
  | _=>cases h
 | [],_::_,h=>by cases h
 | v::_,[],h=>by cases v <;> cases h
theorem lS{K:PySem.W.Frag}{H:Hp}{a:Addr}{ns:List Int}(h:pS K a ns=true):fF K H a (ns.map V.int):=by
 unfold pS at h;split at h
 ·rename_i o ho
  rw [dP] at h;obtain ⟨h1,h2⟩:=h;split at h1
  ·rename_i n hn
   split at h2
   ·rename_i xs m hx
    rw [dP] at h2;have e:n = "tuple" := by simpa using h1
    subst e;exact .inr ⟨o,xs,m,ho,hn,hx,mN (of_decide_eq_true h2.1),mY.vals h2.2⟩
   ·cases h2
  ·cases h1
 ·cases h
theorem fF.keep{K:PySem.W.Frag}{H H':Hp}{a:Addr}{xs:List V}(s:bE H H')(h:fF K H a xs):fF K H' a xs:=by
 rcases h with (h | ⟨o,h⟩) | h
 ·exact .inl (.inl (s _ _ h))
 ·exact .inl (.inr ⟨o,s _ _ h⟩)
 ·exact .inr h
mutual
def iD(K:PySem.W.Frag)(H:Hp):PyData->V->Prop
 | .none,v=>v=.non
 | .bool b,v=>v=.bl b
 | .int i,v=>v=.int i
 | .str x,v=>v=.str x
 | .list ds,v=>∃a xs,v=.ref a/\H a=some (.lst xs)/\fD K H ds xs
 | .tuple ds,v=>∃a xs,v=.ref a/\fF K H a xs/\fD K H ds xs
 | .dict kvs,v=>kvs=[]/\∃a,v=.ref a/\H a=some (.dK [])
def fD(K:PySem.W.Frag)(H:Hp):List PyData->List V->Prop
 | [],vs=>vs=[]
 | d::ds,vs=>∃x xs,vs=x::xs/\iD K H d x/\fD K H ds xs
end
mutual
theorem cA.k{K:PySem.W.Frag}{H:Hp}:∀{d:PyData}{v:V},cA H d v->iD K H d v
 | .none,_,h=>h
 | .bool _,_,h=>h
 | .int _,_,h=>h
 | .str _,_,h=>h
 | .list ds,_,h=>by
  unfold cA at h;unfold iD;obtain ⟨a,xs,rfl,h1,h2⟩:=h;exact ⟨a,xs,rfl,h1,bD.k h2⟩
 | .tuple ds,_,h=>by
  unfold cA at h;unfold iD;obtain ⟨a,xs,rfl,h1,h2⟩:=h;exact ⟨a,xs,rfl,fF.of h1,bD.k h2⟩
 | .dict kvs,_,h=>by unfold cA at h;unfold iD;exact h
theorem bD.k{K:PySem.W.Frag}{H:Hp}:∀{ds:List PyData}{vs:List V},bD H ds vs->fD K H ds vs
 | [],_,h=>h
 | d::ds,_,h=>by
  unfold bD at h;unfold fD;obtain ⟨x,xs,rfl,h1,h2⟩:=h;exact ⟨x,xs,rfl,cA.k h1,bD.k h2⟩
end
theorem iD.tup{K:PySem.W.Frag}{H:Hp}{a:Addr}{xs:List V}{ds:List PyData}(h:fF K H a xs)(r:fD K H ds xs):iD K H (.tuple ds) (.ref a):=by
 unfold iD;exact ⟨a,xs,rfl,h,r⟩
theorem fD.ints{K:PySem.W.Frag}{H:Hp}:∀ns:List Int,fD K H (ns.map PyData.int) (ns.map V.int)
 | []=>by unfold fD;rfl
 | n::ns=>by unfold fD;exact ⟨_,_,rfl,by unfold iD;rfl,fD.ints ns⟩
section
variable{X:Cx}{pins:List (Addr × Obj)}{σ:St}{H:Hp}{s:Shared}
mutual
theorem iD.reads(I:cF X pins σ H s):∀{d:PyData}{v:V}{u:Value},iD X.K H d v->dO v u->∃as,Reads s.heap u d as
 | .none,_,u,h,r=>by
  cases (show _=V.non from h);cases (show u=Value.none from r);exact ⟨_,.none⟩
 | .bool b,_,u,h,r=>by
  cases (show _=V.bl b from h);cases (show u=Value.bool b from r);exact ⟨_,.bool b⟩
 | .int b,_,u,h,r=>by
  cases (show _=V.int b from h);obtain ⟨t,q⟩:=(show ∃t,u=Value.int b t from r);cases q;exact ⟨_,.int b t⟩
 | .str b,_,u,h,r=>by
  cases (show _=V.str b from h);obtain ⟨t,q⟩:=(show ∃t,u=Value.str b t from r);cases q;exact ⟨_,.str b t⟩
 | .list ds,v,u,h,r=>by
  unfold iD at h;obtain ⟨a,xs,rfl,h1,h2⟩:=h;cases (show u=Value.ref a from r);obtain ⟨_,its,n,r',e⟩:=(show eU X.prog X.w H s.heap a (.lst xs) from I.hok a _ h1);obtain ⟨as,q⟩:=fD.reads I h2 r';exact ⟨_,.list e rfl rfl (by simpa using q)⟩
 | .tuple ds,v,u,h,r=>by
  unfold iD at h;obtain ⟨a,xs,rfl,h1,h2⟩:=h;cases (show u=Value.ref a from r);obtain ⟨its,r',⟨o,e,hc,n,hd⟩,_⟩:=I.tuple h1;obtain ⟨as,q⟩:=fD.reads I h2 r';exact ⟨_,.tuple e hc hd (by simpa using q)⟩
 | .dict kvs,v,u,h,r=>cA.reads I (d:=.dict kvs) (by unfold cA;unfold iD at h;exact h) r
theorem fD.reads(I:cF X pins σ H s):∀{ds:List PyData}{vs:List V}{us:List Value},fD X.K H ds vs->cZ vs us->∃as,ReadsAll s.heap us ds as
 | [],_,us,h,r=>by
  cases (show _=[] from h);cases r;exact ⟨_,.nil⟩
 | d::ds,_,us,h,r=>by
  unfold fD at h;obtain ⟨x,xs,rfl,h1,h2⟩:=h;cases r with
  | cons r1 r2 =>
   obtain ⟨as,q1⟩:=iD.reads I h1 r1;obtain ⟨bs,q2⟩:=fD.reads I h2 r2;exact ⟨_,.cons q1 q2⟩
end
end
@[irreducible] def IN(K:PySem.W.Frag)(b:Bool):R2:=λx y H Q=>∃d d',iD K H d x/\iD K H d' y/\SeqAt.shaped d=true/\SeqAt.shaped d'=true/\Q (.bl (b == PyData.eqv d d')) H
section
variable{X:Cx}
theorem YI(K:PySem.W.Frag)(hu:X.A.units+64<cLine)(hK:X.K=K:=by rfl):pW X (compareOp .Eq) (IN K true):=by
 subst hK;unfold IN;intro pins s σ H x y v u Q I rx ry h;obtain ⟨d,d',h1,h2,s1,s2,q⟩:=h;obtain ⟨as,ra⟩:=h1.reads I rx;obtain ⟨bs,rb⟩:=h2.reads I ry;exact SeqAt.compareEq_shaped ra rb s1 s2 hu ⟨.bl _,H,I,by show _=_;simp,q⟩
theorem MR(K:PySem.W.Frag)(hu:X.A.units+64<cLine)(hK:X.K=K:=by rfl):pW X (compareOp .NotEq) (IN K false):=by
 subst hK;unfold IN;intro pins s σ H x y v u Q I rx ry h;obtain ⟨d,d',h1,h2,s1,s2,q⟩:=h;obtain ⟨as,ra⟩:=h1.reads I rx;obtain ⟨bs,rb⟩:=h2.reads I ry;exact SeqAt.compareNe_shaped ra rb s1 s2 hu ⟨.bl _,H,I,by show _=_;simp,q⟩
end
section
variable{K:PySem.W.Frag}{H:Hp}{p:Addr}{xs:List V}{i:Int}{v:V}{Q:VK}
theorem reK{b:Bool}{x y:V}{d d':PyData}(h1:iD K H d x)(h2:iD K H d' y)(s1:SeqAt.shaped d=true)(s2:SeqAt.shaped d'=true)(q:Q (.bl (b == PyData.eqv d d')) H):IN K b x y H Q:=by
 unfold IN;exact ⟨d,d',h1,h2,s1,s2,q⟩
theorem nH(h:fF K H p xs)(e:DG xs i=some v)(q:Q v H):rIx K (.ref p) (.int i) H Q:=.inr (.inl ⟨p,xs,i,v,rfl,rfl,h,e,q⟩)
end
theorem SZ(xs:List V)(k:Nat):sN xs (some (k:Int)) none=xs.drop k:=by
 unfold sN;rw [HT.FT,HT.BS];by_cases h:k<=xs.length
 ·rw [Nat.min_eq_left h];exact List.take_of_length_le (by rw [List.length_drop];exact aJ _)
 ·rw [Nat.min_eq_right Oo,List.drop_of_length_le (aJ _),List.drop_of_length_le Oo,List.take_nil]
theorem HC(xs:List V)(k:Nat):sN xs none (some (k:Int))=xs.take k:=by
 unfold sN;rw [HT.FT,HT.BS,List.drop_zero,Nat.sub_zero];by_cases h:k<=xs.length
 ·rw [Nat.min_eq_left h]
 ·rw [Nat.min_eq_right Oo,List.take_of_length_le (aJ _),List.take_of_length_le Oo]
section
variable{σ:St}{js:List Nat}{te:TE}{H:Hp}{Q:VK}
theorem oG{R:Nat->V->Prop}{ys:List V}{y:V}(h:∀(j:Nat) z,ys[j]?=some z->R j z)(r:R ys.length y):∀(j:Nat) z,(ys++[y])[j]?=some z->R j z:=λj z hj=>by
 by_cases hji:j<ys.length
 ·rw [bJ hji] at hj;exact h j z hj
 ·rw [cN Oo] at hj;have:j-ys.length=0:=by
   by_cases q:j-ys.length=0
   ·exact q
   ·rw [dI (by simp;omega)] at hj;cases hj
  rw [this] at hj;have hj':y=z:=by simpa using hj
  have:j=ys.length:=Oo;subst this hj';exact r
theorem sO{J:It}{n:Nat}(src:Nat->V->Prop)(R:Nat->V->Hp->Prop)(hR:∀i y H1 H2,eF H1 H2->R i y H1->R i y H2)(hz:n<=100000)
  (hg:∀i H',bE H H'->i<n->J.go i H'/\∀x H3,J.yld i H' x H3->H3=H'/\src i x) (hst:∀H',bE H H'->J.stop n H')
  (hs:∀i x H' (Q':VK),src i x->i<n->bE H H'->(∀y H5,bE H' H5->R i y H5->Q' y H5)->te (some x::slots σ js) H' Q')
  (hd:∀D ys H',H D=none->H' D=some (.lst ys)->bE H H'->ys.length=n->(∀(i:Nat) (y:V),ys[i]?=some y->R i y H')->Q (.ref D) H'):kQ J σ js uQ te H Q:=by
 refine rE (J:=J) (n:=n) src hz (λD i ys H'=>H D=none/\bE H H'/\∀(i:Nat) (y:V),ys[i]?=some y->R i y H') (λD H1 hD _ s=>⟨hD,s,λi y h=>by simp at h⟩)
  (λD i ys H' hi _ p=>hg i H' p.2.1 hi) (λD ys H' _ p=>hst H' p.2.1) (λD i x ys H' hx hi hy hD p=>?_) (λD ys H' hy hD hD' p=>hd D ys H' hD hD' p.2.1 hy p.2.2)
 refine hs i x H' _ hx hi p.2.1 λy H5 s5 r=>?_;refine ⟨s5 _ _ hD,λH6 hD6 s6=>⟨p.1,bE.thru p.1 (p.2.1.trans s5) s6,?_⟩⟩;have t6:=s6.t (s5 _ _ hD);exact oG (R:=λj z=>R j z H6) (λj z hj=>hR j z _ _ (s5.t.trans t6) (p.2.2 j z hj)) (by rw [hy];exact hR i y _ _ t6 r)
theorem sP{K:PySem.W.Frag}{a:Addr}{xs:List V}(R:Nat->V->Hp->Prop)(hR:∀i y H1 H2,eF H1 H2->R i y H1->R i y H2)(hz:xs.length<=100000)(hl:H a=some (.lst xs))
  (hs:∀i x H' (Q':VK),xs[i]?=some x->bE H H'->(∀y H5,bE H' H5->R i y H5->Q' y H5)->te (some x::slots σ js) H' Q')
  (hd:∀D ys H',H D=none->H' D=some (.lst ys)->bE H H'->ys.length=xs.length->(∀(i:Nat) (y:V),ys[i]?=some y->R i y H')->Q (.ref D) H'):kQ (VO K a) σ js uQ te H Q :=
 sO (λi x=>xs[i]?=some x) R hR hz (λi H' s hi=>⟨⟨xs,xs[i],fM.of (s _ _ hl),by simp [hi]⟩,λx H3 y=>⟨y.1,y.2 xs (fM.of (s _ _ hl))⟩⟩) (λH' s=>⟨xs,fM.of (s _ _ hl),aJ _⟩)
  (λi x H' Q' hx _ s k=>hs i x H' Q' hx s k) hd
theorem xY{K:PySem.W.Frag}{a:Addr}{xs:List V}(R:Nat->V->Hp->Prop)(hR:∀i y H1 H2,eF H1 H2->R i y H1->R i y H2)(hz:xs.length<=100000)(hl:H a=some (.tup xs))
  (hs:∀i x H' (Q':VK),xs[i]?=some x->bE H H'->(∀y H5,bE H' H5->R i y H5->Q' y H5)->te (some x::slots σ js) H' Q')
  (hd:∀D ys H',H D=none->H' D=some (.lst ys)->bE H H'->ys.length=xs.length->(∀(i:Nat) (y:V),ys[i]?=some y->R i y H')->Q (.ref D) H'):kQ (ZZ K a) σ js uQ te H Q :=
 sO (λi x=>xs[i]?=some x) R hR hz (λi H' s hi=>⟨⟨xs,xs[i],fF.of (s _ _ hl),by simp [hi]⟩,λx H3 y=>⟨y.1,y.2 xs (fF.of (s _ _ hl))⟩⟩) (λH' s=>⟨xs,fF.of (s _ _ hl),aJ _⟩)
  (λi x H' Q' hx _ s k=>hs i x H' Q' hx s k) hd
theorem kG{lo:Int}{n:Nat}(R:Nat->V->Hp->Prop)(hR:∀i y H1 H2,eF H1 H2->R i y H1->R i y H2)(hz:n<=100000)
  (hs:∀i H' (Q':VK),i<n->bE H H'->(∀y H5,bE H' H5->R i y H5->Q' y H5)->te (some (.int (lo+(i:Nat)))::slots σ js) H' Q')
  (hd:∀D ys H',H D=none->H' D=some (.lst ys)->bE H H'->ys.length=n->(∀(i:Nat) (y:V),ys[i]?=some y->R i y H')->Q (.ref D) H'):kQ (UC lo n) σ js uQ te H Q :=
 sO (λi x=>x=.int (lo+(i:Nat))) R hR hz (λi H' s hi=>⟨hi,λx H3 y=>y⟩) (λH' s=>aJ _)
  (λi x H' Q' hx hi s k=>by subst hx;exact hs i H' Q' hi s k) hd
theorem aR.thru{p l:Addr}{H0 H1 H2:Hp}(hl:H0 l=none)(s:aR p H0 H1)(b:aR l H1 H2):aR p H0 H2:=λc o e=>by
 have n:=gW.ne e;have e0:H0 c=some o:=by rw [gW.at n] at e;exact e
 have nl:c≠l:=λz=>by subst z;rw [hl] at e0;cases e0
 exact gW.of n (b.at nl (s.at n e0))
end
theorem bD.ofIdx{H:Hp}:∀{ds:List PyData}{ys:List V},ys.length=ds.length->(∀(i:Nat) (y:V),ys[i]?=some y->∃d,ds[i]?=some d/\cA H d y)->bD H ds ys
 | [],[],_,_=>bD.nil
 | d::ds,y::ys,hl,h=>by
  obtain ⟨d',e,r⟩:=h 0 y rfl;cases (show d=d' by simpa using e);exact bD.cons r (bD.ofIdx (by simpa using hl) λi z hz=>by simpa using h (i+1) z (by simpa using hz))
 | [],_::_,hl,_=>by simp at hl
 | _::_,[],hl,_=>by simp at hl
theorem AK{P:Nat->Int->Prop}:∀{ys:List V},(∀(i:Nat) (y:V),ys[i]?=some y->∃n,y=.int n/\P i n)->∃ns:List Int,ys=ns.map V.int/\∀(i:Nat) n,ns[i]?=some n->P i n
 | [],_=>⟨[],rfl,λi n h=>by simp at h⟩
 | y::ys,h=>by
  obtain ⟨n,rfl,hn⟩:=h 0 y rfl;obtain ⟨ns,rfl,hs⟩:=AK (P:=λi=>P (i+1)) (ys:=ys) λi z hz=>h (i+1) z (by simpa using hz);refine ⟨n::ns,rfl,λi m hm=>?_⟩;cases i with
  | zero=>cases (show n=m by simpa using hm);exact hn
  | succ i=>exact hs i m (by simpa using hm)
end L2
namespace L2
open PySem PySem.Spec PyProof.Rows
theorem kC.u1{k:Nat}{A:Around}(r:kC k A):A.units+1<cLine:=by have:=r.units;omega
@[irreducible] def rDG:R2:=λx y H Q=>∃a v,x=.ref a/\jP H a y (some v)/\Q v H
@[irreducible] def rDP(D:sW)(σ:St)(x y v:V)(H:Hp):Prop:=∃a H4,x=.ref a/\BA H a y v H4/\D.nx σ H4
def UP(td ty tv:TE):TS:=λD σ H=>tv σ H λv H1=>td σ H1 λx H2=>ty σ H2 λy H3=>rDP D σ x y v H3
structure TY(X:Cx)(pos:Pos)(keys:List (Option Expr))(values:List Expr)(trs:List (TE × TE)):Prop where p:PPs X pos keys values trs
section
variable{X:Cx}{o i value k v:Expr}{td ty tv tk:TE}{pos pos':Pos}{ks:List (Option Expr)}{vs:List Expr}{trs:List (TE × TE)}
theorem jV(hu:X.A.units+1<cLine)(ho:hZ X o td)(hi:hZ X i ty)(hs:ZX i:=by intro _ _;rfl):hZ X (.Subscript o i pos) (QA rDG td ty):=⟨by unfold rDG;exact RW hu ho.p hi.p hs⟩
theorem oS(hu:X.A.units+1<cLine)(ho:hZ X o td)(hi:hZ X i ty)(hv:hZ X value tv)(hs:swapsWith value (some (.Subscript o i pos')) pos.line X.env=pure false:=by rfl) :
  FE X (.Assign [.Subscript o i pos'] value pos) (UP td ty tv):=⟨by unfold UP rDP;exact RH hu ho.p hi.p hv.p hs⟩
theorem PP:TY X pos [] [] []:=⟨pps_nil⟩
theorem uE(hk:hZ X k tk)(hv:hZ X v tv)(hr:TY X pos ks vs trs):TY X pos (some k::ks) (v::vs) ((tk,tv)::trs):=⟨MI hk.p hv.p hr.p⟩
theorem PV(h:TY X pos ks vs trs)(hall:ks.all (·.isSome)=true:=by rfl)(hl:ks.length=vs.length:=by rfl)(h0:ks≠[]:=by intro h;cases h)(h15:ks.length<=15:=by decide):hZ X (.Dict ks vs pos) (UO trs):=⟨RS h.p hall hl h0 h15⟩
end
theorem dgS{H:Hp}{p:Addr}{kvs:List (dS × V)}{x:Str}{v:V}{Q:VK}(e:H p=some (.dK kvs))(hv:eN kvs (.inr x)=some v)(q:Q v H):rDG (.ref p) (.str x) H Q:=by
 unfold rDG;exact ⟨p,v,rfl,hv ▸ jP.k (k:=.inr x) e,q⟩
theorem dpS{H:Hp}{p:Addr}{kvs kvs2:List (dS × V)}{x:Str}{v:V}{D:sW}{σ:St}(e:H p=some (.dK kvs))(hl:kvs.length<=64)(hk:iG kvs (.inr x) v=kvs2)(q:∀H',H' p=some (.dK kvs2)->aR p H H'->D.nx σ H') :
  rDP D σ (.ref p) (.str x) v H:=by
 unfold rDP;exact ⟨p,_,rfl,BA.k (k:=.inr x) e (aQ hl Dd),q _ (by rw [hk];exact bI) aR.self⟩
theorem aR.tD{H H':Hp}{p:Addr}(s:aR p H H'){xs:List (dS × V)}(hp:H p=some (.dK xs)):eF H H':=λb ys h=>s.at (vH h hp (by intro z;cases z)) h
structure oP(p:Addr)(Fd:Nat->Hp->Prop):Prop where
 but:∀n D H1 H2,D≠p->aR D H1 H2->Fd n H1->Fd n H2
 same:∀n H1 H2,bE H1 H2->Fd n H1->Fd n H2
 dic:∀n H',Fd n H'->∃xs,H' p=some (.dK xs)
section
variable{σ:St}{js:List Nat}{te:TE}{H:Hp}{Q:VK}
theorem oP.np{p:Addr}{Fd:Nat->Hp->Prop}(fl:oP p Fd){n:Nat}{H':Hp}{D:Addr}(F:Fd n H')(h:H' D=none):D≠p:=λe=>by
 obtain ⟨xs,hp⟩:=fl.dic n H' F;subst e;rw [hp] at h;cases h
theorem TD{J:It}{n:Nat}{p:Addr}{Fd:Nat->Hp->Prop}(fl:oP p Fd)(F0:Fd 0 H)(src:Nat->V->Prop)(R:Nat->V->Hp->Prop)(hR:∀i y H1 H2,eF H1 H2->R i y H1->R i y H2)(hz:n<=100000)
  (hg:∀i H',aR p H H'->i<n->J.go i H'/\∀x H3,J.yld i H' x H3->H3=H'/\src i x) (hst:∀H',aR p H H'->J.stop n H')
  (hs:∀i x H' (Q':VK),src i x->i<n->Fd i H'->aR p H H'->(∀y H5,Fd (i+1) H5->aR p H' H5->R i y H5->Q' y H5)->te (some x::slots σ js) H' Q')
  (hd:∀D ys H',H D=none->H' D=some (.lst ys)->Fd n H'->aR p H H'->ys.length=n->(∀(i:Nat) (y:V),ys[i]?=some y->R i y H')->Q (.ref D) H'):kQ J σ js uQ te H Q:=by
 refine rE (J:=J) (n:=n) src hz (λD i ys H'=>H D=none/\Fd i H'/\aR p H H'/\∀(i:Nat) (y:V),ys[i]?=some y->R i y H') (λD H1 hD _ s=>⟨hD,fl.same _ _ _ s F0,s.but,λi y h=>by simp at h⟩)
  (λD i ys H' hi _ q=>hg i H' q.2.2.1 hi) (λD ys H' _ q=>hst H' q.2.2.1) (λD i x ys H' hx hi hy hD q=>?_) (λD ys H' hy hD hD' q=>hd D ys H' hD hD' q.2.1 q.2.2.1 hy q.2.2.2)
 have np:=fl.np F0 q.1;refine hs i x H' _ hx hi q.2.1 q.2.2.1 λy H5 F5 s5 r=>?_;obtain ⟨xs,hp⟩:=fl.dic _ H' q.2.1;have hD5:=s5.at np hD;refine ⟨hD5,λH6 hD6 s6=>⟨q.1,fl.but _ D _ _ np s6 F5,aR.thru q.1 (q.2.2.1.trans s5) s6,?_⟩⟩;have t6:=s6.t hD5;exact oG (R:=λj z=>R j z H6) (λj z hj=>hR j z _ _ ((s5.tD hp).trans t6) (q.2.2.2 j z hj)) (by rw [hy];exact hR i y _ _ t6 r)
theorem CW{lo:Int}{n:Nat}{p:Addr}{Fd:Nat->Hp->Prop}(fl:oP p Fd)(F0:Fd 0 H)(R:Nat->V->Hp->Prop)(hR:∀i y H1 H2,eF H1 H2->R i y H1->R i y H2)(hz:n<=100000)
  (hs:∀i H' (Q':VK),i<n->Fd i H'->aR p H H'->(∀y H5,Fd (i+1) H5->aR p H' H5->R i y H5->Q' y H5)->te (some (.int (lo+(i:Nat)))::slots σ js) H' Q')
  (hd:∀D ys H',H D=none->H' D=some (.lst ys)->Fd n H'->aR p H H'->ys.length=n->(∀(i:Nat) (y:V),ys[i]?=some y->R i y H')->Q (.ref D) H'):kQ (UC lo n) σ js uQ te H Q :=
 TD fl F0 (λi x=>x=.int (lo+(i:Nat))) R hR hz (λi H' s hi=>⟨hi,λx H3 y=>y⟩) (λH' s=>aJ _)
  (λi x H' Q' hx hi f s k=>by subst hx;exact hs i H' Q' hi f s k) hd
end
section
variable{X:Cx}
@[irreducible] def GB(K:PySem.W.Frag):R2:=λx y H Q=>∃a b xs ys,x=.ref a/\y=.ref b/\H a=some (.tup xs)/\H b=some (.tup ys)/\xs.length+ys.length<=1000/\∀c H',bE H H'->H' c=some (.tup (xs++ys))->Q (.ref c) H'
theorem OA{K:PySem.W.Frag}{H:Hp}{Q:VK}{a b:Addr}{xs ys:List V}(h1:H a=some (.tup xs))(h2:H b=some (.tup ys))(hz:xs.length+ys.length<=1000)(k:∀c H',bE H H'->H' c=some (.tup (xs++ys))->Q (.ref c) H'):GB K (.ref a) (.ref b) H Q:=by
 unfold GB;exact ⟨a,b,xs,ys,rfl,rfl,h1,h2,hz,k⟩
theorem qT(K:PySem.W.Frag)(hK:X.K=K:=by rfl):pW X (binaryOp .Add) (GB K):=by
 subst hK;unfold GB;intro pins s σ H x y v u Q I rx ry h;obtain ⟨a,b,xs,ys,rfl,rfl,ha,hb,hz,q⟩:=h;by_cases hx:xs=[]
 ·cases rx;cases ry;subst hx;obtain ⟨its,r1,p1,_⟩:=I.tuple (fF.of ha);obtain ⟨its2,r2,p2,_⟩:=I.tuple (fF.of hb);cases r1;obtain ⟨⟨cls,dd,data,sl⟩,ho,hc,n,hd⟩:=id p1;obtain ⟨⟨cls2,dd2,data2,sl2⟩,ho2,hc2,n2,hd2⟩:=id p2;simp only at hc hd hc2 hd2;subst hc hd hc2 hd2;exact concat_meets ⟨_,ho,rfl⟩ ⟨_,ho2,rfl⟩ noFill_tuple_add seq_tuple_add PySem.F.slot_tuple_add PySem.F.entry_tuple_add (PySem.F.args_tuple_add_2 _ _)
   (tuple_addW0 a b _ _ n n2 dd dd2 sl sl2 rfl) ⟨ho,ho2,⟨.ref b,H,I,rfl,q b H (bE.refl _) hb⟩⟩
 ·refine SC pins s σ H _ _ v u Q I rx ry ⟨a,b,xs,ys,rfl,rfl,fF.of ha,fF.of hb,hx,aW hz Dd,λe=>?_,λ_ p hp=>q p _ (bE.upd hp) bI⟩;subst e;exact q a H (bE.refl _) (by rw [List.append_nil];exact ha)
end
theorem vQ(a:Int)(t:Tok)(l:Addr)(items:Array Value)(n:Nat)(dd:Option Addr)(sl:Array (Option Value)) :
  Meets (Builtin.«int.__rmul__» ⟨[.int a t,.ref l],[]⟩) (λ_ R s=>s.heap.get? l=some { cls:=.type "tuple",dict:=dd,data:=.seq items n,slots:=sl }/\R (.ok (.ret Value.notImplemented)) s) :=
 .of_wp λprog w A R s h=>by
  obtain ⟨hp,g,d,tk,os⟩:=s;obtain ⟨hl,h⟩:=h
  wp_walk
  exact ⟨_,rfl,h⟩
theorem DR(l:Addr)(items:Array Value)(n:Nat)(dd:Option Addr)(sl:Array (Option Value))(k:Int)(u:Tok)(h0:2<=k)(h1:k<=64)(he:items.isEmpty=false)(hz:items.size<=64)(hsz:((List.replicate k.toNat items).foldl (· ++ ·) #[]).size<=sizeLine) :
  Meets (Builtin.«tuple.__mul__» ⟨[.ref l,.int k u],[]⟩) (λ_ R s=>s.heap.get? l=some { cls:=.type "tuple",dict:=dd,data:=.seq items n,slots:=sl }/\R (.ok (.ret (.ref s.heap.objs.size))) { s with heap:=s.heap.push { cls:=.type "tuple",data:=.seq ((List.replicate k.toNat items).foldl (· ++ ·) #[]) } }) :=
 .of_wp λprog w A R s h=>by
  obtain ⟨hp,g,d,tk,os⟩:=s;obtain ⟨hl,h⟩:=h;have f1:=AutoSeq1.idx_int
  wp_walk using wpAny_loadPart' hl
  rw [if_neg (by simp;omega)]
  wp_walk using wpAny_loadPart' hl
  have he':¬items=#[]:=λz=>by simp [z] at he
  have hm:(items.size:Int)*k<=4096:=by
   have h2:(items.size:Int)*k<=64*64:=Int.mul_le_mul Oo h1 Oo Oo;omega
  rw [if_neg (by simp;exact ⟨he',Oo⟩)];rw [if_neg (by simp;exact ⟨Oo,he'⟩)];show wpAny _ _ (if (items.size:Int)*k > (2^63-1)/8 then _ else _) _ _ _;rw [if_neg Oo];show wpAny _ _ (if Builtin.Tuple.tupleTooMany (items.size*k)=true then _ else _) _ _ _;rw [if_neg (by unfold Builtin.Tuple.tupleTooMany;simp;exact Int.le_trans hm Dd)]
  wp_walk
  exact ⟨_,rfl,h⟩
theorem sF:fillsNumberSlot (.type "tuple") "mul" = pure false:=PySem.fillsNumberSlot_seq (id := "tuple.__mul__") (r:=some (.builtin "tuple.__rmul__")) F.slot_tuple_mul.lookup Kk F.slot_tuple_rmul.lookup Kk
theorem zS:seqRepeat? (.type "tuple")=pure (some (.builtin "tuple.__mul__")):=by
 unfold seqRepeat?;rw [PySem.seqSlot_of (T := "tuple") (name := "__mul__") (id := "tuple.__mul__") F.slot_tuple_mul.lookup Kk,PySem.seqSlot_of (T := "tuple") (name := "__rmul__") (id := "tuple.__rmul__") F.slot_tuple_rmul.lookup Kk];rfl
@[irreducible] def FZ:R2:=λx y H Q=>∃a z,∃k:Nat,x=.ref a/\y=.int (k:Int)/\H a=some (.tup [z])/\2<=k/\k<=64/\∀c H',bE H H'->H' c=some (.tup (List.replicate k z))->Q (.ref c) H'
theorem aCy{H:Hp}{Q:VK}{a:Addr}{z:V}{k:Nat}(h:H a=some (.tup [z]))(h2:2<=k)(hk:k<=64)(q:∀c H',bE H H'->H' c=some (.tup (List.replicate k z))->Q (.ref c) H'):FZ (.ref a) (.int (k:Int)) H Q:=by
 unfold FZ;exact ⟨a,z,k,rfl,rfl,h,h2,hk,q⟩
section
variable{X:Cx}
theorem SB:pW X (binaryOp .Mult) FZ:=by
 unfold FZ;intro pins s σ H x y v u Q I rx ry h;obtain ⟨a,z,k,rfl,rfl,hH,h2,hk,q⟩:=h;cases rx;obtain ⟨t,rfl⟩:=(show ∃t,u=Value.int (k:Int) t from ry);obtain ⟨its,r,p,_⟩:=I.tuple (fF.of hH);obtain ⟨w1,rfl,rw1⟩:=lN r;obtain ⟨⟨cls,dd,data,sl⟩,ho,hc,n,hd⟩:=id p;simp only at hc hd;subst hc hd;have flat1:∀k:Nat,(List.replicate k [w1]).flatten=List.replicate k w1:=λk=>by
  induction k with
  | zero=>rfl
  | succ k ih=>rw [List.replicate_succ,List.flatten_cons,ih,List.replicate_succ];rfl
 have f0:List.foldl (λx1 x2=>x1++x2) #[] (List.replicate k [w1].toArray)=(List.replicate k w1).toArray:=by
  have:=sK [w1] k [];rw [List.nil_append,flat1] at this;exact this
 have vr:∀k:Nat,cZ (List.replicate k z) (List.replicate k w1):=λk=>by
  induction k with
  | zero=>exact .nil
  | succ k ih=>exact .cons rw1 ih
 generalize hk':(k:Int)=kk;have hkk:kk.toNat=k:=Oo;refine wpAny_binaryOp_repeat_ref (T := "tuple") (U := "int") Dd ⟨_,ho,rfl⟩ (λs'=>typeIs_int s' kk t) sF F.fills_int_mul F.slot_int_rmul zS F.slot_int_index.lookup
  (call_meets F.slot_int_rmul (typeIs_int s kk t) F.entry_int_rmul (F.args_int_rmul_2 _ _) (vQ kk t a [w1].toArray n dd sl) ⟨ho,rfl,⟨_,ho,rfl⟩,?_⟩)
 refine call_meets F.slot_tuple_mul ⟨_,ho,rfl⟩ F.entry_tuple_mul (F.args_tuple_mul_2 _ _) (DR a [w1].toArray n dd sl kk t Oo Oo rfl (by show 1<=64;decide) (by rw [hkk,f0,bC,bU];exact aW hk Dd)) ⟨ho,?_⟩;rw [hkk,f0];refine ⟨.ref _,_,I.laid (t':=s.toks) (o:=.tup (List.replicate k z)) (λb ob q=>aB _ q) (aJ _) ?_,rfl,q _ _ (bE.upd (I.hok.fresh (aJ _))) bI⟩;exact ⟨⟨by rw [bU];exact mN hk,_,aU _ rfl,rfl⟩,_,vr k,IsTup.new _ _⟩
end
@[irreducible] def QU:V->List V->Hp->VK->Prop:=GA
theorem MW{X:Cx}:VN X "list.extend" QU:=by unfold QU;exact IV
theorem aA4{H:Hp}{l b:Addr}{xs zs:List V}{Q:VK}(h:H l=some (.lst xs))(h2:H b=some (.lst zs))(hz:xs.length+zs.length<=1000)(k:∀H',H' l=some (.lst (xs++zs))->aR l H H'->Q .non H'):QU (.ref l) [.ref b] H Q:=by
 unfold QU;exact ⟨l,b,xs,zs,rfl,rfl,h,h2,Nat.le_of_lt (sA hz),k _ bI aR.self⟩
section
variable{prog:Program}{w:World}{A:Around}{E:Value->Shared->Prop}{s:Shared}{l:Addr}{xs:Array (Int × Tok)}
theorem LG{Q:Value->Shared->Prop}(hh:A.handled=none)(hl:s.heap.IsTuple l (intItems xs))
  (h:∀h' tk t',(∀b o,s.heap.get? b=some o->h'.get? b=some o)->Q (.int (preSum (numAt xs) xs.size) t') { s with heap:=h',toks:=tk }) :
  wpAny (model prog w) A (call (.builtin "sum") [.ref l]) Q E s:=by
 have hlt:l<s.heap.objs.size:=by obtain ⟨_,e,_⟩:=hl;exact aY e
 refine call_sum_walkG (wpAny_pyIter_tuple hl ?_);refine ⟨_,[_,l],[_],_,_,_,numAt xs,rfl,Walks.tuple (A:=A.in1) hh _ l (cK hlt) (intItems xs),⟨⟨_,aU _ rfl,rfl,rfl⟩,hl.push _⟩,λc hc=>?_,(λ_ _=>intItems_at),λh' tk t' hk=>?_⟩
 ·show c<(s.heap.push _).objs.size;rw [eG];rcases bA.mp hc with rfl | hc
  ·exact Nat.lt_succ_self _
  ·rcases bA.mp hc with rfl | hc
   ·exact Nat.lt_succ_of_lt hlt
   ·cases hc
 ·have:=h h' tk t' λc o e=>by
   refine hk c o (λhm=>?_) (aB _ e);rcases bA.mp hm with e1 | hm
   ·exact absurd (e1 ▸ aY e) (cG _)
   ·cases hm
  simpa [intItems] using this
end
@[irreducible] def FW(K:PySem.W.Frag):List V->Hp->VK->Prop:=λxs H Q=>∃(p:Addr) (ns:List Int),xs=[.ref p]/\fF K H p (ns.map V.int)/\Q (.int ns.sum) H
theorem rsT{K:PySem.W.Frag}{H:Hp}{p:Addr}{ns:List Int}{Q:VK}(h:fF K H p (ns.map V.int))(q:Q (.int ns.sum) H):FW K [.ref p] H Q:=by unfold FW;exact ⟨p,ns,rfl,h,q⟩
theorem uB{X:Cx}(K:PySem.W.Frag)(hc:X.calm=true)(hK:X.K=K:=by rfl):iP X (.builtin "sum") (FW K):=by
 subst hK;unfold FW;intro pins s σ H xs us Q I r h;obtain ⟨p,ns,rfl,hq,q⟩:=h;obtain ⟨u,rfl,rx⟩:=lN r;cases rx;obtain ⟨its,r',pl,hz⟩:=I.tuple hq;have hi:=vP r';obtain ⟨xs',e⟩:=hi.allInts.items;rw [e] at pl;refine LG (I.ok.hd hc) pl λh' tk t' hk=>⟨.int ns.sum,H,I.kept hk,⟨t',?_⟩,q⟩;rw [preSum_eq,List.take_of_length_le (by simp)];rw [<-hi.numsOf];have e2:its=(intItems xs').toList:=by rw [<-e]
 rw [e2,nums_intItems]
section
variable{js:List Nat}{te:TE}{tc:TT}{σ:St}{H:Hp}{Q:VK}
theorem bD.atI{α:Type}{g:α->PyData}:∀{as:List α}{xs:List V},bD H (as.map g) xs->∀{i:Nat}{x:V},xs[i]?=some x->∃a,as[i]?=some a/\cA H (g a) x:=by
 intro as xs r i x e;obtain ⟨d,h1,h2⟩:=r.get e;rw [aH] at h1;cases q:as[i]? with
 | none=>rw [q] at h1;cases h1
 | some a=>rw [q] at h1;cases h1;exact ⟨a,rfl,h2⟩
theorem JM{K:PySem.W.Frag}{a:Addr}{xs:List V}{α:Type}{g:α->PyData}{as:List α}(r:bD H (as.map g) xs)(p:α->Bool)(hz:xs.length<=100000)(hl:H a=some (.lst xs))
  (ht:∀x c H' (Q':Bool->Hp->Prop),c∈as->cA H' (g c) x->bE H H'->(∀H5,bE H' H5->Q' (p c) H5)->tc (some x::slots σ js) H' Q')
  (he:∀x H' (Q':VK),Q' x H'->te (some x::slots σ js) H' Q')
  (hd:∀D ys H',H D=none->H' D=some (.lst ys)->bE H H'->bD H' ((as.filter p).map g) ys->Q (.ref D) H'):kQ (VO K a) σ js tc te H Q:=by
 unfold kQ;intro D hD;have hlen:xs.length=as.length:=by rw [r.len,aA]
 refine ⟨λi m ys H'=>m=xs.length-i/\i<=xs.length/\H' D=some (.lst ys)/\bE H H'/\bD H (((as.take i).filter p).map g) ys/\ys.length<=i,⟨xs.length,by simp,cM _,bI,bE.upd hD,bD.nil,aJ _⟩,?_⟩;rintro i m ys H2 ⟨rfl,hi,hD2,s2,ry,hy⟩;refine ⟨hD2,?_⟩;by_cases hlt:i<xs.length
 ·have hx:xs[i]?=some xs[i]:=aC hlt;refine .inr ⟨⟨xs,_,fM.of (s2 _ _ hl),hx⟩,aQ (m:=100000) Oo Dd,λx H3 hy3=>?_⟩;obtain ⟨rfl,hx3⟩:=hy3;have hx3:=hx3 xs (fM.of (s2 _ _ hl));obtain ⟨c,hc,rc⟩:=r.atI hx3;have hti:as.take (i+1)=as.take i++[c]:=by rw [fI,hc];rfl
  refine ⟨λb H4=>b=p c/\bE H3 H4,ht x c H3 _ (aZ hc) (rc.same s2) s2 λH5 s5=>⟨rfl,s5⟩,?_⟩;rintro b H4 ⟨rfl,s4⟩;by_cases hp:p c=true
  ·rw [if_pos hp];refine ⟨λy H5=>y=x/\H5=H4,he x H4 _ ⟨rfl,rfl⟩,?_⟩;rintro y H5 ⟨rfl,rfl⟩;refine ⟨s4 _ _ hD2,_,?_,rfl,hlt,bI,bE.thru hD (s2.trans s4) aR.self,?_,?_⟩
   ·omega
   ·rw [hti,List.filter_append,bO];have:List.filter p [c]=[c]:=by simp [hp]
    rw [this];exact bD.snoc ry rc
   ·rw [aX,List.length_singleton];omega
  ·rw [if_neg hp];refine ⟨s4 _ _ hD2,_,?_,rfl,hlt,s4 _ _ hD2,s2.trans s4,?_,?_⟩
   ·omega
   ·rw [hti,List.filter_append];have:List.filter p [c]=[]:=by simp [hp]
    rw [this,List.append_nil];exact ry
   ·omega
 ·have e:i=xs.length:=Oo;subst e;refine .inl ⟨⟨xs,fM.of (s2 _ _ hl),aJ _⟩,hd D ys H2 hD hD2 s2 ?_⟩;rw [hlen,cP] at ry;exact ry.same s2
end
end L2
namespace Mf
def lw(n d:Int):Int × Int:=(n/(Int.gcd n d:Int),d/(Int.gcd n d:Int))
structure PH(n d:Int):Prop where
 pos:0<d
 low:Int.gcd n d=1
theorem iK{n d:Int}(h:0<d):0<(Int.gcd n d:Int):=by
 have:=Int.gcd_pos_of_ne_zero_right n (Int.ne_of_gt h);omega
theorem iB{n d:Int}(h:0<d):PH (lw n d).1 (lw n d).2:=by
 have g:=iK (n:=n) h;refine ⟨?_,?_⟩
 ·exact Int.ediv_pos_of_pos_of_dvd h (Int.le_of_lt g) (Int.gcd_dvd_right n d)
 ·exact Int.gcd_ediv_gcd_ediv_gcd Oo
theorem UY{n d:Int}:(lw n d).1*(Int.gcd n d:Int)=n/\(lw n d).2*(Int.gcd n d:Int)=d :=
 ⟨Int.ediv_mul_cancel (Int.gcd_dvd_left n d),Int.ediv_mul_cancel (Int.gcd_dvd_right n d)⟩
theorem oK{n d:Int}:(lw n d).1*d=n*(lw n d).2:=by
 obtain ⟨e1,e2⟩:=UY (n:=n) (d:=d);generalize (lw n d).1=a at *;generalize (lw n d).2=b at *;generalize (Int.gcd n d:Int)=g at *;rw [<-e1,<-e2];rw [Int.mul_assoc,Int.mul_comm g b]
theorem GX{b a d:Int}(h:b ∣ a*d)(g:Int.gcd b a=1):b ∣ d:=by
 rw [<-Int.natAbs_dvd_natAbs,fZ] at h;rw [<-Int.natAbs_dvd_natAbs];rw [Int.gcd_eq_natAbs_gcd_natAbs] at g;exact Nat.Coprime.dvd_of_dvd_mul_left g h
theorem CD{a b c d:Int}(h1:PH a b)(h2:PH c d)(e:a*d=c*b):a=c/\b=d:=by
 have d1:b ∣ d:=by
  have:b ∣ a*d:=by rw [e];exact Int.dvd_mul_left c b
  exact GX this (by rw [Int.gcd_comm];exact h1.low)
 have d2:d ∣ b:=by
  have:d ∣ c*b:=by rw [<-e];exact Int.dvd_mul_left a d
  exact GX this (by rw [Int.gcd_comm];exact h2.low)
 have hb:=h1.pos;have hd:=h2.pos;have e1:b=d:=Int.dvd_antisymm (Int.le_of_lt hb) (Int.le_of_lt hd) d1 d2;subst e1;exact ⟨Int.eq_of_mul_eq_mul_right Oo e,rfl⟩
theorem AF{a b n d:Int}(h:PH a b)(hd:0<d)(e:a*d=n*b):lw n d=(a,b):=by
 have c:=oK (n:=n) (d:=d);have q:=CD (iB (n:=n) hd) h (by
  have hd':d≠0:=Oo;apply Int.eq_of_mul_eq_mul_right hd'
  calc (lw n d).1*b*d=((lw n d).1*d)*b:=by rw [Int.mul_assoc,Int.mul_comm b d,<-Int.mul_assoc]
   _=(n*(lw n d).2)*b:=by rw [c]
   _=(n*b)*(lw n d).2:=by rw [Int.mul_assoc,Int.mul_comm (lw n d).2 b,<-Int.mul_assoc]
   _=(a*d)*(lw n d).2:=by rw [e]
   _=a*(lw n d).2*d:=by rw [Int.mul_assoc,Int.mul_comm d,<-Int.mul_assoc])
 exact Prod.ext q.1 q.2
theorem SH{a b:Int}(h:PH a b):lw a b=(a,b):=AF h h.pos rfl
theorem mZ{u a b:Int}(h1:Int.gcd u a=1)(h2:Int.gcd u b=1):Int.gcd u (a*b)=1:=by
 rw [Int.gcd_eq_natAbs_gcd_natAbs] at *;rw [fZ];exact Nat.Coprime.mul_right h1 h2
theorem kO{a b c:Int}(h:Int.gcd a b=1)(d:c ∣ b):Int.gcd a c=1:=by
 have:=Int.gcd_dvd_gcd_of_dvd_right a d;rw [h] at this;exact Nat.eq_one_of_dvd_one this
theorem iL{a b c:Int}(h:Int.gcd a b=1)(d:c ∣ a):Int.gcd c b=1:=by
 rw [Int.gcd_comm] at *;exact kO h d
theorem RK{a b c d:Int}(h1:PH a b)(h2:PH c d) :
  let g:Int:=Int.gcd b d
  let u:=a*(d/g)+c*(b/g)
  let l:Int:=Int.gcd u g
  lw (a*d+c*b) (b*d)=(u/l,(b/g)*(d/l)):=by
 intro g u l;have hg:0<g:=iK h2.pos;have hl:0<l:=iK hg;obtain ⟨b',eb⟩:=Int.gcd_dvd_left b d;obtain ⟨d',ed⟩:=Int.gcd_dvd_right b d;have eb:b=g*b':=eb;have ed:d=g*d':=ed;have qb:b/g=b':=by rw [eb];exact Int.mul_ediv_cancel_left _ Oo
 have qd:d/g=d':=by rw [ed];exact Int.mul_ediv_cancel_left _ Oo
 have eu:u=a*d' + c*b':=by show a*(d/g)+c*(b/g)=_;rw [qb,qd]
 have cbd:Int.gcd b' d'=1:=by
  have:=Int.gcd_ediv_gcd_ediv_gcd (i:=b) (j:=d) (by have:0<(Int.gcd b d:Int):=hg;omega);have h:Int.gcd (b/g) (d/g)=1:=this
  rwa [qb,qd] at h
 have cab:Int.gcd a b'=1:=kO h1.low ⟨g,by rw [eb,Int.mul_comm]⟩;have ccd:Int.gcd c d'=1:=kO h2.low ⟨g,by rw [ed,Int.mul_comm]⟩;have ub:Int.gcd u b'=1:=by
  rw [eu,Int.add_comm,Int.gcd_mul_right_add_left,Int.gcd_mul_right_left_of_gcd_eq_one cab,Int.gcd_comm];exact cbd
 have ud:Int.gcd u d'=1:=by
  rw [eu,Int.gcd_mul_right_add_left,Int.gcd_mul_right_left_of_gcd_eq_one ccd];exact cbd
 obtain ⟨u',eu'⟩:=Int.gcd_dvd_left u g;obtain ⟨g',eg'⟩:=Int.gcd_dvd_right u g;have eu':u=l*u':=eu';have eg':g=l*g':=eg';have qu:u/l=u':=by rw [eu'];exact Int.mul_ediv_cancel_left _ Oo
 have qdl:d/l=g' * d':=by rw [ed,eg',Int.mul_assoc];exact Int.mul_ediv_cancel_left _ Oo
 have cug:Int.gcd u' g'=1:=by
  have:=Int.gcd_ediv_gcd_ediv_gcd (i:=u) (j:=g) (by have:0<(Int.gcd u g:Int):=hl;omega);have h:Int.gcd (u/l) (g/l)=1:=this;rw [qu] at h
  rwa [show g/l=g' from by rw [eg'];exact Int.mul_ediv_cancel_left _ Oo] at h
 rw [qu,qb,qdl];have hu':u' ∣ u:=⟨l,by rw [eu',Int.mul_comm]⟩;have hb':0<b':=by
  have:=h1.pos;rw [eb] at this;exact Int.pos_of_mul_pos_right this Oo
 have hd':0<d':=by
  have:=h2.pos;rw [ed] at this;exact Int.pos_of_mul_pos_right this Oo
 have hg':0<g':=by
  have:=hg;rw [eg'] at this;exact Int.pos_of_mul_pos_right this Oo
 refine AF ⟨Int.mul_pos hb' (Int.mul_pos hg' hd'),?_⟩ (Int.mul_pos h1.pos h2.pos) ?_
 ·exact mZ (iL ub hu') (mZ cug (iL ud hu'))
 ·have e1:a*d+c*b=g*(l*u'):=by
   rw [<-eu',eu,eb,ed];rw [Int.mul_add,Int.mul_left_comm a,Int.mul_left_comm c]
  rw [e1,eb,ed];generalize hG:g=G at *;rw [eg'];simp only [Int.mul_assoc,Int.mul_left_comm,Int.mul_comm]
theorem KY{a b c d:Int}(h1:PH a b)(h2:PH c d) :
  let f:Int:=Int.gcd a d
  let s:Int:=Int.gcd c b
  lw (a*c) (b*d)=((a/f)*(c/s),(b/s)*(d/f)):=by
 intro f s;have hf:0<f:=iK h2.pos;have hs:0<s:=iK h1.pos;obtain ⟨a',ea⟩:=Int.gcd_dvd_left a d;obtain ⟨d',ed⟩:=Int.gcd_dvd_right a d;obtain ⟨c',ec⟩:=Int.gcd_dvd_left c b;obtain ⟨b',eb⟩:=Int.gcd_dvd_right c b;have ea:a=f*a':=ea;have ed:d=f*d':=ed;have ec:c=s*c':=ec;have eb:b=s*b':=eb;have qa:a/f=a':=by rw [ea];exact Int.mul_ediv_cancel_left _ Oo
 have qd:d/f=d':=by rw [ed];exact Int.mul_ediv_cancel_left _ Oo
 have qc:c/s=c':=by rw [ec];exact Int.mul_ediv_cancel_left _ Oo
 have qb:b/s=b':=by rw [eb];exact Int.mul_ediv_cancel_left _ Oo
 have cad:Int.gcd a' d'=1:=by
  have:=Int.gcd_ediv_gcd_ediv_gcd (i:=a) (j:=d) (by have:0<(Int.gcd a d:Int):=hf;omega);have h:Int.gcd (a/f) (d/f)=1:=this
  rwa [qa,qd] at h
 have ccb:Int.gcd c' b'=1:=by
  have:=Int.gcd_ediv_gcd_ediv_gcd (i:=c) (j:=b) (by have:0<(Int.gcd c b:Int):=hs;omega);have h:Int.gcd (c/s) (b/s)=1:=this
  rwa [qc,qb] at h
 have cab:Int.gcd a' b'=1:=iL (kO h1.low ⟨s,by rw [eb,Int.mul_comm]⟩) ⟨f,by rw [ea,Int.mul_comm]⟩;have ccd:Int.gcd c' d'=1:=iL (kO h2.low ⟨f,by rw [ed,Int.mul_comm]⟩) ⟨s,by rw [ec,Int.mul_comm]⟩;have hb':0<b':=by
  have:=h1.pos;rw [eb] at this;exact Int.pos_of_mul_pos_right this Oo
 have hd':0<d':=by
  have:=h2.pos;rw [ed] at this;exact Int.pos_of_mul_pos_right this Oo
 rw [qa,qb,qc,qd];refine AF ⟨Int.mul_pos hb' hd',?_⟩ (Int.mul_pos h1.pos h2.pos) ?_
 ·have x1:Int.gcd a' (b' * d')=1:=mZ cab cad;have x2:Int.gcd c' (b' * d')=1:=mZ ccb ccd;rw [Int.gcd_comm] at x1 x2 ⊢;exact mZ x1 x2
 ·rw [ea,eb,ec,ed];simp only [Int.mul_assoc,Int.mul_left_comm,Int.mul_comm]
end Mf
namespace Mf
abbrev Fr:=Int × Int
def nA(x y:Fr):Fr:=lw (x.1*y.2+y.1*x.2) (x.2*y.2)
def pD(fs:List Fr):Fr:=fs.foldl nA (0,1)
def dL(f:Fr):Prop:=PH f.1 f.2
theorem mP{α:Type}{P:List α->Prop}(h0:P [])(hs:∀l a,P l->P (l++[a]))(l:List α):P l:=by
 have:∀r:List α,P r.reverse:=by
  intro r
  induction r with
  | nil=>exact h0
  | cons a r ih=>rw [List.reverse_cons];exact hs _ _ ih
 have:=this l.reverse
 rwa [List.reverse_reverse] at this
theorem lO(l:List Fr)(a:Fr):pD (l++[a])=nA (pD l) a:=by unfold pD;rw [List.foldl_append];rfl
theorem BG(l:List Fr):(∀f∈l,dL f)->dL (pD l):=by
 refine mP (P:=λl=>(∀f∈l,dL f)->dL (pD l)) (λ_=>⟨Dd,Dd⟩) (λl a ih h=>?_) l;rw [lO];have h1:=ih λf hf=>h f (cJ _ hf);have h2:=h a (bL _ aL);exact iB (Int.mul_pos h1.pos h2.pos)
theorem GG{n d:Int}(h:0<d):(lw n d).2<=d/\(lw n d).1.natAbs<=n.natAbs:=by
 obtain ⟨e1,e2⟩:=UY (n:=n) (d:=d);have g:=iK (n:=n) h;have p:=(iB (n:=n) h).pos;generalize (lw n d).1=a at *;generalize (lw n d).2=b at *;generalize (Int.gcd n d:Int)=G at *;refine ⟨?_,?_⟩
 ·rw [<-e2];have:=Int.mul_le_mul_of_nonneg_left (show (1:Int)<=G by omega) (Int.le_of_lt p);simpa using this
 ·rw [<-e1,fZ];exact Nat.le_mul_of_pos_right _ Oo
end Mf
namespace Mf
theorem MZ{n d n' d':Int}(hd:0<d)(hd':0<d')(e:n*d'=n' * d):lw n d=lw n' d':=by
 have h:=iB (n:=n') hd';have c:=oK (n:=n') (d:=d');generalize lw n' d'=L at c h;refine AF (a:=L.1) (b:=L.2) h hd ?_;refine Int.eq_of_mul_eq_mul_right (a:=d') Oo ?_
 calc L.1*d*d'=(L.1*d')*d:=by ac_rfl
  _=n' * L.2*d:=by rw [c]
  _=(n' * d)*L.2:=by ac_rfl
  _=n*d' * L.2:=by rw [e]
  _=n*L.2*d':=by ac_rfl
def jB(f g:Fr):Fr:=lw (f.1*g.1) (f.2*g.2)
theorem iH{f g:Fr}(h:dL f)(h':dL g):dL (jB f g):=iB (Int.mul_pos h.pos h'.pos)
theorem YJ{a b c d:Int}(hb:0<b)(hd:0<d):jB (lw a b) (lw c d)=lw (a*c) (b*d):=by
 have h1:=(iB (n:=a) hb).pos;have h2:=(iB (n:=c) hd).pos;refine MZ (Int.mul_pos h1 h2) (Int.mul_pos hb hd) ?_;have e1:=oK (n:=a) (d:=b);have e2:=oK (n:=c) (d:=d);generalize lw a b=L at *;generalize lw c d=M at *
 calc L.1*M.1*(b*d)=(L.1*b)*(M.1*d):=by ac_rfl
  _=(a*L.2)*(c*M.2):=by rw [e1,e2]
  _=a*c*(L.2*M.2):=by ac_rfl
def tH(f:Fr)(c:Nat):Fr:=(f.1^c,f.2^c)
theorem lZ{f:Fr}(h:dL f):∀c:Nat,dL (tH f c)
 | 0=>⟨by show 0<f.2^0;rw [Int.pow_zero];decide,by show Int.gcd (f.1^0) (f.2^0)=1;rw [Int.pow_zero,Int.pow_zero];decide⟩
 | c+1=>by
  have ih:=lZ h c;have k:∀n:Nat,Int.gcd f.1 (f.2^n)=1:=λn=>by
   induction n with
   | zero=>rw [Int.pow_zero];exact Int.gcd_one_right _
   | succ n ih=>rw [Int.pow_succ];exact mZ ih h.low
  refine ⟨?_,?_⟩
  ·show 0<f.2^(c+1);rw [Int.pow_succ];exact Int.mul_pos ih.pos h.pos
  ·show Int.gcd (f.1^(c+1)) (f.2^(c+1))=1;have k2:∀n:Nat,Int.gcd (f.2^(c+1)) (f.1^n)=1:=λn=>by
    induction n with
    | zero=>rw [Int.pow_zero];exact Int.gcd_one_right _
    | succ n ih=>rw [show f.1^(n+1)=f.1^n*f.1 from Int.pow_succ ..];exact mZ ih (by rw [Int.gcd_comm];exact k (c+1))
   rw [Int.gcd_comm];exact k2 (c+1)
def rO(zs:List (Fr × Nat)):Fr:=zs.foldl (λp q=>(p.1*q.1.1^q.2,p.2*q.1.2^q.2)) (1,1)
def pZ(zs:List (Fr × Nat)):Fr:=zs.foldl (λp q=>jB p (tH q.1 q.2)) (1,1)
theorem rN(l:List (Fr × Nat))(a:Fr × Nat):rO (l++[a])=((rO l).1*a.1.1^a.2,(rO l).2*a.1.2^a.2):=by unfold rO;rw [List.foldl_append];rfl
theorem rP(l:List (Fr × Nat))(a:Fr × Nat):pZ (l++[a])=jB (pZ l) (tH a.1 a.2):=by unfold pZ;rw [List.foldl_append];rfl
theorem uG(l:List (Fr × Nat)):(∀z∈l,dL z.1)->0<(rO l).2:=by
 induction l using mP with
 | h0=>intro _;decide
 | hs l a ih =>
  intro h;rw [rN];exact Int.mul_pos (ih λf hf=>h f (cJ _ hf)) (lZ (h a (by simp)) a.2).pos
theorem FK(l:List (Fr × Nat)):(∀z∈l,dL z.1)->pZ l=lw (rO l).1 (rO l).2:=by
 induction l using mP with
 | h0=>intro _;rfl
 | hs l a ih =>
  intro h;have hl:∀f∈l,dL f.1:=λf hf=>h f (cJ _ hf);have ha:=lZ (h a (by simp)) a.2;rw [rP,rN,ih hl];have e:tH a.1 a.2=lw (a.1.1^a.2) (a.1.2^a.2):=(SH ha).symm;rw [e,YJ (uG l hl) (show 0<a.1.2^a.2 from ha.pos)]
theorem uH(l:List (Fr × Nat))(h:∀z∈l,dL z.1):dL (pZ l):=by rw [FK l h];exact iB (uG l h)
theorem sC{x:Int}{B:Nat}(h:x.natAbs<=2^B)(c:Nat):(x^c).natAbs<=2^(B*c):=by
 rw [Int.natAbs_pow,Nat.pow_mul];exact Nat.pow_le_pow_left h c
theorem PR{B:Nat}(l:List (Fr × Nat)):(∀z∈l,z.1.1.natAbs<=2^B/\z.1.2.natAbs<=2^B)->(rO l).1.natAbs<=2^(B*(l.map (·.2)).sum)/\(rO l).2.natAbs<=2^(B*(l.map (·.2)).sum):=by
 induction l using mP with
 | h0=>intro _;exact ⟨Nat.one_le_two_pow,Nat.one_le_two_pow⟩
 | hs l a ih =>
  intro h;obtain ⟨i1,i2⟩:=ih λf hf=>h f (cJ _ hf);obtain ⟨a1,a2⟩:=h a (by simp);rw [rN,bO,List.sum_append,show ([a].map (·.2)).sum=a.2 by simp,Nat.mul_add,Nat.pow_add];exact ⟨by show ((rO l).1*a.1.1^a.2).natAbs<=_;rw [fZ];exact Nat.mul_le_mul i1 (sC a1 _),by show ((rO l).2*a.1.2^a.2).natAbs<=_;rw [fZ];exact Nat.mul_le_mul i2 (sC a2 _)⟩
theorem PU{B:Nat}(l:List (Fr × Nat))(hl:∀z∈l,dL z.1)(h:∀z∈l,z.1.1.natAbs<=2^B/\z.1.2.natAbs<=2^B):(pZ l).1.natAbs<=2^(B*(l.map (·.2)).sum)/\(pZ l).2.natAbs<=2^(B*(l.map (·.2)).sum):=by
 obtain ⟨h1,h2⟩:=PR l h;rw [FK l hl];have hp:=uG l hl;obtain ⟨l1,l2⟩:=GG (n:=(rO l).1) hp;have:=(iB (n:=(rO l).1) hp).pos;exact ⟨aW l2 h1,Oo⟩
end Mf
namespace Mf
theorem zH:∀(l:List Nat) (j v x:Nat),l[j]?=some x->(l.set j v).sum+x=l.sum+v
 | [],j,v,x,h=>by simp at h
 | a::l,0,v,x,h=>by
  have:a=x:=by simpa using h
  subst this;simp only [List.set_cons_zero,List.sum_cons];omega
 | a::l,j+1,v,x,h=>by
  have:=zH l j v x (by simpa using h);simp only [List.set_cons_succ,List.sum_cons];omega
def cta:Nat->Nat->List (List Nat)
 | 0,_=>[]
 | 1,m=>[[m]]
 | F+2,m=>(List.range (m+1)).flatMap λk=>(cta (F+1) (m-k)).map λc=>k::c
theorem hJ:∀{F m:Nat}{c:List Nat},c∈cta F m->c.length=F/\c.sum=m
 | 0,m,c,h=>by cases h
 | 1,m,c,h=>by
  have:c=[m]:=by simpa [cta] using h
  subst this;simp
 | F+2,m,c,h=>by
  obtain ⟨k,hk,h⟩:=List.mem_flatMap.mp h;obtain ⟨d,hd,rfl⟩:=aD.mp h;have hk:=dC.mp hk;obtain ⟨h1,h2⟩:=hJ hd;refine ⟨by simp [h1],?_⟩;rw [List.sum_cons];omega
end Mf
namespace Mf
end Mf
namespace L2
open PySem PySem.Spec PyProof.Rows
theorem VW(K:PySem.W.Frag){X:Cx}{T id:String}{o e:Expr}{es:List Expr}{to:TE}{t:TA}{name:Str}{apos cpos:Pos}{r:V->List V->Hp->VK->Prop}(pa:PlainAttrs T)(slot:Slot T name id)(hty:typeOf (.builtin id)=pure (.type "method_descriptor"))(hm:VN X id r)(ho:hZ X o to)(ha:HN X (e::es) t)(hK:X.K=K:=by rfl)
  (hbase:attributeBase o name X.env (eval o X.env)=eval o X.env:=by rfl)
  (hfew:((backTo cpos (starEach (e::es) X.env)).all (λx=>!x.1)&&(backToKw cpos (keywordEach [] X.env)).all (λx=>x.1.isSome)
   && decide ((e::es).length+([]:List Keyword).length+(if ([]:List Keyword).isEmpty then 0 else 1)<30))=true:=by rfl)
  (hline:(apos.endLine == cpos.line)=true:=by rfl) (hs:starEach (e::es) X.env=(false,eval e X.env)::starEach es X.env:=by first | exact fW | exact eE | exact se_BoolOp | exact gD | exact eO | exact se_IfExp | exact se_Dict | exact eD | exact eP | exact fX | exact se_Attribute | exact dE | exact iJ | exact gC | exact se_JoinedStr | exact se_GeneratorExp) (hplain:(backTo cpos (starEach es X.env)).any (·.1)=false:=by repeat (first | exact sT | refine pC (by first | exact fW | exact eE | exact se_BoolOp | exact gD | exact eO | exact se_IfExp | exact se_Dict | exact eD | exact eP | exact fX | exact se_Attribute | exact dE | exact iJ | exact gC | exact se_JoinedStr | exact se_GeneratorExp) ?_)) :
  hZ X (.Call (.Attribute o name apos) (e::es) [] cpos) (tBM K T r to t):=by subst hK;exact ⟨UW pa slot hty hm ho.p ha.p hbase hfew hline hs hplain⟩
theorem yQ{X:Cx}{e:Expr}{t:TT}(h:HM X e t):HM X e (qC t):=⟨h.p.mono⟩
end L2
namespace HT
open PySem PyProof.Rows
section
variable{prog:Program}{w:World}{A:Around}{E:Value->Shared->Prop}{s:Shared}
theorem pF{t sl:Addr}{items:Array Value}{vl vu:Value}{lo hi:Option Int}{Q:Value->Shared->Prop}(ht:IsTup s.heap t items)(hs:s.heap.IsSliceOf sl vl vu .none)(pl:IsPart vl lo)(pu:IsPart vu hi)
  (h0:iE items.size 0 lo=0) (h1:iE items.size items.size hi=items.size) (h:Q (.ref t) s):wpAny (model prog w) A (getItem (.ref t) (.ref sl)) Q E s:=by
 obtain ⟨os,hos,hcs,hds⟩:=id hs;have hTs:s.TypeIs (.ref sl) "slice" := ⟨os,hos,hcs⟩;have hTt:s.TypeIs (.ref t) "tuple" := ht.typeIs;unfold getItem
 try with_reducible refine wpAny_holding ?_
 first | refine wpAny_bind (wpAny_pure ?_) | skip
 refine wpAny_bind (wpAny_sequenceKey ht.typeIs Dd ?_);refine wpAny_bind (wpAny_callSpecial?_slot (name:=Str.ofString "__getitem__") ht.typeIs PyProof.Rows.slot_tuple_getitem
  (wpAny_call_entry PyProof.Rows.slot_tuple_getitem ht.typeIs entry_tuple_getitem ?_ (args_tuple_getitem _ _)))
 show wpAny _ _ (Builtin.Tuple.tupleItemsOf (.ref t) >>= _) _ _ s;refine wpAny_bind (tupleItemsOf_ ht ?_);refine wpAny_bind (wpAny_typeOf hTs ?_);rw [if_pos Dd];refine wpAny_bind (lY hs pl pu ?_);have hyes:(((iE items.size 0 lo:Nat):Int) == 0&&(1:Int) == 1&&(iE items.size items.size hi-iE items.size 0 lo) == items.size)=true:=by
  rw [h0,h1];simp
 show wpAny _ _ (if (((iE items.size 0 lo:Nat):Int) == 0&&(1:Int) == 1&&(iE items.size items.size hi-iE items.size 0 lo) == items.size)=true then _ else _) _ _ s;rw [if_pos hyes];unfold Builtin.Tuple.tupleIsExact;refine wpAny_bind (wpAny_bind (wpAny_typeOf hTt (wpAny_pure ?_)));rw [if_pos Dd];refine wpAny_bind (wpAny_rule ?_)
 first
  | exact wpAny_pure ⟨_,rfl,wpAny_pure h⟩
  | exact wpAny_bind (wpAny_pure (wpAny_pure ⟨_,rfl,wpAny_pure h⟩))
end
end HT
namespace L2
open PySem PySem.W PySem.Spec PySem.Calls PyProof.Rows
theorem EV{xs:List V}{lo hi:Option Int}(h0:HT.iE xs.length 0 lo=0)(h1:HT.iE xs.length xs.length hi=xs.length):sN xs lo hi=xs:=by
 unfold sN;rw [h0,h1];simp
section
variable{X:Cx}
@[irreducible] def BU(K:PySem.W.Frag):V->Option Int->Option Int->Hp->VK->Prop:=λx lo hi H Q=>∃a xs,x=.ref a/\H a=some (.tup xs)/\∀c H',bE H H'->H' c=some (.tup (sN xs lo hi))->Q (.ref c) H'
theorem tR(K:PySem.W.Frag)(hK:X.K=K:=by rfl):SlR X (BU K):=by
 unfold BU;subst hK;intro pins s σ H x v vl vu lo hi sl Q I rx hs pl pu h;obtain ⟨a,xs,rfl,hx,q⟩:=h;by_cases hw:HT.iE xs.length 0 lo=0/\HT.iE xs.length xs.length hi=xs.length
 ·cases rx;obtain ⟨its,r,ht,hz⟩:=I.tuple (fF.of hx);have hlen:its.toArray.size=xs.length:=by rw [bC];exact r.length.symm
  refine ⟨"tuple",_,PyProof.Rows.slot_tuple_getitem.lookup,ht.typeIs,?_⟩;refine HT.pF ht hs pl pu (by rw [hlen];exact hw.1) (by rw [hlen];exact hw.2) ?_;exact ⟨.ref a,H,I,rfl,q a H (bE.refl _) (by rw [EV hw.1 hw.2];exact hx)⟩
 ·exact WC pins s σ H (.ref a) v vl vu lo hi sl Q I rx hs pl pu ⟨a,xs,rfl,fF.of hx,hw,λp hp=>q p _ (bE.upd hp) bI⟩
theorem LQ{K:PySem.W.Frag}{H:Hp}{a:Addr}{xs:List V}{k:Nat}{Q:VK}(h:H a=some (.tup xs))(q:∀c H',bE H H'->H' c=some (.tup (xs.take k))->Q (.ref c) H'):BU K (.ref a) none (some (k:Int)) H Q:=by
 unfold BU;exact ⟨a,xs,rfl,h,λc H' s e=>q c H' s (by rw [e,HC])⟩
theorem LP{K:PySem.W.Frag}{H:Hp}{a:Addr}{xs:List V}{k:Nat}{Q:VK}(h:H a=some (.tup xs))(q:∀c H',bE H H'->H' c=some (.tup (xs.drop k))->Q (.ref c) H'):BU K (.ref a) (some (k:Int)) none H Q:=by
 unfold BU;exact ⟨a,xs,rfl,h,λc H' s e=>q c H' s (by rw [e,SZ])⟩
end
end L2
namespace HT
open PySem PySem.W PyProof.Rows
def dH{α:Type}(n:Nat)(lt:Nat->Nat->Bool)(R:α->Prop):KasT α->Prop
 | .ret a=>R a
 | .ask i j k=>i<n/\j<n/\dH n lt R (k (lt i j))
section
variable{n:Nat}{lt:Nat->Nat->Bool}
theorem dH.bind{α β:Type}{R:α->Prop}{S:β->Prop}{f:α->KasT β}:∀{t:KasT α},dH n lt R t->(∀a,R a->dH n lt S (f a))->dH n lt S (t.bind f)
 | .ret a,h,k=>k a h
 | .ask i j t,⟨h1,h2,h3⟩,k=>⟨h1,h2,dH.bind (t:=t (lt i j)) h3 k⟩
theorem dH.wp{α:Type}{R:α->Prop}{cmp:Nat->Nat->(Bool->Shared->Prop)->Shared->Prop}{Q:α->Shared->Prop}{s:Shared}(hc:∀i j C,i<n->j<n->C (lt i j) s->cmp i j C s)(q:∀a,R a->Q a s) :
  ∀{t:KasT α},dH n lt R t->t.kasWp cmp Q s
 | .ret a,h=>q a h
 | .ask i j t,⟨h1,h2,h3⟩=>hc i j _ h1 h2 (dH.wp (t:=t (lt i j)) hc q h3)
def fL(n:Nat)(p:Array Nat):Prop:=p.Perm (List.toArray (List.range n))
theorem fL.bd{p:Array Nat}(g:fL n p)(hn:0<n)(i:Nat):p.getD i 0<n:=by
 by_cases hi:i<p.size
 ·have e:p.getD i 0=p[i]:=by simp [Array.getD,hi]
  rw [e];have m:p[i]∈List.toArray (List.range n):=(Array.Perm.mem_iff g).mp (Array.getElem_mem hi);simpa using m
 ·have e:p.getD i 0=0:=by simp [Array.getD,hi]
  rw [e];exact hn
theorem fL.rev{p:Array Nat}(g:fL n p)(i j:Nat):fL n (kas_rev p i j):=(mirror_perm p i j _).trans g
theorem fL.bub{p:Array Nat}(g:fL n p)(i j:Nat):fL n (bubble p i j):=(bubble_perm p i j).trans g
theorem AZ{p:Array Nat}(g:fL n p)(hn:0<n):∀(f m:Nat),dH n lt (λ_=>True) (kas_asc p f m)
 | 0,m=>True.intro
 | f+1,m=>⟨g.bd hn _,g.bd hn _,by
  cases lt (p.getD m 0) (p.getD (m-1) 0) with
  | true=>exact True.intro
  | false=>exact AZ g hn f (m+1)⟩
theorem rJ(hn:0<n):∀(f:Nat) {p:Array Nat}(g:fL n p) (m q:Nat),dH n lt (λr=>fL n r.1) (kas_desc f p m q)
 | 0,p,g,m,q=>g
 | f+1,p,g,m,q=>by
  refine ⟨g.bd hn _,g.bd hn _,?_⟩;cases lt (p.getD m 0) (p.getD (m-1) 0) with
  | true =>
   show dH n lt _ (if q > 0 then _ else _);split
   ·exact rJ hn f (g.rev _ _) _ _
   ·exact rJ hn f g _ _
  | false =>
   refine ⟨g.bd hn _,g.bd hn _,?_⟩;cases lt (p.getD (m-1) 0) (p.getD m 0) with
   | true=>exact g
   | false=>exact rJ hn f g _ _
theorem yK{p:Array Nat}(g:fL n p)(hn:0<n)(m r:Nat):dH n lt (λr=>fL n r.2) (kas_tail3 m r p):=by
 unfold kas_tail3;exact (AZ (g.rev 0 m) hn _ _).bind λ_ _=>g.rev 0 m
theorem rH{p:Array Nat}(g:fL n p)(hn:0<n)(m r:Nat):dH n lt (λr=>fL n r.2) (kas_descPart m r p):=by
 unfold kas_descPart;refine (rJ hn _ g _ _).bind λr hr=>?_;split
 ·exact yK (fL.rev hr _ _) hn _ _
 ·exact yK hr hn _ _
theorem JW{p:Array Nat}(g:fL n p)(hn:0<n)(m:Nat):dH n lt (λr=>fL n r.2) (kas_count m p):=by
 unfold kas_count;refine (AZ g hn _ _).bind λk _=>?_;split
 ·exact g
 ·split
  ·refine ⟨g.bd hn _,g.bd hn _,?_⟩;cases lt (p.getD 0 0) (p.getD (k-1) 0) with
   | true=>exact g
   | false=>exact rH (g.rev _ _) hn _ _
  ·exact rH g hn _ _
theorem sU{p:Array Nat}(g:fL n p)(hn:0<n)(k:Nat):∀(f l r:Nat),dH n lt (λ_=>True) (kas_place p k f l r)
 | 0,l,r=>True.intro
 | f+1,l,r=>by
  unfold kas_place;split
  ·exact True.intro
  ·refine ⟨g.bd hn _,g.bd hn _,?_⟩;cases lt (p.getD k 0) (p.getD ((l+r)/2) 0) with
   | true=>exact sU g hn k f _ _
   | false=>exact sU g hn k f _ _
theorem HJ(hn:0<n):∀(f:Nat) {p:Array Nat}(g:fL n p) (k:Nat),dH n lt (fL n) (kas_bin f p k)
 | 0,p,g,k=>g
 | f+1,p,g,k=>by
  unfold kas_bin;exact (sU g hn k _ _ _).bind λl _=>HJ hn f (g.bub _ _) _
theorem OP(hn:0<n):dH n lt (fL n) (kas_sort n):=by
 unfold kas_sort;refine (JW (Array.Perm.refl _) hn n).bind λr hr=>?_;split
 ·exact HJ hn _ hr _
 ·exact hr
end
structure BD(n:Nat)(lt:Nat->Nat->Bool):Prop where
 tot:∀i j,i<n->j<n->i≠j->lt i j=false->lt j i=true
 tra:∀i j k,lt i j=true->lt j k=true->lt i k=true
def wL(lt:Nat->Nat->Bool)(p:Array Nat)(m:Nat):Prop:=∀a b,a<b->b<m->lt (p.getD a 0) (p.getD b 0)=true
def VP(lt:Nat->Nat->Bool)(p:Array Nat)(m:Nat):Prop:=∀a b,a<b->b<m->lt (p.getD b 0) (p.getD a 0)=true
section
variable{n:Nat}{lt:Nat->Nat->Bool}
theorem dH.mono{α:Type}{R S:α->Prop}(k:∀a,R a->S a):∀{t:KasT α},dH n lt R t->dH n lt S t
 | .ret a,h=>k a h
 | .ask i j t,⟨h1,h2,h3⟩=>⟨h1,h2,dH.mono k (t:=t (lt i j)) h3⟩
theorem fL.size{p:Array Nat}(g:fL n p):p.size=n:=by
 have:=(Array.perm_iff_toList_perm.mp g).length_eq;simpa using this
theorem fL.ne{p:Array Nat}(g:fL n p){i j:Nat}(hi:i<n)(hj:j<n)(h:i≠j):p.getD i 0≠p.getD j 0:=by
 have hn:p.toList.Nodup:=(Array.perm_iff_toList_perm.mp g).nodup_iff.mpr (by simpa using List.nodup_range);have hs:=g.size;have e1:p.getD i 0=p.toList[i]'(by simpa [hs] using hi):=by simp [Array.getD,hs,hi]
 have e2:p.getD j 0=p.toList[j]'(by simpa [hs] using hj):=by simp [Array.getD,hs,hj]
 rw [e1,e2];intro e;exact h ((List.getElem_inj hn).mp e)
theorem wL.one{p:Array Nat}:wL lt p 1:=λa b h1 h2=>Oo
theorem wL.more(O:BD n lt){p:Array Nat}(g:fL n p){m:Nat}(h:wL lt p m)(h1:1<=m)(hm:m<n)(e:lt (p.getD m 0) (p.getD (m-1) 0)=false):wL lt p (m+1):=λa b hab hb=>by
 by_cases q:b<m
 ·exact h a b hab q
 ·have e':b=m:=Oo;subst e';have l1:lt (p.getD (b-1) 0) (p.getD b 0)=true:=O.tot _ _ (g.bd Oo _) (g.bd Oo _) (g.ne Oo Oo Oo) e;by_cases r:a=b-1
  ·rw [r];exact l1
  ·exact O.tra _ _ _ (h a (b-1) Oo Oo) l1
theorem AY(O:BD n lt){p:Array Nat}(g:fL n p):∀(f m:Nat),1<=m->m+f<=n->wL lt p m->dH n lt (λk=>m<=k/\k<=m+f/\wL lt p k/\(k<m+f->lt (p.getD k 0) (p.getD (k-1) 0)=true)) (kas_asc p f m)
 | 0,m,_,_,h=>⟨aJ _,aJ _,h,λq=>Oo⟩
 | f+1,m,h1,hm,h=>by
  refine ⟨g.bd Oo _,g.bd Oo _,?_⟩;cases e:lt (p.getD m 0) (p.getD (m-1) 0) with
  | true=>exact ⟨aJ _,Oo,h,λ_=>e⟩
  | false =>
   refine (show dH n lt _ (kas_asc p f (m+1)) from ?_);have ih:=AY O g f (m+1) Oo Oo (h.more O g h1 Oo e);exact dH.mono (λk ⟨a1,a2,a3,a4⟩=>⟨Oo,Oo,a3,λq=>a4 Oo⟩) ih
theorem VP.more(O:BD n lt){p:Array Nat}{m:Nat}(h:VP lt p m)(h1:1<=m)(e:lt (p.getD m 0) (p.getD (m-1) 0)=true):VP lt p (m+1):=λa b hab hb=>by
 by_cases q:b<m
 ·exact h a b hab q
 ·have e':b=m:=Oo;subst e';by_cases r:a=b-1
  ·rw [r];exact e
  ·exact O.tra _ _ _ e (h a (b-1) Oo Oo)
theorem CS(O:BD n lt){p:Array Nat}(g:fL n p):∀(f m:Nat),1<=m->m+f<=n->VP lt p m->dH n lt (λr=>r.1=p/\r.2.2=0/\m<=r.2.1/\r.2.1<=m+f/\VP lt p r.2.1) (kas_desc f p m 0)
 | 0,m,_,_,h=>⟨rfl,rfl,aJ _,aJ _,h⟩
 | f+1,m,h1,hm,h=>by
  refine ⟨g.bd Oo _,g.bd Oo _,?_⟩;cases e:lt (p.getD m 0) (p.getD (m-1) 0) with
  | true =>
   refine (show dH n lt _ (kas_desc f p (m+1) 0) from ?_);exact dH.mono (λr ⟨a1,a2,a3,a4,a5⟩=>⟨a1,a2,Oo,Oo,a5⟩) (CS O g f (m+1) Oo Oo (h.more O h1 e))
  | false =>
   refine ⟨g.bd Oo _,g.bd Oo _,?_⟩;rw [O.tot _ _ (g.bd Oo _) (g.bd Oo _) (g.ne Oo Oo Oo) e];exact ⟨rfl,rfl,aJ _,(show m<=m+(f+1) by omega),h⟩
theorem LZ{p:Array Nat}{m i:Nat}(hm:m<=p.size):(kas_rev p 0 m).getD i 0=if i<m then p.getD (m-1-i) 0 else p.getD i 0:=by
 have e:=getElem?_mirror (xs:=p) (i:=0) (j:=m) hm (m/2) Oo i;have e':(kas_rev p 0 m)[i]?=if (0<=i/\i<0+m/2)\/(m-m/2<=i/\i<m) then p[0+m-1-i]? else p[i]?:=e
 have g:∀(q:Array Nat) (k:Nat),q.getD k 0=q[k]?.getD 0:=λq k=>by simp [Array.getD_eq_getD_getElem?]
 rw [g,e',g,g];by_cases h:i<m
 ·rw [if_pos h];by_cases h2:(0<=i/\i<0+m/2)\/(m-m/2<=i/\i<m)
  ·rw [if_pos h2,show 0+m-1-i=m-1-i by omega]
  ·rw [if_neg h2,show m-1-i=i by omega]
 ·rw [if_neg h,if_neg Oo]
theorem VP.rev{p:Array Nat}{m:Nat}(h:VP lt p m)(hm:m<=p.size):wL lt (kas_rev p 0 m) m:=λa b hab hb=>by
 rw [LZ hm,LZ hm,if_pos Oo,if_pos hb];exact h _ _ Oo Oo
theorem JK(O:BD n lt){p:Array Nat}(g:fL n p)(hn:2<=n):dH n lt (λr=>fL n r.2/\1<=r.1/\r.1<=n/\wL lt r.2 r.1) (kas_count n p):=by
 unfold kas_count;refine (AY O g (n-1) 1 (aJ _) Oo wL.one).bind λk ⟨k1,k2,k3,k4⟩=>?_;split
 ·exact ⟨g,k1,by show k<=n;omega,k3⟩
 ·rename_i hk
  have hkn:k≠n:=λe=>hk (by simp [e]);split
  ·refine ⟨g.bd Oo _,g.bd Oo _,?_⟩;rw [k3 0 (k-1) Oo Oo];exact ⟨g,k1,by show k<=n;omega,k3⟩
  ·have e1:k=1:=Oo;subst e1;unfold kas_descPart;have d2:VP lt p 2:=λa b hab hb=>by
    have e:a=0/\b=1:=Oo;rw [e.1,e.2];exact k4 Oo
   refine (CS O g (n-2) 2 Oo Oo d2).bind λr ⟨r1,r2,r3,r4,r5⟩=>?_;obtain ⟨p',m,q⟩:=r;dsimp only at r1 r2 r3 r4 r5 ⊢;subst r1 r2;rw [if_neg Dd];unfold kas_tail3;have hs:=g.size;refine (AY O (g.rev 0 m) (n-m) m Oo Oo (r5.rev Oo)).bind λk' ⟨a1,a2,a3,_⟩=>?_;exact ⟨g.rev 0 m,(show 1<=k' by omega),(show k'<=n by omega),a3⟩
theorem sD(O:BD n lt){p:Array Nat}(g:fL n p){k:Nat}(hk:k<n)(h:wL lt p k):∀(f l r:Nat),l<=r->r<=k->r-l<=f->(∀a,a<l->lt (p.getD a 0) (p.getD k 0)=true)->(∀a,r<=a->a<k->lt (p.getD k 0) (p.getD a 0)=true) ->
  dH n lt (λm=>m<=k/\(∀a,a<m->lt (p.getD a 0) (p.getD k 0)=true)/\∀a,m<=a->a<k->lt (p.getD k 0) (p.getD a 0)=true) (kas_place p k f l r)
 | 0,l,r,h1,h2,h3,h4,h5=>⟨Oo,h4,λa q1 q2=>h5 a Oo q2⟩
 | f+1,l,r,h1,h2,h3,h4,h5=>by
  unfold kas_place;split
  ·exact ⟨Oo,h4,λa q1 q2=>h5 a Oo q2⟩
  ·refine ⟨g.bd Oo _,g.bd Oo _,?_⟩;cases e:lt (p.getD k 0) (p.getD ((l+r)/2) 0) with
   | true =>
    refine (show dH n lt _ (kas_place p k f l ((l+r)/2)) from ?_);refine sD O g hk h f l ((l+r)/2) Oo Oo Oo h4 λa q1 q2=>?_;by_cases q:a=(l+r)/2
    ·rw [q];exact e
    ·exact O.tra _ _ _ e (h _ _ Oo q2)
   | false =>
    refine (show dH n lt _ (kas_place p k f ((l+r)/2+1) r) from ?_);have e2:=O.tot _ _ (g.bd Oo _) (g.bd Oo _) (g.ne hk Oo Oo) e;refine sD O g hk h f ((l+r)/2+1) r Oo Oo Oo (λa q1=>?_) h5;by_cases q:a=(l+r)/2
    ·rw [q];exact e2
    ·exact O.tra _ _ _ (h a ((l+r)/2) Oo Oo) e2
theorem OL{p:Array Nat}{k m i:Nat}(hk:k<p.size)(hm:m<=k):(bubble p k (k-m)).getD i 0=if i=m then p.getD k 0 else if m<i/\i<=k then p.getD (i-1) 0 else p.getD i 0:=by
 have e:=getElem?_bubble (xs:=p) hk (k-m) Oo i;have g:∀(q:Array Nat) (k:Nat),q.getD k 0=q[k]?.getD 0:=λq k=>by simp [Array.getD_eq_getD_getElem?]
 rw [g,e,g,g,g,show k-(k-m)=m by omega];by_cases h:i=m
 ·rw [if_pos h,if_pos h]
 ·rw [if_neg h,if_neg h];by_cases h2:m<i/\i<=k
  ·rw [if_pos h2,if_pos h2]
  ·rw [if_neg h2,if_neg h2]
theorem HH(O:BD n lt):∀(f:Nat) {p:Array Nat}(g:fL n p) (k:Nat),k+f=n->wL lt p k->dH n lt (λp=>fL n p/\wL lt p n) (kas_bin f p k)
 | 0,p,g,k,hk,h=>⟨g,by rw [<-hk];exact h⟩
 | f+1,p,g,k,hk,h=>by
  unfold kas_bin;refine (sD O g Oo h k 0 k Oo Oo Oo (λa q=>Oo) (λa q1 q2=>Oo)).bind λm ⟨m1,m2,m3⟩=>?_;have hs:=g.size;refine HH O f (g.bub _ _) (k+1) Oo λa b hab hb=>?_;rw [OL Oo m1,OL Oo m1];by_cases ha:a=m
  ·rw [if_pos ha,if_neg Oo,if_pos Oo];exact m3 _ Oo Oo
  ·rw [if_neg ha];by_cases hb':b=m
   ·rw [if_pos hb',if_neg Oo];exact m2 a Oo
   ·rw [if_neg hb'];by_cases q1:m<a/\a<=k
    ·rw [if_pos q1,if_pos Oo];exact h _ _ Oo Oo
    ·rw [if_neg q1];by_cases q2:m<b/\b<=k
     ·rw [if_pos q2];exact h _ _ Oo Oo
     ·rw [if_neg q2];exact h _ _ hab Oo
theorem LK(O:BD n lt)(hn:2<=n):dH n lt (λp=>fL n p/\wL lt p n) (kas_sort n):=by
 unfold kas_sort;refine (JK O (Array.Perm.refl _) hn).bind λr ⟨h1,h2,h3,h4⟩=>?_;split
 ·rename_i q
  rw [Nat.max_eq_left h2];exact HH O _ h1 _ Oo h4
 ·rename_i q
  have e:r.1=n:=Oo;exact ⟨h1,e ▸ h4⟩
end
end HT
namespace L2
open PySem PySem.Spec PySem.W PyProof.Rows HT
theorem wY{x:V}{xs:List V}{us:List Value}(r:cZ (x::xs) us):∃u us',us=u::us'/\dO x u/\cZ xs us':=by
 cases r with
 | cons h t=>exact ⟨_,_,rfl,h,t⟩
def CG(fin:Bool):List Int->List Int->Bool
 | x::a,y::b=>if x=y then CG fin a b else decide (x<y)
 | _,_=>fin
def kN(a b:List Int):Bool:=CG (decide (a.length<b.length)) a b
theorem vM(a:List Int):kN a []=false:=by
 unfold kN;cases a <;> rfl
theorem AI(y:Int)(b:List Int):kN [] (y::b)=true:=by unfold kN;rfl
theorem AJ(x y:Int)(a b:List Int):kN (x::a) (y::b)=if x=y then kN a b else decide (x<y):=by
 show (if x=y then CG (decide ((x::a).length<(y::b).length)) a b else decide (x<y))=_;rw [cS,cS,show decide (a.length+1<b.length+1)=decide (a.length<b.length) by simp]
 rfl
theorem GH:∀{a b:List Int},a≠b->kN a b=false->kN b a=true
 | [],[],h,_=>absurd rfl h
 | [],y::b,_,e=>by rw [AI] at e;cases e
 | x::a,[],_,_=>AI _ _
 | x::a,y::b,h,e=>by
  rw [AJ] at e ⊢;by_cases q:x=y
  ·subst q;rw [if_pos rfl] at e ⊢;exact GH (λz=>h (by rw [z])) e
  ·rw [if_neg q] at e;rw [if_neg (Ne.symm q)];have:=of_decide_eq_false e;exact cV Oo
theorem AG:∀{a b c:List Int},kN a b=true->kN b c=true->kN a c=true
 | a,b,[],_,h=>by rw [vM] at h;cases h
 | [],b,z::c,_,_=>AI _ _
 | x::a,[],z::c,h,_=>by rw [vM] at h;cases h
 | x::a,y::b,z::c,h1,h2=>by
  rw [AJ] at h1 h2 ⊢;by_cases q1:x=y
  ·subst q1;rw [if_pos rfl] at h1;by_cases q2:x=z
   ·subst q2;rw [if_pos rfl] at h2 ⊢;exact AG h1 h2
   ·rw [if_neg q2] at h2 ⊢;exact h2
  ·rw [if_neg q1] at h1;have h1:=of_decide_eq_true h1;by_cases q2:y=z
   ·subst q2;rw [if_neg q1];exact cV h1
   ·rw [if_neg q2] at h2;have h2:=of_decide_eq_true h2;rw [if_neg Oo];exact cV Oo
theorem AH{a:List Int}:kN a a=false:=by
 induction a with
 | nil=>exact vM _
 | cons x a ih=>rw [AJ,if_pos rfl];exact ih
theorem vL:∀{l m:List (List Int)},l.Pairwise (λa b=>kN a b=true)->m.Pairwise (λa b=>kN a b=true)->(∀x,x∈l↔x∈m)->l=m
 | [],[],_,_,_=>rfl
 | [],y::m,_,_,h=>by have:=(h y).mpr (aL ..);cases this
 | x::l,[],_,_,h=>by have:=(h x).mp (aL ..);cases this
 | x::l,y::m,h1,h2,h=>by
  obtain ⟨a1,a2⟩:=List.pairwise_cons.mp h1;obtain ⟨b1,b2⟩:=List.pairwise_cons.mp h2;have e:x=y:=by
   rcases bA.mp ((h x).mp (aL ..)) with q | q
   ·exact q
   ·rcases bA.mp ((h y).mpr (aL ..)) with r | r
    ·exact r.symm
    ·have:=AG (b1 x q) (a1 y r);rw [AH] at this;cases this
  subst e;rw [vL a2 b2 λz=>?_];constructor
  ·intro q;rcases bA.mp ((h z).mp (aM _ q)) with r | r
   ·subst r;have:=a1 z q;rw [AH] at this;cases this
   ·exact r
  ·intro q;rcases bA.mp ((h z).mpr (aM _ q)) with r | r
   ·subst r;have:=b1 z q;rw [AH] at this;cases this
   ·exact r
abbrev DL(cs:List (List Int)):Nat->Nat->Bool:=λi j=>kN (cs.getD i []) (cs.getD j [])
theorem MP{cs:List (List Int)}(h:cs.Nodup):BD cs.length (DL cs):=⟨λi j hi hj ne e=>GH (λz=>by
  have e1:cs.getD i []=cs[i]:=by simp [hi]
  have e2:cs.getD j []=cs[j]:=by simp [hj]
  rw [e1,e2] at z;exact ne ((List.getElem_inj h).mp z)) e,λi j k h1 h2=>AG h1 h2⟩
section
variable{prog:Program}{w:World}{A:Around}{E:Value->Shared->Prop}{s:Shared}{Q:Bool->Shared->Prop}
theorem tF{fin:Bool}:∀{a b:List Int}{us vs:List Value}{i:Nat},cZ (a.map V.int) us->cZ (b.map V.int) vs->Q (CG fin a b) s->KatLex prog w A true fin Q (us.zip vs) i s
 | [],b,us,vs,i,ha,hb,q=>by cases ha;exact kat_nil (by unfold CG at q;exact q)
 | x::a,[],us,vs,i,ha,hb,q=>by
  cases hb;cases us with
  | nil=>exact kat_nil (by unfold CG at q;exact q)
  | cons u us=>exact kat_nil (by unfold CG at q;exact q)
 | x::a,y::b,us,vs,i,ha,hb,q=>by
  rw [aP] at ha hb;obtain ⟨u,us',rfl,⟨t,rfl⟩,ra⟩:=wY ha;obtain ⟨v,vs',rfl,⟨t',rfl⟩,rb⟩:=wY hb;rw [List.zip_cons_cons];refine kat_cons (wpAny_eqBool_int ?_);unfold CG at q;by_cases h:x=y
  ·rw [if_pos h] at q;rw [show (x == y)=true by simp [h]];exact kat_yes (tF ra rb q)
  ·rw [if_neg h] at q;rw [show (x == y)=false by simp [h]];refine kat_no ?_;cases (true&&i == 0) with
   | true=>exact oneLt_int q
   | false=>exact kat_one _ _ (lt_int q)
def VM(h:Heap)(v:Value)(c:List Int):Prop:=∃b its,v=.ref b/\IsTup h b (List.toArray its)/\cZ (c.map V.int) its/\c≠[]
abbrev iN(h:Heap):List Value->List (List Int)->Prop:=Paired (VM h)
theorem iN.get{h:Heap}:∀{vs:List Value}{cs:List (List Int)}{i:Nat},iN h vs cs->i<vs.length->VM h (vs.getD i Value.none) (cs.getD i [])
 | _,_,_,.nil,hi=>by simp at hi
 | _,_,0,.cons t r,hi=>t
 | v::vs,c::cs,i+1,.cons t r,hi=>by
  have:=iN.get (i:=i) r (by simpa using hi);simpa using this
theorem iN.firsts{h:Heap}:∀{vs:List Value}{cs:List (List Int)},iN h vs cs->∃fs,KatTups h vs fs/\fs.length=vs.length/\∀v∈fs,∃i t,v=Value.int i t
 | _,_,.nil=>⟨[],KatTups.nil,rfl,λv hv=>by cases hv⟩
 | v::vs,c::cs,.cons t r=>by
  obtain ⟨fs,h1,h2,h3⟩:=iN.firsts r;obtain ⟨b,its,rfl,⟨o,ho,hc,n,hd⟩,hv,hne⟩:=t;cases c with
  | nil=>exact absurd rfl hne
  | cons x c =>
   rw [aP] at hv;obtain ⟨u,us,rfl,⟨t,rfl⟩,_⟩:=wY hv;exact ⟨.int x t::fs,KatTups.cons ho hc hd (by simp) h1,by simp [h2],λv hv=>by
    rcases bA.mp hv with rfl | hv
    ·exact ⟨_,_,rfl⟩
    ·exact h3 v hv⟩
theorem iN.keep{h h':Heap}(k:∀b o,h.get? b=some o->o.cls=.type "tuple" -> h'.get? b=some o):∀{vs:List Value}{cs:List (List Int)},iN h vs cs->iN h' vs cs
 | _,_,.nil=>.nil
 | _,_,.cons ⟨b,its,e,⟨o,ho,hc,hd⟩,hv,hne⟩ r=>.cons ⟨b,its,e,⟨o,k b o ho hc,hc,hd⟩,hv,hne⟩ (iN.keep k r)
theorem LM{n:Nat}{lt:Nat->Nat->Bool}(hn:2<=n):dH n lt (λp=>fL n p/\(BD n lt->wL lt p n)) (kas_sort n):=by
 by_cases O:BD n lt
 ·exact dH.mono (λp h=>⟨h.1,λ_=>h.2⟩) (LK O hn)
 ·exact dH.mono (λp h=>⟨h,λz=>absurd z O⟩) (OP Oo)
theorem xJ{a:Addr}{vs:List Value}{cs:List (List Int)}{n:Nat}{P:PySem.Fin->Shared->Prop}(ho:s.heap.get? a=some (seqObj "list" vs.toArray n))(ht:iN s.heap vs cs)(h64:vs.length<64)
  (h:∀p:Array Nat,fL vs.length p->(BD vs.length (DL cs)->wL (DL cs) p vs.length)->P (.done (.ret .none)) { s with heap:=sortedHeap s.heap a vs (List.toArray (p.toList.map λi=>vs.getD i Value.none)) }) :
  wpAny (model prog w) A (Builtin.«list.sort» ⟨[.ref a],[]⟩) P E s:=by
 rw [list_sort_plain];have ha:a<s.heap.objs.size:=aY ho;refine wpAny_bind (listItems_at ho rfl ?_);refine wpAny_bind (listUpdate_at ho rfl ?_ (by rw [bC,sizeLine_eq];omega) (cM _));obtain ⟨e1,ho1⟩:∃e1,(s.heap.update a (Obj.mapSeq λ_=>#[])).get? a=some (seqObj "list" #[] e1):=⟨_,get?_update_seq ho (λ_=>#[])⟩;refine wpAny_bind (seqEpoch_at ho1 rfl ?_);refine wpAny_bind (wpAny_newTuple ?_ (by show vs.length<=_;rw [sizeLine_eq];omega));refine wpAny_bind (wpAny_newList ?_ (cM _));refine wpAny_holding ?_;have ho6:(((s.heap.update a (Obj.mapSeq λ_=>#[])).push (seqObj "tuple" vs.toArray 0)).push (seqObj "list" #[] 0)).get? a=some (seqObj "list" #[] e1):=by
  rw [Heap.get?_push_ne _ _ _ (by rw [size_push',Heap.size_update];exact cK (Nat.lt_succ_of_lt ha)),Heap.get?_push_ne _ _ _ (by rw [Heap.size_update];exact cK ha)];exact ho1
 show wpAny (model prog w) A _ P E { s with heap:=((s.heap.update a (Obj.mapSeq λ_=>#[])).push (seqObj "tuple" vs.toArray 0)).push (seqObj "list" #[] 0) };dsimp only;have fin:∀st':SortSt,∀p:Array Nat,fL vs.length p->(BD vs.length (DL cs)->wL (DL cs) p vs.length)->(arrOf st').map (·.2)=List.toArray (p.toList.map λi=>vs.getD i Value.none) ->
   P (.done (.ret .none)) { s with heap:=sortedHeap s.heap a vs ((arrOf st').map (·.2)) }:=by
  intro st' p hp ho hs;rw [hs];exact h p hp ho
 have ht6:iN (((s.heap.update a (Obj.mapSeq λ_=>#[])).push (seqObj "tuple" vs.toArray 0)).push (seqObj "list" #[] 0)) vs cs:=ht.keep λb o hb hc=>by
  have hne:b≠a:=λe=>by
   subst e;rw [ho] at hb;cases hb;exact absurd (show Value.type "list" = Value.type "tuple" from hc) Dd
  exact aB _ (aB _ (by rw [iA _ _ _ _ hne];exact hb))
 by_cases h2:vs.toArray.size<2
 ·rw [if_pos h2,if_pos h2];refine wpAny_bind (wpAny_pure ?_);rw [StateT.run_pure];refine wpAny_bind (wpAny_pure ?_);dsimp only;refine wpAny_bind (seqEpoch_at ho6 rfl ?_);refine wpAny_bind (listUpdate_at ho6 rfl ?_ (hsz2:=by rw [Array.size_map];show (pairsOf vs).size<=_;rw [pairsOf_size,sizeLine_eq];omega));simp only [bne_self_eq_false,Bool.false_eq_true,if_false];refine wpAny_pure (fin (SortSt.mk' general' (vs.toArray.zip vs.toArray) #[] 7 none) (List.toArray (List.range vs.length)) (Array.Perm.refl _) (λ_ a b h1 h3=>by rw [bC] at h2;omega) ?_);have e:=kat_snds (ks:=vs) (vs:=vs) (st:=SortSt.mk' general' (vs.toArray.zip vs.toArray) #[] 7 none) (p:=List.toArray (List.range vs.length)) rfl (by
   have e:=kas_range (vs.toArray.zip vs.toArray);rw [show (vs.toArray.zip vs.toArray).size=vs.length by simp] at e;exact e.symm)
  exact e
 ·rw [if_neg h2,if_neg h2];have hl2:2<=vs.length:=by rw [bC] at h2;omega
  obtain ⟨fs,k1,k2,k3⟩:=ht6.firsts;refine wpAny_bind (kat_kind (T:=.type "int") k1 Oo (λv hv=>?_) rfl ?_)
  ·obtain ⟨i,t,rfl⟩:=k3 v hv;exact .now
  refine wpAny_bind (wpAny_mono (kat_run (ks:=vs) (vs:=vs) (G:=λp s'=>s'={ s with heap:=((s.heap.update a (Obj.mapSeq λ_=>#[])).push (seqObj "tuple" vs.toArray 0)).push (seqObj "list" #[] 0) }/\fL vs.length p/\(BD vs.length (DL cs)->wL (DL cs) p vs.length))
   (Q:=λst' s'=>s'={ s with heap:=((s.heap.update a (Obj.mapSeq λ_=>#[])).push (seqObj "tuple" vs.toArray 0)).push (seqObj "list" #[] 0) }/\failedOf st'=none/\∃p:Array Nat,p.size=vs.length/\(fL vs.length p/\(BD vs.length (DL cs)->wL (DL cs) p vs.length))/\arrOf st'=p.map (kas_item (vs.toArray.zip vs.toArray)))
   rfl hl2 h64 (λp' st' s' a1 a2 a3 a4=>⟨a4.1,a3,p',a1,a4.2,a2⟩)
   (dH.wp (n:=vs.length) (lt:=DL cs) (R:=λp=>fL vs.length p/\(BD vs.length (DL cs)->wL (DL cs) p vs.length)) (λi j C hi hj hC=>?_) (λp hp=>⟨rfl,hp⟩) (LM hl2))) ?_ λ_ _ e=>e)
  ·obtain ⟨b,its,e1',⟨o,hb,hc,n',hd⟩,hv,_⟩:=ht6.get hi;obtain ⟨b2,its2,e2',⟨o2,hb2,hc2,n2,hd2⟩,hv2,_⟩:=ht6.get hj;unfold kas_ask;rw [e1',e2'];refine kat_lt hb hd hb2 hd2 ?_;refine tF hv hv2 ?_;have l1:=hv.length;have l2:=hv2.length;rw [aA] at l1 l2;rw [bC,bC,<-l1,<-l2];exact hC
  rintro ⟨⟨⟩,st'⟩ s' ⟨rfl,hf,p,hp,hg,har⟩;dsimp only;have hout:=kat_snds rfl har;refine wpAny_bind (seqEpoch_at ho6 rfl ?_);refine wpAny_bind (listUpdate_at ho6 rfl ?_ (hsz2:=by rw [hout,bC,aA,Array.length_toList,hp,sizeLine_eq];omega));rw [hf];simp only [bne_self_eq_false,Bool.false_eq_true,if_false];exact wpAny_pure (fin st' p hg.1 hg.2 hout)
theorem BR{l:Addr}{vs:List Value}{cs:List (List Int)}{Q:Value->Shared->Prop}(hl:s.heap.IsList l vs.toArray)(ht:iN s.heap vs cs)(h64:vs.length<64)
  (h:∀(p:Array Nat) (h':Heap) (D:Addr) (c:Nat),fL vs.length p->(BD vs.length (DL cs)->wL (DL cs) p vs.length)->(∀b o,s.heap.get? b=some o->h'.get? b=some o)->s.heap.objs.size<=D->h'.get? D=some (seqObj "list" (List.toArray (p.toList.map λi=>vs.getD i Value.none)) c)->Q (.ref D) { s with heap:=h' }) :
  wpAny (model prog w) A (call (.builtin "sorted") [.ref l]) Q E s:=by
 refine Calls.call_function_entry kind_sorted plain_sorted entry_sorted (args_sorted1 _) ?_;unfold Builtin.«sorted»;refine wpAny_bind (m:=checkCount "sorted" 1 1 _) (wpAny_pure ?_);refine wpAny_bind (collect_list hl ?_ (by rw [sizeLine_eq];omega));refine wpAny_bind (wpAny_newList ?_ (by rw [sizeLine_eq];omega));have hsz:((s.heap.push (seqObj "list" #[] 0)).update s.heap.objs.size (Obj.mapSeq (· ++ vs.toArray))).objs.size=s.heap.objs.size+1:=by
  rw [Heap.size_update,size_push']
 have hoL:(((s.heap.push (seqObj "list" #[] 0)).update s.heap.objs.size (Obj.mapSeq (· ++ vs.toArray))).push (seqObj "list" vs.toArray 0)).get? (s.heap.objs.size+1)=some (seqObj "list" vs.toArray 0):=by
  rw [<-hsz];exact aU _ rfl
 have keep:∀b o,s.heap.get? b=some o->(((s.heap.push (seqObj "list" #[] 0)).update s.heap.objs.size (Obj.mapSeq (· ++ vs.toArray))).push (seqObj "list" vs.toArray 0)).get? b=some o:=λb o q=>by
  have hlt:b<s.heap.objs.size:=aY q;rw [Heap.get?_push_ne _ _ _ (by rw [hsz];exact cK (Nat.lt_succ_of_lt hlt)),iA _ _ _ _ (cK hlt),Heap.get?_push_ne _ _ _ (cK hlt)];exact q
 show wpAny _ _ _ _ _ { s with heap:=((s.heap.push (seqObj "list" #[] 0)).update s.heap.objs.size (Obj.mapSeq (· ++ vs.toArray))).push (seqObj "list" vs.toArray 0) };rw [hsz];refine wpAny_bind (wpAny_holding (wpAny_call_entry slot_list_sort ⟨_,hoL,rfl⟩ entry_list_sort ?body (args_list_sort _)));generalize hH:((s.heap.push (seqObj "list" #[] 0)).update s.heap.objs.size (Obj.mapSeq (· ++ vs.toArray))).push (seqObj "list" vs.toArray 0)=h1 at *;refine xJ (s:={ s with heap:=h1 }) hoL (ht.keep λb o hb _=>keep b o hb) h64 λp hp ho=>⟨_,rfl,wpAny_pure ⟨_,rfl,?_⟩⟩;have hD:s.heap.objs.size+1<h1.objs.size:=aY hoL;unfold sortedHeap;have o1:(h1.update (s.heap.objs.size+1) (Obj.mapSeq λ_=>#[])).get? (s.heap.objs.size+1)=some (seqObj "list" #[] _):=get?_update_seq hoL (λ_=>#[]);have o2:=aB (seqObj "list" #[] 0) (aB (seqObj "tuple" vs.toArray 0) o1);refine h p _ (s.heap.objs.size+1) _ hp ho (λb o q=>?_) (Nat.le_succ _) (get?_update_seq o2 λ_=>List.toArray (p.toList.map λi=>vs.getD i Value.none));have hlt:b<s.heap.objs.size:=aY q;have hne:b≠s.heap.objs.size+1:=cK (Nat.lt_succ_of_lt hlt);rw [iA _ _ _ _ hne];exact aB _ (aB _ (by rw [iA _ _ _ _ hne];exact keep b o q))
end
@[irreducible] def tU(K:PySem.W.Frag):List V->Hp->VK->Prop:=λxs H Q=>∃(p:Addr) (ys:List V) (cs:List (List Int)),xs=[.ref p]/\fM K H p ys/\bD H (cs.map λc=>PyData.tuple (c.map .int)) ys/\(∀c∈cs,c≠[])/\ys.length<64 /\
 ∀q (ix:List Nat) H',ix.Perm (List.range ys.length)->(cs.Nodup->(ix.map λi=>cs.getD i []).Pairwise λa b=>kN a b=true)->H q=none->H' q=some (.lst (ix.map λi=>ys.getD i .non))->bE H H'->Q (.ref q) H'
theorem rsrt{K:PySem.W.Frag}{H:Hp}{Q:VK}{p:Addr}{ys:List V}{cs:List (List Int)}(h:fM K H p ys)(r:bD H (cs.map λc=>PyData.tuple (c.map .int)) ys)(hc:∀c∈cs,c≠[])(hz:ys.length<64)
  (q:∀q (ix:List Nat) H',ix.Perm (List.range ys.length)->(cs.Nodup->(ix.map λi=>cs.getD i []).Pairwise λa b=>kN a b=true)->H q=none->H' q=some (.lst (ix.map λi=>ys.getD i .non))->bE H H'->Q (.ref q) H'):tU K [.ref p] H Q:=by
 unfold tU;exact ⟨p,ys,cs,rfl,h,r,hc,hz,q⟩
theorem yX{X:Cx}{pins:List (Addr × Obj)}{σ:St}{H:Hp}{s:Shared}(I:cF X pins σ H s):∀{cs:List (List Int)}{ys:List V}{us:List Value},bD H (cs.map λc=>PyData.tuple (c.map .int)) ys->(∀c∈cs,c≠[])->cZ ys us->iN s.heap us cs
 | [],ys,us,r,hc,v=>by
  unfold bD at r;cases (show ys=[] from r);cases v;exact .nil
 | c::cs,ys,us,r,hc,v=>by
  rw [aP] at r;unfold bD at r;obtain ⟨y,ys',rfl,r1,r2⟩:=r;obtain ⟨u,us',rfl,rv,v'⟩:=wY v;refine .cons ?_ (yX I r2 (λc h=>hc c (aM _ h)) v');unfold cA at r1;obtain ⟨a,xs,rfl,h1,h2⟩:=r1;cases rv;obtain ⟨its,rr,pl,hzz⟩:=I.tuple (fF.of h1);have hx:xs=c.map V.int:=by
   clear rr h1 hc hzz
   induction c generalizing xs with
   | nil=>unfold bD at h2;exact h2
   | cons z c ih =>
    rw [aP] at h2;unfold bD at h2;obtain ⟨x,xs',rfl,h3,h4⟩:=h2;cases (show x=V.int z from h3);rw [ih _ h4];rfl
  subst hx;exact ⟨a,its,rfl,pl,rr,hc c (aL ..)⟩
theorem yU{ys:List V}{us:List Value}(v:cZ ys us):∀ix:List Nat,(∀i∈ix,i<ys.length)->cZ (ix.map λi=>ys.getD i .non) (ix.map λi=>us.getD i Value.none)
 | [],_=>.nil
 | i::ix,h=>by
  have hi:=h i (aL ..);obtain ⟨u,hu,ru⟩:=v.get (i:=i) (x:=ys[i]) (by simp [hi]);refine .cons ?_ (yU v ix λj hj=>h j (aM _ hj));have e1:ys.getD i .non=ys[i]:=by simp [hi]
  have e2:us.getD i Value.none=u:=by rw [aT,hu];rfl
  show dO (ys.getD i .non) (us.getD i Value.none);rw [e1,e2];exact ru
theorem ZH{X:Cx}(K:PySem.W.Frag)(hK:X.K=K:=by rfl):iP X (.builtin "sorted") (tU K):=by
 subst hK;unfold tU;intro pins s σ H xs us Q I r h;obtain ⟨p,ys,cs,rfl,hq,rep,hc,hz,q⟩:=h;obtain ⟨u,rfl,rx⟩:=lN r;cases rx;obtain ⟨its,r',pl,hz'⟩:=I.list hq;have hlen:=r'.length;obtain ⟨o,n,ho,hcl,hdd,hd⟩:=pl;refine BR ⟨o,ho,hcl,n,hd⟩ (yX I rep hc r') Oo λpm h' D c hg ho keep hD hget=>?_;have hperm:pm.toList.Perm (List.range ys.length):=by
  have:=(Array.perm_iff_toList_perm.mp hg);rw [hlen];simpa using this
 have hlt:∀i∈pm.toList,i<ys.length:=λi hi=>by
  have:=hperm.mem_iff.mp hi;simpa using this
 have hl2:(pm.toList.map λi=>ys.getD i .non).length=ys.length:=by rw [aA,hperm.length_eq,bH]
 refine ⟨.ref D,upd H D (.lst (pm.toList.map λi=>ys.getD i .non)),I.laid (t':=s.toks) keep hD ⟨by rw [hl2];exact hz',_,c,yU r' _ hlt,hget⟩,rfl,?_⟩;have hn:=I.hok.fresh hD;refine q D pm.toList _ hperm (λhnd=>?_) hn bI (bE.upd hn);have lcs:cs.length=its.length:=by rw [<-hlen,rep.len,aA]
 have ha:=ho (lcs ▸ MP hnd);have hsz:=hg.size;rw [List.pairwise_map,List.pairwise_iff_getElem];intro i j hi hj hij;have hi':i<pm.size:=by simpa using hi
 have hj':j<pm.size:=by simpa using hj
 have e1:pm.toList[i]=pm.getD i 0:=by rw [Array.getElem_toList];exact (by simp [Array.getD,hi']:pm.getD i 0=pm[i]).symm
 have e2:pm.toList[j]=pm.getD j 0:=by rw [Array.getElem_toList];exact (by simp [Array.getD,hj']:pm.getD j 0=pm[j]).symm
 rw [e1,e2];exact ha i j hij (by rw [<-hsz];simpa using hj)
abbrev cD(c:List Int):PyData:=.tuple (c.map .int)
theorem aCG(x y:Int):PyData.eqv (.int x) (.int y)=decide (x=y):=by
 show (x == y)=_;rw [Bool.beq_eq_decide_eq]
theorem VF:∀a b:List Int,PyData.eqvAll (a.map PyData.int) (b.map PyData.int)=decide (a=b)
 | [],[]=>by simp [PyData.eqvAll]
 | [],_::_=>by simp [PyData.eqvAll]
 | _::_,[]=>by simp [PyData.eqvAll]
 | x::a,y::b=>by
  have ih:=VF a b;rw [aP,aP];show (PyData.eqv (.int x) (.int y)&&PyData.eqvAll _ _)=_;rw [ih,aCG];by_cases h:x=y <;> by_cases h':a=b <;> simp [h,h']
theorem aCH(a b:List Int):PyData.eqv (cD a) (cD b)=decide (a=b):=VF a b
theorem GJ:∀a:List Int,PyData.canLayAll0 (a.map PyData.int)=true
 | []=>rfl
 | x::a=>by
  show (PyData.canLay0 (.int x)&&PyData.canLayAll0 (a.map PyData.int))=true;rw [GJ a];rfl
theorem NR:∀a:List Int,PyData.depthAll (a.map PyData.int)<=1
 | []=>by show 0<=1;omega
 | x::a=>by
  have:=NR a;show max (PyData.depth (.int x)) (PyData.depthAll (a.map PyData.int))<=1;have:PyData.depth (.int x)<=1:=by simp [PyData.depth]
  omega
theorem ZS{H:Hp}{c:List Int}{v:V}(h:cA H (cD c) v):∃a,v=.ref a/\H a=some (.tup (c.map V.int)):=by
 unfold cA at h;obtain ⟨a,xs,rfl,h1,h2⟩:=h;have hx:xs=c.map V.int:=by
  clear h1
  induction c generalizing xs with
  | nil=>unfold bD at h2;exact h2
  | cons z c ih =>
   rw [aP] at h2;unfold bD at h2;obtain ⟨x,xs',rfl,h3,h4⟩:=h2;cases (show x=V.int z from h3);rw [ih _ h4];rfl
 subst hx;exact ⟨a,rfl,h1⟩
theorem CB{a b:List Int}(h:a.map V.int=b.map V.int):a=b:=by
 induction a generalizing b with
 | nil=>cases b with
  | nil=>rfl
  | cons _ _=>cases h
 | cons x a ih=>cases b with
  | nil=>cases h
  | cons y b =>
   rw [aP,aP] at h;injection h with h1 h2;injection h1 with h1;rw [h1,ih h2]
open Classical in
noncomputable def PC (H:Hp) (c:List Int) (u:Value):Bool:=decide (∃b,u=.ref b/\H b=some (.tup (c.map V.int)))
section
variable{X:Cx}{pins:List (Addr × Obj)}{σ:St}{H:Hp}{s:Shared}
theorem NM{c c':List Int}{y:V}{u:Value}(h:cA H (cD c') y)(r:dO y u):PC H c u=decide (c'=c):=by
 obtain ⟨a,rfl,ha⟩:=ZS h;cases r;unfold PC;rw [Bool.eq_iff_iff];simp only [decide_eq_true_eq];constructor
 ·rintro ⟨b,e2,hb⟩;cases e2;rw [ha] at hb;injection hb with hb;injection hb with hb;exact CB hb
 ·rintro rfl;exact ⟨a,rfl,ha⟩
theorem AS{c:List Int}:∀{cs:List (List Int)}{ys:List V}{us:List Value},bD H (cs.map cD) ys->cZ ys us->us.any (PC H c)=decide (c∈cs)
 | [],ys,us,r,v=>by
  unfold bD at r;cases (show ys=[] from r);cases v
  rfl
 | c' :: cs,ys,us,r,v=>by
  rw [aP] at r;unfold bD at r;obtain ⟨y,ys',rfl,r1,r2⟩:=r;obtain ⟨u,us',rfl,rv,v'⟩:=wY v;rw [List.any_cons,NM r1 rv,AS r2 v'];by_cases h:c'=c
  ·subst h;simp
  ·have h':¬c=c':=λe=>h e.symm;simp [h,h']
theorem AR(I:cF X pins σ H s)(hu:X.A.units+64<cLine){c:List Int}{v:Value}{as:List Addr}(rc:Reads s.heap v (cD c) as):∀{cs:List (List Int)}{ys:List V}{us:List Value},bD H (cs.map cD) ys->cZ ys us ->
  ∀u∈us,SeqAt.EqAt X.A.in1 s u v (PC H c u)
 | [],ys,us,r,vv=>by
  unfold bD at r;cases (show ys=[] from r);cases vv;exact λu hu=>by cases hu
 | c' :: cs,ys,us,r,vv=>by
  rw [aP] at r;unfold bD at r;obtain ⟨y,ys',rfl,r1,r2⟩:=r;obtain ⟨u,us',rfl,rv,v'⟩:=wY vv;intro u' hu';rcases bA.mp hu' with rfl | hu'
  ·obtain ⟨bs,rb⟩:=r1.reads I rv;rw [NM r1 rv,<-aCH];refine SeqAt.eqAt_reads (cD c') (cD c) _ s _ _ bs as rb rc (GJ c') (GJ c) ?_;have h1:(cD c').depth<=2:=by
    have:=NR c';simp only [PyData.depth];omega
   have:X.A.in1.units<=X.A.units+1:=by
    first
     | exact aJ _
     | (unfold Around.in1;simp)
   omega
  ·exact AR I hu rc r2 v' u' hu'
end
@[irreducible] def QS(K:PySem.W.Frag)(neg:Bool):R2:=λx y H Q=>∃(p:Addr) (ys:List V) (cs:List (List Int)) (c:List Int),y=.ref p/\(fM K H p ys\/fF K H p ys)/\bD H (cs.map cD) ys/\iD K H (cD c) x/\Q (.bl (if neg then !decide (c∈cs) else decide (c∈cs))) H
theorem riT{K:PySem.W.Frag}{neg:Bool}{x:V}{p:Addr}{ys:List V}{cs:List (List Int)}{c:List Int}{H:Hp}{Q:VK}(h:fM K H p ys\/fF K H p ys)(r:bD H (cs.map cD) ys)(rx:iD K H (cD c) x)(q:Q (.bl (if neg then !decide (c∈cs) else decide (c∈cs))) H):QS K neg x (.ref p) H Q:=by
 unfold QS;exact ⟨p,ys,cs,c,rfl,h,r,rx,q⟩
section
variable{X:Cx}
theorem IT(K:PySem.W.Frag)(hu:X.A.units+64<cLine)(hK:X.K=K:=by rfl):pW X (compareOp .NotIn) (QS K true):=by
 subst hK;unfold QS;intro pins s σ H x y v u Q I rx ry h;obtain ⟨p,ys,cs,c,rfl,hq,r,rc,q⟩:=h;cases ry;obtain ⟨as,ra⟩:=rc.reads I rx;rcases hq with hq | hq
 ·obtain ⟨its,r',pl,hz⟩:=I.list hq;refine SeqAt.notIn_listAt (PC H c) pl.isList (λw hw=>AR I hu ra r r' w (by simpa using hw)) ⟨.bl _,H,I,rfl,?_⟩;rw [show its.toArray.any (PC H c)=its.any (PC H c) by simp,AS r r'];exact q
 ·obtain ⟨its,r',pl,hz⟩:=I.tuple hq;refine SeqAt.notIn_tupleAt (PC H c) pl (λw hw=>AR I hu ra r r' w (by simpa using hw)) ⟨.bl _,H,I,rfl,?_⟩;rw [show its.toArray.any (PC H c)=its.any (PC H c) by simp,AS r r'];exact q
end
end L2
namespace HT
open PySem PySem.Spec PyProof.Rows PySem.Builtin
theorem wM:typeLookup (.type "tuple") "keys" = pure none:=am_miss_of_fast Kk
section
variable{prog:Program}{w:World}{A:Around}{E:Value->Shared->Prop}{s:Shared}
theorem IW{a:Addr}{o:Obj}{xs:Array Value}{k:Nat}{Q:Option Value->Shared->Prop}(hx:s.heap.get? a=some o)(hc:o.cls=.type "tuple")(hdat:o.data=.seq xs k)(hd:o.dict=none)(hA:A.handled=none)
  (h:∀h' tk,(∀b u,s.heap.get? b=some u->h'.get? b=some u)->Q none { s with heap:=h',toks:=tk }):wpAny (model prog w) A (getAttr? (.ref a) "keys") Q E s:=by
 obtain ⟨c,dct,dat,sl⟩:=o;simp only at hc hdat hd;subst hc hdat hd;obtain ⟨hp,g,d,tk,os⟩:=s;have hT:∀tk',(⟨hp,g,d,tk',os⟩:Shared).TypeIs (.ref a) "tuple" := λ_=>⟨_,hx,rfl⟩;have f1:=sub_AttributeError;have f3:=F.slot_tuple_getattribute.lookup;have f4:=F.slot_tuple_getattribute.bind (.ref a);have f5:=am_tuple_getattr_none;unfold getAttr? getAttrBy? getAttrBy
 repeat (any_goals (first | assumption | exact hT _ | ((with_reducible show wpAny _ _ (call (Value.builtin "tuple.__getattribute__") _ _) _ _ _);refine call_meets F.slot_tuple_getattribute (hT _) am_entry_tuple_getattribute (F.args_tuple_getattribute_2 _ _) (meets_getattribute_miss_tuple a xs k sl "keys" _ wM Dd) ⟨hx,hA,λh' tk' e hx'=>?_⟩) | wp_step))
 obtain ⟨t',u',he⟩:=hx'.there;show wpAny _ _ (getattributeRaised _ _ _ _ _ _ _) _ _ _;unfold getattributeRaised
 repeat (any_goals (first | assumption | wp_step))
 exact h _ _ hx'.keeps
end
theorem pN:entryFor table "dict.update.loop" = some Builtin.«dict.update.loop» := entryFor_of_tree (by kernel_rfl)
theorem pJ:plainId "dict.update.loop" = true:=Kk
section
variable{prog:Program}{w:World}{A:Around}{E:Value->Shared->Prop}{s:Shared}{K:Type}[DecidableEq K]{knd:HeapKind prog w K}
theorem PY{d it t:Addr}{i:Nat}{items:Array Value}{R:Result->Shared->Prop}(hA:A.handled=none)(hit:s.heap.IsTupleIter it t i)(ht:s.heap.IsTuple t items)(hx:items[i]?=none)
  (h:∀h',Heap.ExtBut it s.heap h'->R (.ok (.ret .none)) { s with heap:=h' }) :
  codeAny (model prog w) A (.builtin "dict.update.loop" ⟨[.ref d,.ref it,rawInt i,.none],[]⟩) R s:=by
 refine codeAny_builtin pN ?_;rw [Around.under_plainId pJ _];unfold Builtin.«dict.update.loop»;refine wpAny_bind (wpAny_pyNext_tuple_end hA hit ht hx λh' e=>?_);show wpAny _ _ (Dict.addKeywords d [] >>= λ_=>ret Value.none) _ _ _;exact wpAny_bind (wpAny_pure (wpAny_pure (h h' e)))
theorem wP{b:Addr}{its:Array Value}{Q:List Value->Shared->Prop}(hb:s.heap.IsTuple b its)(h:Q its.toList s):wpAny (model prog w) A (Dict.pairItems (.ref b)) Q E s:=by
 obtain ⟨o,ho,hc,n,hd⟩:=id hb;unfold Dict.pairItems;refine wpAny_bind (wpAny_typeOf hb.typeIs ?_);rw [if_pos Dd];exact wpAny_bind (wpAny_seqItems ho hd (wpAny_pure h))
theorem KU{d it t b a:Addr}{i:Nat}{items:Array Value}{xs:List (K × Addr × Value)}{k:K}{v:Value}{R:Result->Shared->Prop}(hu:knd.room A.in1)(hit:s.heap.IsTupleIter it t i)(ht:s.heap.IsTuple t items)(hx:items[i]?=some (.ref b))
  (hb:s.heap.IsTuple b #[.ref a,v]) (nb:b≠it) (hk:∀h',(∀c o,c≠it->s.heap.get? c=some o->h'.get? c=some o)->knd.is h' k a/\h'.DictOfH knd d xs) (nd:d≠it) (hz:xs.length<=sizeLine)
  (h:∀h1 h' tk,(∀c o,c≠it->s.heap.get? c=some o->h1.get? c=some o)->Heap.SameBut d h1 h'->h'.DictOfH knd d (storedH xs k a v)->h'.IsTupleIter it t (i+1) ->
   codeAny (model prog w) A (.builtin "dict.update.loop" ⟨[.ref d,.ref it,rawInt ((i+1:Nat):Int),.none],[]⟩) R { s with heap:=h',toks:=tk }) :
  codeAny (model prog w) A (.builtin "dict.update.loop" ⟨[.ref d,.ref it,rawInt i,.none],[]⟩) R s:=by
 refine codeAny_builtin pN ?_;rw [Around.under_plainId pJ _];unfold Builtin.«dict.update.loop»;refine wpAny_bind (wpAny_pyNext_tuple_item hit ht hx λh' it' hs=>?_);have hk':∀c o,c≠it->s.heap.get? c=some o->h'.get? c=some o:=λc o hc e=>(hs.2 c hc).trans e;refine wpAny_bind (wpAny_holding ?_);refine wpAny_bind (wpAny_tryCatch ?_);have hb':h'.IsTuple b #[.ref a,v]:=by
  obtain ⟨o,ho,r⟩:=hb;exact ⟨o,hk' b o nb ho,r⟩
 refine wP (s:={ s with heap:=h' }) hb' ?_;show wpAny _ _ (holding [Value.ref a,v] (dictSet d (.ref a) v)) _ _ _;have hm':=(hk h' hk').2;refine wpAny_holding (wpAny_dictSet_heap (s:={ s with heap:=h' }) hu (hk h' hk').1 hm' (λh2 hm2 hs2=>?_) hz);refine wpAny_pure ⟨Code.quiet_builtin _ Kk,?_⟩;have hn:=h h' h2 (s.toks+knd.draws k) hk' hs2 hm2 (by
  obtain ⟨o,ho,r⟩:=it';exact ⟨o,(hs2.2 it (Ne.symm nd)).trans ho,r⟩)
 rw [show ((i+1:Nat):Int)=(i:Int)+1 from Oo] at hn;exact hn
end
end HT
namespace L2
open PySem PySem.Spec PySem.W PyProof.Rows HT
def HL(H:Hp)(y:V)(p:List dS × V):Prop:=∃b a,y=.ref b/\H b=some (.tup [.ref a,p.2])/\H a=some (.tup (p.1.map kV))
section
variable{X:Cx}{pins:List (Addr × Obj)}{σ:St}{H:Hp}
theorem KT.isAll{P:Program}{w:World}{H:Hp}{h:Heap}(ok:nI P w H h){l:List (List dS × V)}{m:List (List dS × Addr × Value)}(q:KT H l m):∀x∈m,(tupleKind (dU P w)).is h x.1 x.2.1:=by
 unfold KT at q
 induction q with
 | nil=>intro x hx;exact nomatch hx
 | @cons p q ps qs hq t ih =>
  intro x hx;rcases bA.mp hx with e | hx
  ·subst e;exact mW ok (by rw [<-hq.1];exact hq.2.1)
  ·exact ih x hx
theorem xX{D it t:Addr}{ys:List V}{R:Result->Shared->Prop}(hu:X.A.units+8<cLine)(hA:X.A.handled=none)(hD:H D=none)(ht:H t=some (.tup ys))(nit:it≠D) :
  ∀(rest:List (List dS × V)) (i:Nat) (kvs:List (List dS × V)) (s:Shared),cF X pins σ (upd H D (.dT kvs)) s->jE X pins (upd H D (.dT kvs)) it->s.heap.IsTupleIter it t i->Paired (HL H) (ys.drop i) rest->((kvs++rest).map (·.1)).Nodup->(kvs++rest).length<=1000 ->
   (∀s',cF X pins σ (upd H D (.dT (kvs++rest))) s'->R (.ok (.ret .none)) s')->codeAny (model X.prog X.w) X.A.in1 (.builtin "dict.update.loop" ⟨[.ref D,.ref it,rawInt i,.none],[]⟩) R s
 | [],i,kvs,s,I,fp,hit,pr,nd,hz,k=>by
  have ntD:t≠D:=λe=>by subst e;rw [hD] at ht;cases ht
  obtain ⟨its,r,pl,_⟩:=I.tuple (fF.of (show upd H D (.dT kvs) t=some (.tup ys) by rw [cU ntD];exact ht));have hl:ys.length<=i:=by
   generalize hq:ys.drop i=l at pr;cases pr;exact List.drop_eq_nil_iff.mp hq
  have hl2:=r.length;rw [List.append_nil] at k;refine PY hA hit pl (by rw [Array.getElem?_eq_none];simp;omega) λh' e=>k _ ?_;exact I.turnedL (t':=s.toks) (fp:=[it]) (λb o hb x=>e b o (by simpa using hb) x) (λb hb=>by
   cases (show b=it by simpa using hb);exact fp)
 | p::rest,i,kvs,s,I,fp,hit,pr,nd,hz,k=>by
  have ntD:t≠D:=λe=>by subst e;rw [hD] at ht;cases ht
  obtain ⟨its,r,pl,_⟩:=I.tuple (fF.of (show upd H D (.dT kvs) t=some (.tup ys) by rw [cU ntD];exact ht));generalize hq:ys.drop i=l at pr;cases pr with
  | @cons y _ ys' _ hy pr' =>
   obtain ⟨b,a,rfl,hb,ha⟩:=hy;have hi:i<ys.length:=by
    by_cases h:i<ys.length
    ·exact h
    ·rw [List.drop_eq_nil_iff.mpr Oo] at hq;cases hq
   have hyi:ys[i]?=some (.ref b):=by
    have:=List.drop_eq_getElem_cons hi;rw [hq] at this;injection this with h1 h2;rw [aC hi,<-h1]
   have hys':ys.drop (i+1)=ys':=by
    have:=List.drop_eq_getElem_cons hi;rw [hq] at this;injection this with h1 h2;exact h2.symm
   obtain ⟨u,hu',ru⟩:=r.get hyi;cases ru;have nbD:b≠D:=λe=>by subst e;rw [hD] at hb;cases hb
   have naD:a≠D:=λe=>by subst e;rw [hD] at ha;cases ha
   have hb2:upd H D (.dT kvs) b=some (.tup [.ref a,p.2]):=by rw [cU nbD];exact hb
   have ha2:upd H D (.dT kvs) a=some (.tup (p.1.map kV)):=by rw [cU naD];exact ha
   obtain ⟨itb,rb,plb,_⟩:=I.tuple (fF.of hb2);obtain ⟨ua,uv,rfl,ra,rv⟩:=UI rb;cases ra;have nb:b≠it:=λe=>by have:=fp.1;rw [<-e,hb2] at this;cases this
   obtain ⟨z,hdm,xs,rel,o,es,ep,h1,h2,h3,h4,h5⟩:=(show eU X.prog X.w (upd H D (.dT kvs)) s.heap D (.dT kvs) from I.hok D _ bI);have hturn:∀h' tk,(∀c o,c≠it->s.heap.get? c=some o->h'.get? c=some o)->cF X pins σ (upd H D (.dT kvs)) { s with heap:=h',toks:=tk }:=λh' tk kp =>
    I.turnedL (t':=tk) (fp:=[it]) (λb o hb x=>kp b o (by simpa using hb) x) (λb hb=>by
     cases (show b=it by simpa using hb);exact fp)
   have lxs:xs.length=kvs.length:=(Paired.length rel).symm;refine KU (knd:=tupleKind (dU X.prog X.w)) (xs:=xs) (k:=p.1) (v:=uv) (b:=b) (a:=a) (show _<_ by show X.A.in1.in1.units<cLine;exact aQ (show X.A.in1.in1.units<=X.A.units+2 from aJ _) Oo) hit pl (by simpa using hu') plb nb (λh' kp=>⟨mW (hturn h' s.toks kp).hok ha2,o,es,ep,kp D o (Ne.symm nit) h1,h2,h3,h4,KT.isAll (hturn h' s.toks kp).hok rel,h5⟩) (Ne.symm nit) Oo λhh1 hh2 tk kp hs2 hm2 hit2=>?_;have I1:=hturn hh1 s.toks kp;obtain ⟨q,es2,ep2,hq2,g2,g3,g4,_,g5⟩:=hm2;have hkn:eN kvs p.1=none:=by
    rw [bO,aP] at nd;have hnot:=(List.nodup_append.mp nd).2.2;cases hv:eN kvs p.1 with
    | none=>rfl
    | some v=>exact absurd rfl (hnot _ (qB hv) p.1 (aL ..))
   have hlp:(iG kvs p.1 p.2).length<=sizeLine:=by
    have h6:=gR kvs p.1 p.2;rw [aX,cS] at hz;have h7:(1000:Nat)<=sizeLine:=Dd;omega
   have I2:=pB (t':=tk) (ob:=.dT (iG kvs p.1 p.2)) I1 (by rw [bI];exact True.intro) hs2 ⟨q,hq2⟩ ⟨hlp,hdm,_,(KT.put (show KT (upd H D (.dT kvs)) kvs xs from rel) p.1 ha2 rv).keeps λc ys ec=>(by rw [cU (vH ec bI (λz=>nomatch z))];exact ec),q,es2,ep2,hq2,g2,g3,g4,g5⟩;rw [PX,vC p.2 hkn] at I2;refine xX hu hA hD ht nit rest (i+1) (kvs++[p]) _ I2 ?_ hit2 (by rw [hys'];exact pr') (by rw [List.append_assoc];exact nd) (by rw [List.append_assoc];exact hz) (by rw [List.append_assoc];exact k);refine ⟨?_,fp.2⟩;rw [cU nit];have:=fp.1;rw [cU nit] at this;exact this
@[irreducible] def zW:List V->Hp->VK->Prop:=λxs H Q=>∃(t:Addr) (ys:List V) (kvs:List (List dS × V)),xs=[.ref t]/\H t=some (.tup ys)/\Paired (HL H) ys kvs/\(kvs.map (·.1)).Nodup/\kvs.length<=1000/\∀D,H D=none->Q (.ref D) (upd H D (.dT kvs))
theorem rdcp{H:Hp}{Q:VK}{t:Addr}{ys:List V}{kvs:List (List dS × V)}(ht:H t=some (.tup ys))(pr:Paired (HL H) ys kvs)(nd:(kvs.map (·.1)).Nodup)(hz:kvs.length<=1000)(q:∀D H',H D=none->H' D=some (.dT kvs)->bE H H'->Q (.ref D) H'):zW [.ref t] H Q:=by
 unfold zW;exact ⟨t,ys,kvs,rfl,ht,pr,nd,hz,λD hD=>q D _ hD bI (bE.upd hD)⟩
theorem wF(hu:X.A.units+64<cLine)(hc:X.calm=true):iP X (.type "dict") zW:=by
 unfold zW;intro pins s σ H xs us Q I r h;obtain ⟨t,ys,kvs,rfl,ht,pr,nd,hz,q⟩:=h;obtain ⟨u,rfl,rx⟩:=lN r;cases rx;have hA:=I.ok.hd hc;refine callType_codes (Q₁:=λobj s₁=>obj=.ref s.heap.objs.size/\s₁={ s with heap:=s.heap.push { cls:=.type "dict",data:=.dict #[] } }) F.kt_called_dict (F.kt_typeCall_dict_1 _) F.entry_dict_init (kt_code_dict_new _ ⟨rfl,rfl⟩) ?_;rintro obj s₁ ⟨rfl,rfl⟩;have hD:=I.hok.fresh (aJ s.heap.objs.size);have I1:cF X pins σ (upd H s.heap.objs.size (.dT [])) { s with heap:=s.heap.push { cls:=.type "dict",data:=.dict #[] } }:=I.laid (a:=s.heap.objs.size) (o:=.dT []) (t':=s.toks) (λ_ _ q=>aB _ q) (aJ _) (vZ s.heap I.big);have htD:t≠s.heap.objs.size:=λe=>by subst e;rw [hD] at ht;cases ht
 have ht1:upd H s.heap.objs.size (.dT []) t=some (.tup ys):=by rw [cU htD];exact ht
 obtain ⟨⟨zt,ot,hot,hdt⟩,itt,rt,ot',hot',hct,nt,hdd⟩:=(show eU X.prog X.w (upd H s.heap.objs.size (.dT [])) (s.heap.push { cls:=.type "dict",data:=.dict #[] }) t (.tup ys) from I1.hok t _ ht1);rw [hot] at hot';cases hot';have hnew:(s.heap.push { cls:=.type "dict",data:=.dict #[] }).DictOf (dU X.prog X.w) s.heap.objs.size []:=Heap.DictOf.new s.heap;refine ⟨hnew.typeIs,F.args_dict_init_2 _ _,?_⟩;unfold Builtin.«dict.__init__»;refine wpAny_bind ?_;unfold Builtin.Dict.selfAndRest;refine wpAny_bind (wpAny_notOrdered_dict hnew.typeIs ?_);show wpAny _ _ (pure (s.heap.objs.size,[Value.ref t])) _ _ _;refine wpAny_pure ?_;show wpAny _ _ (Builtin.Dict.updateFrom "dict.__init__" s.heap.objs.size (.ref t) [] .none) _ _ _;unfold Builtin.Dict.updateFrom;refine wpAny_bind (wpAny_typeOf (T := "tuple") ⟨_,hot,hct⟩ ?_);rw [if_pos Dd];refine wpAny_bind (IW (s:={ s with heap:=s.heap.push { cls:=.type "dict",data:=.dict #[] } }) hot hct hdd hdt hA λh' tk kp=>?_);rw [if_pos (by rfl)];refine wpAny_bind (wpAny_rule ?_);refine wpAny_bind (wpAny_pyIter_tuple (s:={ s with heap:=h',toks:=tk }) (items:=itt.toArray) ⟨ot,kp t ot hot,hct,nt,hdd⟩ ?_);refine wpAny_pure ⟨Code.quiet_builtin _ Kk,?_⟩;have I2:cF X pins σ (upd H s.heap.objs.size (.dT [])) { s with heap:=h',toks:=tk }:=I1.kept (t':=tk) kp;have I3:cF X pins σ (upd H s.heap.objs.size (.dT [])) { s with heap:=h'.push { cls:=.type "tuple_iterator",data:=.fields #[.ref t,.int 0 0] },toks:=tk }:=I2.kept (t':=tk) λb o e=>aB _ e
 have hlt:s.heap.objs.size<h'.objs.size:=by
  obtain ⟨_,_,_,hg,_⟩:=hnew;exact aY (kp _ _ hg)
 have hfr:upd H s.heap.objs.size (.dT []) h'.objs.size=none:=I2.hok.fresh (aJ _);refine xX (D:=s.heap.objs.size) (it:=h'.objs.size) (t:=t) (ys:=ys) Oo hA hD ht (Nat.ne_of_gt hlt) kvs 0 [] _ I3 (I2.fpOk (aJ _) hfr) ⟨_,aU _ rfl,rfl,rfl⟩ (by simpa using pr) (by simpa using nd) (by simpa using hz) λs' I'=>⟨rfl,.ref _,_,I',rfl,?_⟩;rw [List.nil_append];exact q _ hD
end
end L2
namespace HT
open PySem PySem.Spec PyProof.Rows
section
variable{prog:Program}{w:World}{A:Around}{E:Value->Shared->Prop}{s:Shared}{it d:Addr}{es:Array DictEntry}{ep i:Nat}{od:Obj}
theorem SM{Q:Option Value->Shared->Prop}(hit:s.heap.IsKeyIter it d i es.size ep)(hod:s.heap.get? d=some od)(hdd:od.data=.dict es ep)(hi:i<es.size)
  (h:∀h',h'.IsKeyIter it d (i+1) es.size ep->Heap.SameBut it s.heap h'->Q (some es[i].key) { s with heap:=h' }):wpAny (model prog w) A (pyNext (.ref it)) Q E s:=by
 obtain ⟨⟨c0,dd0,data0,sl0⟩,ho,hc,hd⟩:=id hit;simp only at hc hd;subst hc hd;have hT:=hit.typeIs;unfold pyNext;refine wpAny_bind (wpAny_attempt (wpAny_callSpecial?_slot (name:=Str.ofString "__next__") hT F.slot_dict_keyiterator_next (wpAny_call_entry F.slot_dict_keyiterator_next hT F.entry_dict_keyiterator_next ?_ (F.args_dict_keyiterator_next_1 _))));have hn:(Value.ref d == Value.none)=false:=rfl;have hown:Builtin.Dict_items.ownsTuple "dict_keyiterator" = false:=Dd
 repeat (any_goals (first | assumption | (with_reducible refine wpAny_typeNameOfWhole_keyiter hT ?_) | (with_reducible refine wpAny_isOneOf_keyiter hT ?_) | (with_reducible refine wpAny_fieldsOf ho rfl ?_) | (with_reducible refine wpAny_dictEntries hod hdd ?_) | (with_reducible refine wpAny_dictEpoch hod hdd ?_) | wp_step))
 rw [if_neg (show ¬((i:Int)<0) by omega),Int.toNat_natCast,Array.getElem?_eq_getElem hi];have hit':(s.heap.update it (Obj.mapFields (·.setIfInBounds 1 (rawInt ((i:Int)+1))))).IsKeyIter it d (i+1) es.size ep :=
  ⟨_,Heap.get?_update_self _ ho (Obj.isFreed_of_fields (Obj.data_mapFields rfl _)),(Obj.cls_mapFields ..).trans rfl,by rw [Obj.data_mapFields rfl];simp [rawInt]⟩
 have hT':({ s with heap:=s.heap.update it (Obj.mapFields (·.setIfInBounds 1 (rawInt ((i:Int)+1)))) }:Shared).TypeIs (.ref it) "dict_keyiterator" := hit'.typeIs;have hfin:=h _ hit' (Heap.SameBut.update ..)
 repeat (any_goals (first | assumption | (with_reducible refine wpAny_typeNameOfWhole_keyiter hT ?_) | (with_reducible refine wpAny_isOneOf_keyiter hT ?_) | (with_reducible refine wpAny_isOneOf_keyiter hT' ?_) | (with_reducible refine wpAny_setField ho rfl (by rw [hown];simp) ?_) | wp_step))
 exact ⟨_,rfl,wpAny_pure hfin⟩
theorem YN{Q:Option Value->Shared->Prop}(hh:A.handled=none)(hit:s.heap.IsKeyIter it d i es.size ep)(hod:s.heap.get? d=some od)(hdd:od.data=.dict es ep)(hi:es.size<=i)
  (h:∀h',Heap.ExtBut it s.heap h'->Q none { s with heap:=h' }):wpAny (model prog w) A (pyNext (.ref it)) Q E s:=by
 obtain ⟨⟨c0,dd0,data0,sl0⟩,ho,hc,hd⟩:=id hit;simp only at hc hd;subst hc hd;have hT:=hit.typeIs;have hn:(Value.ref d == Value.none)=false:=rfl;have hown:Builtin.Dict_items.ownsTuple "dict_keyiterator" = false:=Dd;unfold pyNext;refine wpAny_bind (wpAny_attempt (wpAny_callSpecial?_slot (name:=Str.ofString "__next__") hT F.slot_dict_keyiterator_next (wpAny_call_entry F.slot_dict_keyiterator_next hT F.entry_dict_keyiterator_next ?_ (F.args_dict_keyiterator_next_1 _))))
 repeat (any_goals (first | assumption | (with_reducible refine wpAny_typeNameOfWhole_keyiter hT ?_) | (with_reducible refine wpAny_isOneOf_keyiter hT ?_) | (with_reducible refine wpAny_fieldsOf ho rfl ?_) | (with_reducible refine wpAny_dictEntries hod hdd ?_) | (with_reducible refine wpAny_dictEpoch hod hdd ?_) | wp_step))
 rw [if_neg (show ¬((i:Int)<0) by omega),Int.toNat_natCast,Array.getElem?_eq_none hi]
 repeat (any_goals (first | assumption | (with_reducible refine wpAny_typeNameOfWhole_keyiter hT ?_) | (with_reducible refine wpAny_setField ho rfl (by rw [hown];simp) ?_) | wp_step))
 simp only [raiseNew];refine wpAny_bind (wpAny_handled ?_);rw [show A.in1.handled=none from hh];refine wpAny_bind (wpAny_pure (wpAny_throw ?_));refine wpAny_bind (wpAny_isInstance (T := "StopIteration") (b:=true) ⟨_,aU _ rfl,rfl⟩ isSubtype_stop ?_);exact wpAny_pure (h _ (((Heap.SameBut.update ..).extBut.push _).push _))
theorem SN{Q:Value->Shared->Prop}(hd:(d == sysModules)=false)(hod:s.heap.get? d=some od)(hex:od.ExactDict)(hdd:od.data=.dict es ep)
  (hQ:Q (.ref s.heap.objs.size) { s with heap:=s.heap.push { cls:=.type "dict_keyiterator",data:=.fields #[.ref d,.int 0 0,.int es.size 0,.int ep 0] } }):wpAny (model prog w) A (pyIter (.ref d)) Q E s:=by
 have hT:s.TypeIs (.ref d) "dict" := ⟨od,hod,hex.1⟩;refine wpAny_pyIter_slot hT F.slot_dict_iter (wpAny_call_entry F.slot_dict_iter hT F.entry_dict_iter ?_ (F.args_dict_iter_1 _));unfold Builtin.«dict.__iter__»;refine wpAny_bind ?_;unfold Builtin.Dict.dictSlotNone;refine wpAny_bind (wpAny_notOrdered_dict hT ?_);show wpAny _ _ (pure (Value.ref d)) _ _ s;refine wpAny_pure ?_;have hm:(d == sysModules)=false:=hd
 repeat (any_goals (first | assumption | (with_reducible refine wpAny_dictEntries hod hdd ?_) | (with_reducible refine wpAny_dictEpoch hod hdd ?_) | wp_step))
 exact ⟨_,rfl, "dict_keyiterator",_,⟨_,aU _ rfl,rfl⟩,F.slot_dict_keyiterator_next.lookup,hQ⟩
end
end HT
namespace L2
open PySem PySem.Spec PySem.W PyProof.Rows HT
section
variable{X:Cx}{pins:List (Addr × Obj)}{σ:St}{H:Hp}{s:Shared}
theorem vE{α β:Type}{R:α->β->Prop}:∀{l:List α}{m:List β}{i:Nat}{a:α},Paired R l m->l[i]?=some a->∃b,m[i]?=some b/\R a b
 | _,_,i,a,.nil,h=>by simp at h
 | _,_,0,a,.cons r t,h=>by
  cases (show _=a by simpa using h);exact ⟨_,rfl,r⟩
 | _,_,i+1,a,.cons r t,h=>by
  obtain ⟨b,h1,h2⟩:=vE t (by simpa using h);exact ⟨b,by simpa using h1,h2⟩
end
section
variable{X:Cx}{tg:Expr}
end
end L2
namespace HT
open PySem PySem.Spec PyProof.Rows PySem.W
section
variable{prog:Program}{w:World}{A:Around}{d:Addr}{o:Obj}{es:Array DictEntry}{ep:Nat}
theorem HX(hh:A.handled=none)(I:Addr)(hne:d≠I)(hdat:o.data=.dict es ep) :
  Walks prog w A I [I,d] [I] es.size (λi v=>∃hi:i<es.size,v=es[i].key) (λi h=>h.IsKeyIter I d i es.size ep/\h.get? d=some o) where
 sub:=λb hb=>by simp at hb;simp [hb]
 frame:=λ_ _ _ st hk=>⟨st.1.at λo e=>hk I (by simp) o e,hk d (by simp) o st.2⟩
 item:=λi s Q E hi st hQ=>SM st.1 st.2 hdat hi λh' hit' hs' =>
  hQ _ h' s.toks ⟨hi,rfl⟩ ⟨hit',(hs'.2 d hne).trans st.2⟩ λb o hb e=>(hs'.2 b (λh=>hb (by simp [h]))).trans e
 done:=λs Q E st hQ=>YN hh st.1 st.2 hdat (aJ _) λh' he'=>hQ h' s.toks λb o hb e=>he' b o (λh=>hb (by simp [h])) e
 self:=λ_ _ _ _ st hQ=>wpAny_pyIter_keyiter st.1 hQ
theorem GL(lo:(d == sysModules)=false)(hex:o.ExactDict)(hdat:o.data=.dict es ep):KdlSrc prog w "dict" d d es.size (λi v=>∃hi:i<es.size,v=es[i].key) (λh=>h.get? d=some o) where
 type:=λ_ hm=>⟨o,hm,hex.1⟩
 there:=λ_ hm=>⟨aY hm,aY hm⟩
 keep:=λ_ _ hm hk=>hk d (.inl rfl) o hm
 notList:=Dd
 notTuple:=Dd
 hint:=λ_ _ _ _ hm hq=>kdl_hint_dict ⟨o,hm,hex.1⟩ hq
 iter:=λA s hh hm=>⟨_,_,λE Q hQ=>SN lo hm hex hdat hQ,HX hh _ (cK (aY hm)) hdat,⟨_,aU _ rfl,rfl,rfl⟩,aB _ hm⟩
end
end HT
namespace L2
open PySem PySem.Spec PySem.W PyProof.Rows HT
def wI(H:Hp)(kvs:List (List dS × V))(ys:List V):Prop:=ys.length=kvs.length/\∀(i:Nat) p,kvs[i]?=some p->∃b,ys[i]?=some (.ref b)/\H b=some (.tup (p.1.map kV))
section
variable{prog:Program}{w:World}{A:Around}{E:Value->Shared->Prop}{s:Shared}
theorem CZ{T:String}{r d:Addr}{n:Nat}{P:Nat->Value->Prop}{OK:Heap->Prop}{Q:List Value->Shared->Prop}(K:KdlSrc prog w T r d n P OK)(hh:A.handled=none)(hok:OK s.heap)(hn:n<=sizeLine)
  (hQ:∀h' tk (acc':Array Value),(∀b o,s.heap.get? b=some o->h'.get? b=some o)->ItemsOf P acc' n->Q acc'.toList { s with heap:=h',toks:=tk }) :
  wpAny (model prog w) A (collect (.ref r)) Q E s:=by
 have lt:=K.there _ hok;have at0:(s.heap.push (seqObj "list" #[] 0)).get? s.heap.objs.size=some { cls:=.type "list",data:=.seq #[] 0 }:=aU _ rfl
 let G:Result->Shared->Prop:=λa z=>∃g m l e,a=.ok (.ret (.ref s.heap.objs.size))/\z={ s with heap:=g,toks:=m }/\(∀b o,s.heap.get? b=some o->g.get? b=some o)/\g.get? s.heap.objs.size=some { cls:=.type "list",dict:=none,data:=.seq l e,slots:=#[] }/\ItemsOf P l n
 have ext:=kdl_extend (A:=A) (s:={ s with heap:=s.heap.push (seqObj "list" #[] 0) }) (R:=G) K hh (K.keep _ _ hok λb _ o e=>aB _ e) s.heap.objs.size (Nat.ne_of_gt lt.1) (Nat.ne_of_gt lt.2) (.ref s.heap.objs.size) 0 at0
  (λg m l e kp at1 it=>⟨g,m,l,e,rfl,rfl,λb o z=>kp b o (cK (aY z)) (aB _ z),at1,it⟩) hn
 unfold collect;refine wpAny_bind (wpAny_runValue (codeAny_builtin entry_proto_collect' ?_));rw [Around.under_plainId PySem.F.plain_proto_collect _];refine wpAny_bind (m:=newList []) (wpAny_newList (wpAny_pure ⟨plainId_quiet PySem.F.plain_list_iadd _,codeAny_builtin entry_list_iadd' ?_⟩));rw [Around.under_plainId PySem.F.plain_list_iadd _];refine wpAny_mono ext (λfin z y=>?_) λe z ⟨_,_,_,_,q,_⟩=>by cases q
 cases fin with
 | done f=>obtain ⟨g,m,l,e,q,rfl,kp,at1,it⟩:=y;cases q;exact wpAny_bind (wpAny_load at1 (wpAny_pure (hQ g m l kp it)))
 | again c=>exact ⟨y.1,codeAny_mono y.2 λq z ⟨g,m,l,e,eq,ez,kp,at1,it⟩=>by subst eq ez;exact wpAny_bind (wpAny_load at1 (wpAny_pure (hQ g m l kp it)))⟩
theorem EF{x:Value}{Q:Value->Shared->Prop}
  (h:wpAny (model prog w) A.in1 (collect x) (λvs s1=>∃h1 tk cs,s1={ s with heap:=h1,toks:=tk }/\(∀b o,s.heap.get? b=some o->h1.get? b=some o)/\iN h1 vs cs/\vs.length<64 /\
   ∀(p:Array Nat) (h':Heap) (D:Addr) (c:Nat),fL vs.length p->(BD vs.length (DL cs)->wL (DL cs) p vs.length)->(∀b o,h1.get? b=some o->h'.get? b=some o)->h1.objs.size<=D->h'.get? D=some (seqObj "list" (List.toArray (p.toList.map λi=>vs.getD i Value.none)) c)->Q (.ref D) { s with heap:=h',toks:=tk }) E s) :
  wpAny (model prog w) A (call (.builtin "sorted") [x]) Q E s:=by
 refine Calls.call_function_entry kind_sorted plain_sorted entry_sorted (args_sorted1 _) ?_;unfold Builtin.«sorted»;refine wpAny_bind (m:=checkCount "sorted" 1 1 _) (wpAny_pure ?_);refine wpAny_bind (wpAny_mono h (λvs s1 ⟨h1,tk,cs,e,keep1,ht,h64,q⟩=>?_) λ_ _ e=>e);subst e;refine wpAny_bind (wpAny_newList ?_ (by rw [sizeLine_eq];omega));have hoL:(h1.push (seqObj "list" vs.toArray 0)).get? h1.objs.size=some (seqObj "list" vs.toArray 0):=aU _ rfl;have keep:∀b o,h1.get? b=some o->(h1.push (seqObj "list" vs.toArray 0)).get? b=some o:=λb o q=>aB _ q;show wpAny _ _ _ _ _ { s with heap:=h1.push (seqObj "list" vs.toArray 0),toks:=tk };refine wpAny_bind (wpAny_holding (wpAny_call_entry slot_list_sort ⟨_,hoL,rfl⟩ entry_list_sort ?body (args_list_sort _)));refine xJ (s:={ s with heap:=h1.push (seqObj "list" vs.toArray 0),toks:=tk }) hoL (ht.keep λb o hb _=>keep b o hb) h64 λp hp ho=>⟨_,rfl,wpAny_pure ⟨_,rfl,?_⟩⟩;unfold sortedHeap;have o1:((h1.push (seqObj "list" vs.toArray 0)).update h1.objs.size (Obj.mapSeq λ_=>#[])).get? h1.objs.size=some (seqObj "list" #[] _):=get?_update_seq hoL (λ_=>#[]);have o2:=aB (seqObj "list" #[] 0) (aB (seqObj "tuple" vs.toArray 0) o1);refine q p _ h1.objs.size _ hp ho (λb o e=>?_) (aJ _) (get?_update_seq o2 λ_=>List.toArray (p.toList.map λi=>vs.getD i Value.none));have hlt:b<h1.objs.size:=aY e;have hne:b≠h1.objs.size:=cK hlt;rw [iA _ _ _ _ hne];exact aB _ (aB _ (by rw [iA _ _ _ _ hne];exact keep b o e))
end
theorem VI{X:Cx}{pins:List (Addr × Obj)}{σ:St}{H:Hp}{s:Shared}(I:cF X pins σ H s){d:Addr}{kvs:List (List dS × V)}(e:H d=some (.dT kvs)):(d == sysModules)=false/\(kvs.map (·.1)).Nodup/\∃o,s.heap.get? d=some o/\o.ExactDict/\∃es ep,o.data=.dict es ep/\es.size=kvs.length /\
  ∀(i:Nat) (hi:i<es.size) p,kvs[i]?=some p->∃b,es[i].key=.ref b/\H b=some (.tup (p.1.map kV)):=by
 obtain ⟨z,hd,xs,rel,o,es,ep,h1,h2,h3,h4,h5⟩:=(show eU X.prog X.w H s.heap d (.dT kvs) from I.hok d _ e);have hl:es.size=kvs.length:=by
  have:=congrArg List.length h4;rw [aA,<-Paired.length rel] at this;simpa using this
 have hk:kvs.map (·.1)=xs.map (·.1):=by
  clear h4 h5 hl e z
  induction rel with
  | nil=>rfl
  | cons r t ih=>rw [aP,aP,r.1,ih]
 refine ⟨hd,hk ▸ h5,o,h1,h2,es,ep,h3,hl,λi hi p hp=>?_⟩;obtain ⟨x,hx,r1,r2,r3⟩:=vE rel hp;have he:es.toList[i]?=some (entryOfKey (tupleKind (dU X.prog X.w)) x):=by rw [h4,aH,hx];rfl
 have he2:es[i]=entryOfKey (tupleKind (dU X.prog X.w)) x:=by
  have:es.toList[i]?=some es[i]:=by simp [hi]
  rw [this] at he;injection he
 rw [he2];exact ⟨x.2.1,rfl,r2⟩
abbrev kyI(c:List Int):List dS:=c.map Sum.inl
theorem kyV(c:List Int):(kyI c).map kV=c.map V.int:=by rw [List.map_map];rfl
@[irreducible] def zT:List V->Hp->VK->Prop:=λxs H Q=>∃(d:Addr) (kvs:List (List dS × V)) (cs:List (List Int)),xs=[.ref d]/\H d=some (.dT kvs)/\kvs.map (·.1)=cs.map kyI/\(∀c∈cs,c≠[])/\cs.length<64 /\
 ∀q (ys:List V) (ds:List (List Int)) H',ds.Perm cs->ds.Pairwise (λa b=>kN a b=true)->H q=none->H' q=some (.lst ys)->bD H' (ds.map λc=>PyData.tuple (c.map .int)) ys->bE H H'->Q (.ref q) H'
theorem rsrd{H:Hp}{Q:VK}{d:Addr}{kvs:List (List dS × V)}{cs:List (List Int)}(h:H d=some (.dT kvs))(hk:kvs.map (·.1)=cs.map kyI)(hc:∀c∈cs,c≠[])(hz:cs.length<64)
  (q:∀q (ys:List V) (ds:List (List Int)) H',ds.Perm cs->ds.Pairwise (λa b=>kN a b=true)->H q=none->H' q=some (.lst ys)->bD H' (ds.map λc=>PyData.tuple (c.map .int)) ys->bE H H'->Q (.ref q) H'):zT [.ref d] H Q:=by
 unfold zT;exact ⟨d,kvs,cs,rfl,h,hk,hc,hz,q⟩
theorem AU{X:Cx}(hc:X.calm=true):iP X (.builtin "sorted") zT:=by
 unfold zT;intro pins s σ H xs us Q I r h;obtain ⟨d,kvs,cs,rfl,hq,hk,hne,hz,q⟩:=h;obtain ⟨u,rfl,rx⟩:=lN r;cases rx;obtain ⟨hm,hnd,o,hod,hex,es,ep,hdd,hsz,hat⟩:=VI I hq;have lk:kvs.length=cs.length:=by have:=congrArg List.length hk;simpa using this
 refine EF (CZ (GL hm hex hdd) (show X.A.in1.handled=none from I.ok.hd hc) hod (by rw [sizeLine_eq];omega) λh1 tk acc kp hacc=>?_);obtain ⟨la,hacc⟩:=hacc;have I1:cF X pins σ H { s with heap:=h1,toks:=tk }:=I.kept kp;have key:∀(n:Nat) (l:List Value),l.length=n->∀(m:List (List Int)),m.length=n->(∀(i:Nat) v c,l[i]?=some v->m[i]?=some c->∃b,v=.ref b/\H b=some (.tup (c.map V.int)))->∃ys:List V,cZ ys l/\bD H (m.map λc=>PyData.tuple (c.map .int)) ys:=by
  intro n
  induction n with
  | zero =>
   intro l hl m hm _;cases l with
   | nil=>cases m with
    | nil=>exact ⟨[],.nil,bD.nil⟩
    | cons _ _=>simp at hm
   | cons _ _=>simp at hl
  | succ n ih =>
   intro l hl m hm hk;cases l with
   | nil=>simp at hl
   | cons v l=>cases m with
    | nil=>simp at hm
    | cons c m =>
     obtain ⟨b,rfl,hb⟩:=hk 0 v c rfl rfl;obtain ⟨ys,hv,hy⟩:=ih l (by simpa using hl) m (by simpa using hm) λi v p h1 h2=>hk (i+1) v p (by simpa using h1) (by simpa using h2);have rb:∀c:List Int,bD H (c.map PyData.int) (c.map V.int):=λc=>by
      induction c with
      | nil=>exact bD.nil
      | cons x c ih=>exact bD.cons (cA.int _) ih
     exact ⟨.ref b::ys,.cons rfl hv,bD.cons (cA.tup hb (rb c)) hy⟩
 have lacc:acc.toList.length=cs.length:=by rw [Array.length_toList,la,hsz,lk]
 obtain ⟨ys,hv,hy⟩:=key cs.length acc.toList lacc cs rfl λi v c e1 e2=>by
  obtain ⟨hi,e⟩:=hacc i v (by rw [<-Array.getElem?_toList];exact e1);have hp:∃p,kvs[i]?=some p/\p.1=kyI c:=by
   have:(kvs.map (·.1))[i]?=some (kyI c):=by rw [hk,aH,e2];rfl
   rw [aH] at this;obtain ⟨p,h1,h2⟩:=Option.map_eq_some_iff.mp this;exact ⟨p,h1,h2⟩
  obtain ⟨p,hp1,hp2⟩:=hp;obtain ⟨b,k1,k2⟩:=hat i hi p hp1;rw [hp2,kyV] at k2;exact ⟨b,by rw [e,k1],k2⟩
 have hnd2:cs.Nodup:=by
  rw [hk] at hnd;exact List.Pairwise.of_map _ (λa b h e=>h (by rw [e])) hnd
 have lys:ys.length=cs.length:=by rw [hy.len,aA]
 refine ⟨h1,tk,cs,rfl,kp,yX I1 hy hne hv,Oo,λpm h' D c hg ho keep hD hget=>?_⟩;have hperm:pm.toList.Perm (List.range cs.length):=by
  have:=(Array.perm_iff_toList_perm.mp hg);rw [<-lacc];simpa using this
 have hlt:∀i∈pm.toList,i<ys.length:=λi hi=>by
  have:=hperm.mem_iff.mp hi;rw [lys];simpa using this
 have hl2:(pm.toList.map λi=>ys.getD i .non).length=cs.length:=by rw [aA,hperm.length_eq,bH]
 have hn:=I1.hok.fresh hD;have sm:bE H (upd H D (.lst (pm.toList.map λi=>ys.getD i .non))):=bE.upd hn;refine ⟨.ref D,upd H D (.lst (pm.toList.map λi=>ys.getD i .non)),I1.laid (t':=tk) keep hD ⟨by rw [hl2,sizeLine_eq];omega,_,c,yU hv _ hlt,hget⟩,rfl,?_⟩;have ha:=ho (lacc ▸ MP hnd2);have hsz2:=hg.size;have hpm:(pm.toList.map λi=>cs.getD i []).Perm cs:=by
  have h1:=hperm.map λi=>cs.getD i [];have e:(List.range cs.length).map (λi=>cs.getD i [])=cs:=by
   apply List.ext_getElem?;intro i;rw [aH];by_cases hi:i<cs.length
   ·rw [bP hi,aC hi,Option.map_some,aT,aC hi];rfl
   ·rw [dI (by simpa using hi),dI Oo];rfl
  rwa [e] at h1
 refine q D _ (pm.toList.map λi=>cs.getD i []) _ hpm ?_ hn bI ?_ sm
 ·rw [List.pairwise_map,List.pairwise_iff_getElem];intro i j hi hj hij;have hi':i<pm.size:=by simpa using hi
  have hj':j<pm.size:=by simpa using hj
  have e1:pm.toList[i]=pm.getD i 0:=by rw [Array.getElem_toList];exact (by simp [Array.getD,hi']:pm.getD i 0=pm[i]).symm
  have e2:pm.toList[j]=pm.getD j 0:=by rw [Array.getElem_toList];exact (by simp [Array.getD,hj']:pm.getD j 0=pm[j]).symm
  rw [e1,e2];exact ha i j hij (by rw [<-hsz2];exact hj')
 ·have rep:∀ix:List Nat,(∀i∈ix,i<cs.length)->bD H ((ix.map λi=>cs.getD i []).map λc=>PyData.tuple (c.map .int)) (ix.map λi=>ys.getD i .non):=λix=>by
   induction ix with
   | nil=>exact λ_=>bD.nil
   | cons i ix ih =>
    intro h;have hi:=h i (aL ..);have hd:(cs.map λc=>PyData.tuple (c.map .int))[i]?=some (PyData.tuple ((cs.getD i []).map .int)):=by
     rw [aH,aT,aC hi];rfl
    obtain ⟨x,hx,rx⟩:=hy.get' hd;have e2:ys.getD i .non=x:=by rw [aT,hx];rfl
    refine bD.cons ?_ (ih λj hj=>h j (aM _ hj));show cA H _ (ys.getD i .non);rw [e2];exact rx
  exact (rep pm.toList λi hi=>by rw [<-lys];exact hlt i hi).same sm
end L2
namespace HT
open PySem PySem.Spec PyProof.Rows PySem.W
section
variable{prog:Program}{w:World}{A:Around}{E:Value->Shared->Prop}{s:Shared}{it d:Addr}{es:Array DictEntry}{ep i:Nat}{od:Obj}
end
end HT
namespace L2
open PySem PySem.Spec PySem.W PyProof.Rows HT
section
variable{X:Cx}{tg:Expr}
end
section
variable{X:Cx}{o e:Expr}{apos cpos:Pos}{td ty:TE}
theorem FM(hu:X.A.units+1<cLine)(ho:hZ X o td)(he:hZ X e ty)(base:attributeBase o "get" X.env (eval o X.env)=eval o X.env:=by rfl)
  (few:((backTo cpos (starEach [e] X.env)).all (λx=>!x.1)&&(backToKw cpos (keywordEach [] X.env)).all (λx=>x.1.isSome)&&decide (([e]:List Expr).length+([]:List Keyword).length+(if ([]:List Keyword).isEmpty then 0 else 1)<30))=true:=by rfl)
  (line:(apos.endLine == cpos.line)=true:=by rfl) (trees:backTo cpos (starEach [e] X.env)=[(false,eval e X.env)]:=by rfl):hZ X (.Call (.Attribute o "get" apos) [e] [] cpos) (LC td ty):=⟨MN hu ho.p he.p ⟨base,few,line,trees⟩⟩
end
end L2
namespace L2
open PySem
section
variable{js:List Nat}{te:TE}{tc:TT}{σ:St}{H:Hp}{Q:VK}
end
end L2
namespace L2
open PySem PySem.Spec PyProof.Rows
section
variable{X:Cx}{pins:List (Addr × Obj)}{σ:St}{H:Hp}{s:Shared}{scope:Scope}{x x2:Str}{N':List Str}{js:List Nat}{fp:List Addr}
end
section
variable{X:Cx}{pins:List (Addr × Obj)}{σ:St}{H:Hp}{s:Shared}{scope:Scope}{x:Str}{N':List Str}{js:List Nat}{fp:List Addr}{elt iter:Expr}{px pos:Pos}{tg:Expr}{x2:Str}{te:TE}
end
section
variable{X:Cx}{scope:Scope}{x x2 y:Str}{N':List Str}{js:List Nat}{elt iter tg:Expr}{py pos spos:Pos}{te:TE}{wi:TI}{i:Nat}
end
end L2
namespace HT
open PySem PySem.Spec PyProof.Rows
section
variable{prog:Program}{w:World}{A:Around}{E:Value->Shared->Prop}{s:Shared}{d:Addr}{o:Obj}{es:Array DictEntry}{ep:Nat}
end
end HT
namespace L2
open PySem PySem.Spec PySem.W PyProof.Rows HT
theorem sI(c:List Int):(c.map (Sum.inl:Int->dS)).map kV=c.map V.int:=by rw [List.map_map];rfl
abbrev kT(c:List Int):List dS:=c.map Sum.inl
theorem lH{a b:List Int}(h:kT a=kT b):a=b:=by
 have:∀{a b:List Int},kT a=kT b->a=b:=by
  intro a
  induction a with
  | nil=>intro b h;cases b with
   | nil=>rfl
   | cons _ _=>cases h
  | cons x a ih=>intro b h;cases b with
   | nil=>cases h
   | cons y b =>
    injection h with h1 h2;injection h1 with h1;rw [h1,ih h2]
 exact this h
section
variable{X:Cx}{o e f k v:Expr}{apos cpos pos:Pos}{td ty tx tk tv:TE}
@[irreducible] def QV(p:Addr)(x y:V)(H2:Hp)(Q:VK):Prop:=∃b k,x=.ref b/\H2 b=some (.tup (k.map kV))/\H2 p=some (.dT [])/\Q (.ref p) (upd H2 p (.dT [(k,y)]))
def VZ(tk tv:TE):TE:=λσ H Q=>∀p,H p=none->tk σ (upd H p (.dT [])) λx H1=>tv σ H1 λy H2=>QV p x y H2 Q
theorem aBR{p b:Addr}{y:V}{H:Hp}{Q:VK}{c:List Int}(hb:H b=some (.tup (c.map V.int)))(hp:H p=some (.dT []))(q:∀H',H' p=some (.dT [(kT c,y)])->aR p H H'->Q (.ref p) H'):QV p (.ref b) y H Q:=by
 unfold QV;exact ⟨b,kT c,rfl,by rw [sI];exact hb,hp,q _ bI aR.self⟩
theorem KQ(hu:X.A.units+1<cLine)(hk:hZ X k tk)(hv:hZ X v tv):hZ X (.Dict [some k] [v] pos) (VZ tk tv):=⟨by
 intro pins s σ H Q I q;have hn:=I.hok.fresh (aJ s.heap.objs.size);have I1:=I.laid (a:=s.heap.objs.size) (o:=.dT []) (h':=s.heap.push { cls:=.type "dict",data:=.dict #[] }) (t':=s.toks) (λ_ _ q=>aB _ q) (aJ _) (vZ s.heap I.big);refine wpAny_Dict_any rfl rfl (by simp) (show 1<=15 by decide) (pairTrees_cons_walk (thn (hk.p pins _ σ _ _ I1 (q _ hn)) λu s1 ⟨x,H1,I1,rx,q1⟩=>thn (hv.p pins s1 σ H1 _ I1 q1) λw2 s2 ⟨y,H2,I2,ry,q2⟩=>pairTrees_nil_walk ?_));unfold QV at q2;obtain ⟨b,kk,rfl,eb,e,q3⟩:=q2;cases (show u=Value.ref b from rx);obtain ⟨z,hd,xs,rel,dd⟩:=GY I2.hok e;unfold storeAll;rw [List.forIn_cons];refine wpAny_bind (wpAny_bind (wpAny_dictSet_heap (show X.A.units<cLine by omega) (mW I2.hok eb) dd (λh' dd' hs=>wpAny_pure ?_) (by rw [<-Paired.length rel];exact z)));dsimp only;rw [List.forIn_nil];refine wpAny_pure ?_;obtain ⟨q,es,ep,hq,h2,h3,h4,_,h5⟩:=dd';refine ⟨.ref _,_,?_,rfl,q3⟩;have hl:([(kk,y)]:List (List dS × V)).length<=sizeLine:=by show 1<=sizeLine;decide
 refine pB I2 (by rw [e];exact True.intro) hs ⟨q,hq⟩ ⟨hl,hd,_,(rel.put kk eb ry).keeps λc ys ec=>?_,q,es,ep,hq,h2,h3,h4,h5⟩;rw [cU (vH ec e (λz=>nomatch z))];exact ec⟩
theorem yT(hu:X.A.units+1<cLine)(ho:hZ X o td)(he:hZ X e ty)(hf:hZ X f tx)(base:attributeBase o "get" X.env (eval o X.env)=eval o X.env:=by rfl)
  (few:((backTo cpos (starEach [e,f] X.env)).all (λx=>!x.1)&&(backToKw cpos (keywordEach [] X.env)).all (λx=>x.1.isSome)&&decide (([e,f]:List Expr).length+([]:List Keyword).length+(if ([]:List Keyword).isEmpty then 0 else 1)<30))=true:=by rfl)
  (line:(apos.endLine == cpos.line)=true:=by rfl) (trees:backTo cpos (starEach [e,f] X.env)=[(false,eval e X.env),(false,eval f X.env)]:=by rfl):hZ X (.Call (.Attribute o "get" apos) [e,f] [] cpos) (LB td ty tx):=⟨MM hu ho.p he.p hf.p ⟨base,few,line,trees⟩⟩
@[irreducible] def QT(b:Bool):R2:=λx y H Q=>∃a o,y=.ref a/\jP H a x o/\Q (.bl (xor b o.isSome)) H
theorem rind{b:Bool}{x:V}{a:Addr}{o:Option V}{H:Hp}{Q:VK}(g:jP H a x o)(q:Q (.bl (xor b o.isSome)) H):QT b x (.ref a) H Q:=by unfold QT;exact ⟨a,o,rfl,g,q⟩
theorem YH(hu:X.A.units+1<cLine):pW X (compareOp .In) (QT false):=by
 intro pins s σ H x y v u Q I rx ry h;unfold QT at h;obtain ⟨a,o,rfl,g,q⟩:=h;cases (show u=Value.ref a from ry);exact aCI hu I g rx λs3 I3=>⟨.bl _,H,I3,rfl,by simpa using q⟩
end
theorem dpT{H:Hp}{p b:Addr}{kvs:List (List dS × V)}{c:List Int}{v:V}{D:sW}{σ:St}(e:H p=some (.dT kvs))(eb:H b=some (.tup (c.map V.int)))(hl:kvs.length<=100000)(q:∀H',H' p=some (.dT (iG kvs (kT c) v))->aR p H H'->D.nx σ H') :
  rDP D σ (.ref p) (.ref b) v H:=by
 unfold rDP;exact ⟨p,_,rfl,BA.t (k:=kT c) e (by rw [sI];exact eb) (aQ hl Dd),q _ bI aR.self⟩
theorem jP.ct{H:Hp}{p b:Addr}{kvs:List (List dS × V)}{c:List Int}(e:H p=some (.dT kvs))(eb:H b=some (.tup (c.map V.int))):jP H p (.ref b) (eN kvs (kT c)):=jP.t e (by rw [sI];exact eb)
theorem dgT{H:Hp}{p b:Addr}{kvs:List (List dS × V)}{c:List Int}{v:V}{Q:VK}(e:H p=some (.dT kvs))(eb:H b=some (.tup (c.map V.int)))(hv:eN kvs (kT c)=some v)(q:Q v H):rDG (.ref p) (.ref b) H Q:=by
 unfold rDG;exact ⟨p,v,rfl,hv ▸ jP.ct e eb,q⟩
theorem wS{kvs:List (List dS × V)}{k:List dS}{v:V}(h:(eN kvs k).isSome=true):(iG kvs k v).map (·.1)=kvs.map (·.1):=by
 unfold iG;rw [jK,if_pos h,List.map_map];refine dR λp _=>?_;show (if p.1=k then (p.1,v) else p).1=p.1;split <;> rfl
end L2
namespace L2
open PySem PySem.Spec PyProof.Rows
structure eM(X:Cx)(scope:Scope)(xs:List Str)(N':List Str)(js:List Nat):Prop where
 calm:X.calm=true
 free:∀y∈scope.names,y.2=.free->X.env.kindOf y.1=some .cell
 cell:∀y∈scope.names,y.2 ≠ .cell
 kind:scope.kind=.function
 names:∀y∈scope.names,y.2=.local->scope.names.lookup y.1=some .local
 own:∀x∈xs,scope.names.lookup x=some .local
 nofl:∀y,(y,NameKind.free)∈scope.names->scope.names.lookup y=some .local->False
 len:N'.length=xs.length+js.length
 pre:∀(i:Nat) x,xs[i]?=some x->N'[i]?=some x
 nd:N'.Nodup
 slot:∀(i:Nat) (j:Nat),js[i]?=some j->∃y,N'[xs.length+i]?=some y/\X.N[j]?=some y/\(y,NameKind.free)∈scope.names
def AM:Nat->Nat->OQ
 | _,0=>YY
 | i,n+1=>NK (qY i) (AM (i+1) n)
def gN(K:PySem.W.Frag)(n:Nat):TG:=YX K n (AM 0 n)
theorem vV{H:Hp}{r:St}{Q:St->Hp->Prop}:∀(vs:List V) (pre os:St),os.length=vs.length->Q (pre++(vs.map some++r)) H->AM pre.length vs.length vs (pre++(os++r)) H Q
 | [],pre,[],_,q=>⟨rfl,q⟩
 | v::vs,pre,o::os,hl,q=>by
  refine ⟨v,vs,rfl,?_⟩;show AM (pre.length+1) vs.length vs ((pre++(o::os++r)).set pre.length (some v)) H Q;have e1:(pre++(o::os++r)).set pre.length (some v)=(pre++[some v])++(os++r):=by
   rw [List.set_append_right _ _ (aJ _),Nat.sub_self,List.append_assoc];rfl
  have e2:pre.length+1=(pre++[some v]).length:=by rw [aX];rfl
  rw [e1,e2];refine vV vs (pre++[some v]) os (by simpa using hl) ?_;rw [List.append_assoc];exact q
@[irreducible] def wK(K:PySem.W.Frag)(n:Nat)(J:It)(σ:St)(js:List Nat)(tc:TT)(te:TE)(H1:Hp)(Q:VK):Prop:=∀D,H1 D=none->∃W:Nat->Nat->List V->Hp->Prop,(∃m,W 0 m [] (upd H1 D (.lst []))) /\
 ∀i m ys H2,W i m ys H2->H2 D=some (.lst ys)/\((J.stop i H2/\Q (.ref D) H2)\/(J.go i H2/\ys.length<sizeLine/\∀x H3,J.yld i H2 x H3->∃a vs,x=.ref a/\fF K H3 a vs/\vs.length=n /\
  qC tc (vs.map some++slots σ js) H3 λb H4=>if b=true then yZ te (vs.map some++slots σ js) H4 λy H5=>H5 D=some (.lst ys)/\∃m',m' < m/\W (i+1) m' (ys++[y]) (upd H5 D (.lst (ys++[y])))
   else H4 D=some (.lst ys)/\∃m',m' < m/\W (i+1) m' ys H4))
def DU(K:PySem.W.Frag)(n:Nat)(wi:TI)(js:List Nat)(tc:TT)(te:TE):TE:=λσ H Q=>wi σ H λJ H1=>wK K n J σ js tc te H1 Q
section
variable{X:Cx}{pins:List (Addr × Obj)}{σ:St}{H:Hp}{s:Shared}{scope:Scope}{xs:List Str}{N':List Str}{js:List Nat}{fp:List Addr}
theorem eM.cells(S:eM X scope xs N' js)(ok:X.Ok):∀y∈scope.names,y.2=.free->∃c,X.env.cells.lookup y.1=some c:=λy hy hf=>ok.has _ (.inl (S.free y hy hf))
theorem SX(S:eM X scope xs N' js)(I:cF X pins σ H s)(hf:∀b∈fp,jE X pins H b)(hb:∀b∈fp,b<s.heap.objs.size):(kS X scope s.heap.objs.size fp s H N').Ok where
 mod:=I.ok.mod
 kind:=S.kind
 glob:=I.ok.glob
 blt:=I.ok.blt
 above:=aJ _
 inj:=λy z c h1 h2=>I.ok.inj y z c (gU (S.cells I.ok) h1) (gU (S.cells I.ok) h2)
 has:=λy hy=>by
  have hm:(y,NameKind.free)∈scope.names:=by
   rcases hy with hy | hy
   ·exact iF (env:=X.env) hy (.inl rfl) S.cell
   ·exact iF (env:=X.env) hy (.inr rfl) S.cell
  obtain ⟨c,hc⟩:=S.cells I.ok _ hm rfl;exact ⟨c,mI (S.cells I.ok) hm hc⟩
 cab:=λ_ _ h=>by cases h
 hd:=λ_=>I.ok.hd S.calm
 frames:=I.ok.frames
 stk:=.inl rfl
 exf:=λb hb'=>⟨λe=>by have:=hb b hb';rw [e] at this;exact cG _ this,λy c h=>(hf b hb').2.2.2.2.1 y c (gU (S.cells I.ok) h)⟩
 bs:=I.bs
 bsz:=aW I.ok.bsz I.sz
 noex:=λb o e hb'=>by
  rcases (hf b hb').2.2.2.1 with h | h
  ·exact I.ok.noex b o e h
  ·exact absurd (aV (aY e) (aW I.ok.bsz h)) (cG _)
 exfs:=λb hb' hs=>by
  have h2:=I.stkSub b hs;rcases bA.mp h2 with h2 | h2
  ·exact (hf b hb').2.1 h2
  ·exact (hf b hb').2.2.1 h2
 funs:=I.stack
 frf:=I.stkFree
theorem NT{h':Heap}{tk:Nat}(S:eM X scope xs N' js)(I:cF X pins σ H s)(hf:∀b∈fp,jE X pins H b)(hb:∀b∈fp,b<s.heap.objs.size)
  (hn:h'.Ns s.heap.objs.size (λ_=>none)) (hk:∀b o,s.heap.get? b=some o->h'.get? b=some o):cF (kS X scope s.heap.objs.size fp s H N') [] (List.replicate xs.length none++slots σ js) H { s with heap:=h',toks:=tk } where
 ok:=SX S I hf hb
 os:=rfl
 bare:=I.bare
 base:=Un.kept hk
 loc:=by
  refine ⟨_,hn,λi y v hi hv hvis=>?_⟩;by_cases hlt0:i<xs.length
  ·rw [bJ (by rw [bU];exact hlt0),List.getElem?_replicate,if_pos hlt0] at hv;cases hv
  ·obtain ⟨i,rfl⟩:∃k,i=xs.length+k:=⟨i-xs.length,Oo⟩;rw [cN (by rw [bU];omega),bU,Nat.add_sub_cancel_left] at hv;have hv':(slots σ js)[i]?=some (some v):=hv;have hlt:i<js.length:=by
    have:=(aN.mp hv').1;unfold slots at this
    rwa [aA] at this
   have hj:js[i]?=some js[i]:=aC hlt;obtain ⟨z,h1,h2,h3⟩:=S.slot i _ hj;have hzy:z=y:=by
    have:N'[xs.length+i]?=some y:=hi;rw [h1] at this;cases this;rfl
   subst hzy;rw [xK hj] at hv';have hσ:σ[js[i]]?=some (some v):=by
    cases q:σ[js[i]]? with
    | none=>rw [q] at hv';cases hv'
    | some o=>rw [q] at hv';cases hv';rfl
   have hkc:X.env.kindOf z=some .cell:=S.free _ h3 rfl;obtain ⟨m,hm,hl⟩:=I.loc;obtain ⟨u,ru,lk⟩:=hl _ z v h2 hσ (.inr (.inl hkc));rcases lk with ⟨hk1,_⟩ | ⟨_,c,hc,hcell⟩
   ·rw [hkc] at hk1;cases hk1
   ·refine ⟨u,ru,.inr ⟨?_,c,mI (S.cells I.ok) h3 hc,?_⟩⟩
    ·rcases hvis with hvis | hvis | hvis
     ·exfalso;have hcl:=mI (S.cells I.ok) h3 hc;have hm2:=mV (l:=(relabel scope X.env).names) hvis;unfold relabel at hm2;obtain ⟨⟨n,k⟩,hmem,he⟩:=aD.mp hm2;dsimp only at he;by_cases hq:(k == NameKind.free&&X.env.scope.kind == .function&&X.env.kindOf n == some .cell)=true
      ·rw [if_pos hq] at he;cases he
      ·rw [if_neg hq] at he;cases he;have:=S.names _ hmem rfl;have l2:=mU h3;obtain ⟨c',l2⟩:=l2;dsimp only at this;rw [this] at l2;have key:(relabel scope X.env).names.lookup z=some .local:=lookup_relabel_local this;have hck:scope.names.lookup z=some .local:=this;exact S.nofl z h3 hck
     ·exact .inl hvis
     ·exact .inr hvis
    ·obtain ⟨o,e,r⟩:=hcell;exact ⟨o,hk _ _ e,r⟩
 cell:=λy c h=>by
  obtain ⟨v,o,e,r⟩:=I.cell y c (gU (S.cells I.ok) h);exact ⟨v,o,hk _ _ e,r⟩
 free:=I.hok.fresh (aJ _)
 freeC:=λy c h=>I.freeC y c (gU (S.cells I.ok) h)
 pin:=λp hp=>by cases hp
 hok:=I.hok.kept hk
 len:=by
  rw [aX,bU];unfold slots;rw [aA];exact S.len.symm
theorem JH{H2:Hp}{σ':St}{s2:Shared}{h'':Heap}(S:eM X scope xs N' js)(I:cF X pins σ H s)(hf:∀b∈fp,jE X pins H b)
  (J:cF (kS X scope s.heap.objs.size fp s H N') [] σ' H2 s2) (hs:Heap.SameBut s.heap.objs.size s2.heap h''):cF X pins σ H2 { s2 with heap:=h'' }:=by
 have hC:H2 s.heap.objs.size=none:=J.free;have ne:∀{b:Addr} {o:Obj},s.heap.get? b=some o->b≠s.heap.objs.size:=λe q=>by
  have:=aY e;rw [q] at this;exact cG _ this
 refine I.call' (s':={ s2 with heap:=h'' }) (ch:=fp) (by rw [show ({ s2 with heap:=h'' }:Shared).os=s2.os from rfl];exact J.os) ?_ (J.hok.but hC λb u hb q=>hs.extBut b u hb q) J.bare λb hb=>⟨(hf b hb).2.2.2.1,(hf b hb).2.1,(hf b hb).2.2.2.2.1,(hf b hb).2.2.2.2.2⟩;have U:=J.base;exact {
  keep:=λb o e n h1 h2=>hs.extBut b o (ne e) (U.keep b o e n h1 h2)
  slot:=λb o e n h1 h2=>by
   obtain ⟨sl,q⟩:=U.slot b o e n h1 h2;exact ⟨sl,hs.extBut b _ (ne e) q⟩
  free:=U.free
  there:=λb o e h2=>by
   obtain ⟨o',q⟩:=U.there b o e h2;exact ⟨o',hs.extBut b _ (ne e) q⟩
  tups:=U.tups
  frzs:=U.frzs
  tbls:=U.tbls }
end
section
variable{X:Cx}{pins:List (Addr × Obj)}{σ:St}{H:Hp}{s:Shared}{scope:Scope}{xs:List Str}{N':List Str}{js:List Nat}{fp:List Addr}{elt iter:Expr}{px pos:Pos}{tg:Expr}{ifs:List Expr}{tc:TT}{te:TE}
theorem CY{J:It}{it:Addr}{tn:Nat->Heap->Prop}{RR:Value->Addr->Result->Shared->Prop}{E:Value->Shared->Prop}{Q:VK}
  (S:eM X scope xs N' js) (I:cF X pins σ H s) (T:DI X.prog X.w X.K tg J fp it tn) (h0:tn 0 s.heap) (hf:∀b∈fp,jE X pins H b)
  (hg:∀C fp s₀ H₀,PG (kS X scope C fp s₀ H₀ N') tg (gN X.K xs.length)) (ht:∀C fp s₀ H₀,OT (kS X scope C fp s₀ H₀ N') ifs tc) (he:∀C fp s₀ H₀,PE (kS X scope C fp s₀ H₀ N') elt te)
  (R:∀D,H D=none->∃W:Nat->Nat->List V->Hp->Prop,(∃m,W 0 m [] (upd H D (.lst []))) /\
   ∀i m ys H2,W i m ys H2->H2 D=some (.lst ys)/\((J.stop i H2/\Q (.ref D) H2)\/(J.go i H2/\ys.length<sizeLine/\∀x H3,J.yld i H2 x H3->∃a vs,x=.ref a/\fF X.K H3 a vs/\vs.length=xs.length /\
    tc (vs.map some++slots σ js) H3 λb H4=>if b=true then te (vs.map some++slots σ js) H4 λy H5=>H5 D=some (.lst ys)/\∃m',m' < m/\W (i+1) m' (ys++[y]) (upd H5 D (.lst (ys++[y])))
     else H4 D=some (.lst ys)/\∃m',m' < m/\W (i+1) m' ys H4)))
  (hRR:∀(D:Addr) (H3:Hp) (s3:Shared) (σ':St) (H':Hp) (s':Shared),cF X pins σ H3 s3->(∀b∈fp,jE X pins H3 b)->cF (kS X scope s3.heap.objs.size fp s3 H3 N') [] σ' H' s'->Q (.ref D) H'->RR (.ref D) s3.heap.objs.size (.ok .next) s') :
  wpAny (model X.prog X.w) X.A (newList []) (λacc s₃=>wpAny (model X.prog X.w) X.A (newFunctionEnv scope X.env.globals (EY X scope) [] X.env.qual none .none (some X.env)) (λcenv s₄ =>
   codeAny (model X.prog X.w) X.A (.compStart (.ListComp elt [⟨tg,iter,ifs,0⟩] scope pos) 0 (.ref it) acc { cenv with scope:=relabel scope X.env }) (RR acc cenv.locals) s₄) E s₃) E s:=by
 have hb:∀b∈fp,b<s.heap.objs.size:=λb hb=>by
  obtain ⟨o,e,_⟩:=T.obj 0 _ h0 b hb;exact aY e
 refine wpAny_newObj_type (wpAny_newFunctionEnv S.cell (by intro y hy;simp at hy) (λh₁ hns₁ hsb₁=>?_) S.kind);have hDn:H s.heap.objs.size=none:=I.hok.fresh (aJ _);obtain ⟨W,⟨m0,hw0⟩,hW⟩:=R _ hDn;have I3:cF X pins σ (upd H s.heap.objs.size (.lst [])) { s with heap:=s.heap.push { cls:=.type "list",dict:=none,data:=.seq ([]:List Value).toArray } }:=I.lnew (its:=[]) (ys:=[]) (t':=s.toks) .nil (cM _);have hf3:∀b∈fp,jE X pins (upd H s.heap.objs.size (.lst [])) b:=λb hb' =>
  ⟨by rw [cU (λe=>by have:=hb b hb';rw [e] at this;exact cG _ this)];exact (hf b hb').1,(hf b hb').2⟩
 have hb3:∀b∈fp,b<(s.heap.push { cls:=.type "list",dict:=none,data:=.seq ([]:List Value).toArray }).objs.size:=λb hb'=>by
  rw [eG];exact Nat.lt_succ_of_lt (hb b hb')
 have hkeep:∀b o,(s.heap.push { cls:=.type "list",dict:=none,data:=.seq ([]:List Value).toArray }).get? b=some o->h₁.get? b=some o:=λb o e =>
  hsb₁.extBut b o (λq=>by have:=aY e;rw [q] at this;exact cG _ this) (aB _ e)
 have J4:=NT (h':=h₁) (tk:=s.toks+([]:List (Str × Value)).length) S I3 hf3 hb3 hns₁ hkeep;have t4:tn 0 h₁:=T.keep 0 _ _ h0 λb hb' o e=>hkeep b o (aB _ e);have loop:codeAny (model X.prog X.w) X.A (.compLoop (.ListComp elt [⟨tg,iter,ifs,0⟩] scope pos) 0 (.ref it) (.ref s.heap.objs.size) (compEnvC scope (EY X scope) (s.heap.push { cls:=.type "list",dict:=none,data:=.seq ([]:List Value).toArray }).objs.size X.env))
   (RR (.ref s.heap.objs.size) (s.heap.push { cls:=.type "list",dict:=none,data:=.seq ([]:List Value).toArray }).objs.size) { s with heap:=h₁,toks:=s.toks+([]:List (Str × Value)).length }:=by
  refine rF (λn s'=>∃(i:Nat) (ys:List V) (H2:Hp) (os:St),os.length=xs.length/\cF (kS X scope _ fp _ _ N') [] (os++slots σ js) H2 s'/\tn i s'.heap/\(∀b∈fp,H2 b=none)/\W i n ys H2) ?_ m0 ⟨0,[],_,_,bU,J4,t4,λb hb'=>(hf3 b hb').1,hw0⟩;rintro n s' ⟨i,ys,H2,os,hos,J2,t2,f2,w2⟩;obtain ⟨hD,hcase⟩:=hW i n ys H2 w2;have Fp:∀b∈fp,jE (kS X scope (s.heap.push { cls:=.type "list",dict:=none,data:=.seq ([]:List Value).toArray }).objs.size fp { s with heap:=s.heap.push { cls:=.type "list",dict:=none,data:=.seq ([]:List Value).toArray } } (upd H s.heap.objs.size (.lst [])) N') [] H2 b:=λb hb' =>
   ⟨f2 b hb',(J2.ok.exf b hb').1,J2.ok.exfs b hb',.inl hb',(J2.ok.exf b hb').2,λp hp=>by cases hp⟩
  rcases hcase with ⟨hstop,hq⟩ | ⟨hgo,hz,hturn⟩
  ·refine wpAny_mono (T.done (kS X scope _ fp _ _ N') rfl rfl rfl rfl i [] s' _ H2 PF J2 Fp t2 hstop) (λr s1 ⟨hr,J5⟩=>?_) λ_ _ f=>f;subst hr;exact hRR _ _ _ _ _ _ I3 hf3 J5 hq
  ·refine wpAny_mono (T.item (kS X scope _ fp _ _ N') rfl rfl rfl rfl i [] s' _ H2 PF J2 Fp t2 hgo) (λr s1 ⟨u,hr,hx⟩=>?_) λ_ _ f=>f;subst hr;refine wpAny_mono hx (λ_ s2 ⟨v,H3,J3,rv,hy,t3,f3⟩=>?_) λ_ _ f=>f;have Fp3:∀b∈fp,jE (kS X scope (s.heap.push { cls:=.type "list",dict:=none,data:=.seq ([]:List Value).toArray }).objs.size fp { s with heap:=s.heap.push { cls:=.type "list",dict:=none,data:=.seq ([]:List Value).toArray } } (upd H s.heap.objs.size (.lst [])) N') [] H3 b:=λb hb' =>
    ⟨f3 b hb',(J3.ok.exf b hb').1,J3.ok.exfs b hb',.inl hb',(J3.ok.exf b hb').2,λp hp=>by cases hp⟩
   have P3:=J3.pinned Fp3 (T.obj (i+1) _ t3);have keepT:∀{σ':St} {Hx:Hp} {sx:Shared},cF (kS X scope (s.heap.push { cls:=.type "list",dict:=none,data:=.seq ([]:List Value).toArray }).objs.size fp { s with heap:=s.heap.push { cls:=.type "list",dict:=none,data:=.seq ([]:List Value).toArray } } (upd H s.heap.objs.size (.lst [])) N') ([]++sE fp s2.heap) σ' Hx sx->tn (i+1) sx.heap/\∀b∈fp,Hx b=none:=λJx =>
    ⟨T.keep (i+1) _ _ t3 λb hb' ob e=>(Jx.pin (b,ob) (bL _ (bL _ (jC hb' e)))).1,λb hb'=>by
     obtain ⟨ob,e,_⟩:=T.obj (i+1) _ t3 b hb';exact (Jx.pin (b,ob) (bL _ (bL _ (jC hb' e)))).2.1⟩
   obtain ⟨a,vs,ev,hq,hl,qe⟩:=hturn v H3 hy;subst ev;refine wpAny_mono (hg _ _ _ _ _ _ (os++slots σ js) H3 (.ref a) u (λσ' H'=>σ'=vs.map some++slots σ js/\H'=H3) P3 rv ⟨a,vs,rfl,hq,hl,?_⟩) (λ_ s5 ⟨σ5,H5,J5,e5,e6⟩=>?_) λ_ _ f=>f
   ·have:=vV (H:=H3) (r:=slots σ js) (Q:=λσ' H'=>σ'=vs.map some++slots σ js/\H'=H3) vs [] os (by rw [hos,hl]) ⟨rfl,rfl⟩;rw [hl] at this;exact this
   subst e5 e6;refine wpAny_mono (ht _ _ _ _ _ _ _ _ _ J5 qe) (λok s6 ⟨H6,J6,q6⟩=>?_) λ_ _ f=>f;dsimp only at q6;by_cases hok:ok=true
   ·rw [if_pos hok] at q6 ⊢;refine wpAny_mono (he _ _ _ _ _ _ _ _ _ J6 q6) (λy s7 ⟨w',H7,J7,r7,hD7,m',hm',w7⟩=>?_) λ_ _ f=>f;refine wpAny_mono (sG (X:=kS X scope _ fp _ _ N') _ _ _ _ (.ref s.heap.objs.size) [w'] (.ref s.heap.objs.size) [y] (λ_ H8=>H8=upd H7 s.heap.objs.size (.lst (ys++[w']))) J7 rfl (.cons r7 .nil) ⟨_,_,_,rfl,rfl,hD7,hz,rfl⟩) (λ_ s8 ⟨_,H8,J8,_,e8⟩=>?_) λ_ _ f=>f;subst e8;obtain ⟨k1,k2⟩:=keepT J8;exact ⟨m',hm',i+1,ys++[w'],_,vs.map some,by rw [aA,hl],J8.unpinned,k1,k2,w7⟩
   ·rw [if_neg hok] at q6 ⊢;obtain ⟨_,m',hm',w7⟩:=q6;obtain ⟨k1,k2⟩:=keepT J6;exact ⟨m',hm',i+1,ys,_,vs.map some,by rw [aA,hl],J6.unpinned,k1,k2,w7⟩
 refine codeAny_compStart_list loop (T.self X.A 0 _ _ _ t4 loop)
theorem BV{wi:TI}(S:eM X scope xs N' js)(hi:PI X tg iter wi)(hg:∀C fp s₀ H₀,PG (kS X scope C fp s₀ H₀ N') tg (gN X.K xs.length))(ht:∀C fp s₀ H₀,OT (kS X scope C fp s₀ H₀ N') ifs tc)(he:∀C fp s₀ H₀,PE (kS X scope C fp s₀ H₀ N') elt te)
  (hs:∀x,foldedSetIterable iter X.env x=pure x:=by intro _;rfl):PE X (.ListComp elt [⟨tg,iter,ifs,0⟩] scope pos) (DU X.K xs.length wi js tc te):=by
 intro pins s σ H Q I h;rw [eval_ListComp];refine wpAny_comprehension_free (use:=none) rfl hs (lI (S.cells I.ok)) S.kind S.names (wpAny_mono (hi pins s σ H _ I h) (λv s1 h1=>?_) λ_ _ e=>e);refine wpAny_mono h1 (λitv s2 ⟨it,fp,tn,J,H2,e,I2,T,t0,hf,R⟩=>?_) λ_ _ e=>e;subst e;refine CY (te:=yZ te) (tc:=qC tc) S I2 T t0 hf hg (λC fp s₀ H₀=>(ht C fp s₀ H₀).mono) (λC fp s₀ H₀=>(he C fp s₀ H₀).mono) (by unfold wK at R;exact R) ?_;intro D H3 s3 σ' H' s' I3 hf3 J3 q;obtain ⟨m,hm,_⟩:=J3.loc;exact ⟨m,hm,λh' hs'=>⟨.ref D,H',JH S I3 hf3 J3 hs',rfl,q⟩⟩
end
section
variable{X:Cx}{scope:Scope}{x1 x2 x3 y:Str}{N':List Str}{js:List Nat}{elt iter tg:Expr}{ifs:List Expr}{py pos spos:Pos}{tc:TT}{te:TE}{wi:TI}{i:Nat}
theorem BE{xs:List Str}{k:Nat}{x:Str}{p:Pos}(S:eM X scope xs N' js)(h:xs[k]?=some x)(C:Addr)(fp:List Addr)(s₀:Shared)(H₀:Hp):TZ (kS X scope C fp s₀ H₀ N') (.Name x p) (qY k) :=
 have l:=S.own x (aZ h)
 dD S.nd (S.pre k x h) (.inl (lookup_relabel_local l)) (.inr (lookup_relabel_local l))
theorem VT{p1 p2 pt:Pos}{kk:Nat}(S:eM X scope [x1,x2] N' js)(C:Addr)(fp:List Addr)(s₀:Shared)(H₀:Hp):TZ (kS X scope C fp s₀ H₀ N') (.Tuple [.Name x1 p1,.Name x2 p2] kk pt) (gN X.K 2) :=
 lC rfl (dM (BE S rfl C fp s₀ H₀) (dM (BE S rfl C fp s₀ H₀) jF))
theorem KO{p1 p2 p3 pt:Pos}{kk:Nat}(S:eM X scope [x1,x2,x3] N' js)(C:Addr)(fp:List Addr)(s₀:Shared)(H₀:Hp):TZ (kS X scope C fp s₀ H₀ N') (.Tuple [.Name x1 p1,.Name x2 p2,.Name x3 p3] kk pt) (gN X.K 3) :=
 lC rfl (dM (BE S rfl C fp s₀ H₀) (dM (BE S rfl C fp s₀ H₀) (dM (BE S rfl C fp s₀ H₀) jF)))
theorem rR{p1 p2 pt:Pos}{kk:Nat}(S:eM X scope [x1,x2] N' js)(hi:PD X (.Tuple [.Name x1 p1,.Name x2 p2] kk pt) iter wi)(ht:∀C fp s₀ H₀,JY (kS X scope C fp s₀ H₀ N') ifs tc)(he:∀C fp s₀ H₀,hZ (kS X scope C fp s₀ H₀ N') elt te)
  (hs:∀x,foldedSetIterable iter X.env x=pure x:=by intro _;rfl):hZ X (.ListComp elt [⟨.Tuple [.Name x1 p1,.Name x2 p2] kk pt,iter,ifs,0⟩] scope pos) (DU X.K 2 wi js tc te) :=
 ⟨BV S hi.p (λC fp s₀ H₀=>(VT S C fp s₀ H₀).p) (λC fp s₀ H₀=>(ht C fp s₀ H₀).p) (λC fp s₀ H₀=>(he C fp s₀ H₀).p) hs⟩
theorem rQ{p1 p2 p3 pt:Pos}{kk:Nat}(S:eM X scope [x1,x2,x3] N' js)(hi:PD X (.Tuple [.Name x1 p1,.Name x2 p2,.Name x3 p3] kk pt) iter wi)(ht:∀C fp s₀ H₀,JY (kS X scope C fp s₀ H₀ N') ifs tc)(he:∀C fp s₀ H₀,hZ (kS X scope C fp s₀ H₀ N') elt te)
  (hs:∀x,foldedSetIterable iter X.env x=pure x:=by intro _;rfl):hZ X (.ListComp elt [⟨.Tuple [.Name x1 p1,.Name x2 p2,.Name x3 p3] kk pt,iter,ifs,0⟩] scope pos) (DU X.K 3 wi js tc te) :=
 ⟨BV S hi.p (λC fp s₀ H₀=>(KO S C fp s₀ H₀).p) (λC fp s₀ H₀=>(ht C fp s₀ H₀).p) (λC fp s₀ H₀=>(he C fp s₀ H₀).p) hs⟩
end
def NW(psc scope:Scope)(N:List Str)(xs N':List Str)(js:List Nat):Bool :=
 (scope.names.all λy=>!(y.2 == .free) || psc.names.lookup y.1 == some .cell)&&(scope.names.all λy=>!(y.2 == .cell))&&scope.kind == .function &&
 (scope.names.all λy=>!(y.2 == .local) || scope.names.lookup y.1 == some .local)&&(xs.all λx=>scope.names.lookup x == some .local) &&
 (scope.names.all λy=>!(y.2 == .free) || !(scope.names.lookup y.1 == some .local))&&N'.length == xs.length+js.length&&N'.take xs.length == xs&&decide N'.Nodup &&
 ((List.range js.length).all λi=>match js[i]?,N'[xs.length+i]? with
  | some j,some y=>N[j]? == some y&&scope.names.contains (y,NameKind.free)
  | _,_=>false)
theorem eM.of{X:Cx}{psc scope:Scope}{N:List Str}{xs N':List Str}{js:List Nat}(h:NW psc scope N xs N' js=true)(hX:X.env.scope=psc)(hN:X.N=N)(hc:X.calm=true):eM X scope xs N' js:=by
 unfold NW at h;simp only [dP] at h;obtain ⟨⟨⟨⟨⟨⟨⟨⟨⟨h1,h2⟩,h3⟩,h4⟩,h5⟩,h6⟩,h7⟩,h8⟩,h9⟩,h10⟩:=h;rw [List.all_eq_true] at h1 h2 h4 h5 h6 h10;refine ⟨hc,λy hy e=>?_,λy hy e=>?_,by simpa using h3,λy hy e=>?_,λx hx=>by simpa using h5 x hx,λy hy e=>?_,by simpa using h7,λi x hx=>?_,of_decide_eq_true h9,λi j hj=>?_⟩
 ·have:=h1 y hy;rw [e] at this;show X.env.scope.names.lookup y.1=_;rw [hX];simpa using this
 ·have:=h2 y hy;rw [e] at this;simp at this
 ·have:=h4 y hy;rw [e] at this;simpa using this
 ·have:=h6 _ hy;rw [e] at this;simp at this
 ·have e8:N'.take xs.length=xs:=by simpa using h8
  have hi:i<xs.length:=(aN.mp hx).1;rw [<-hx]
  conv=>rhs;rw [<-e8]
  rw [List.getElem?_take,if_pos hi]
 ·have hi:i<js.length:=(aN.mp hj).1;have:=h10 i (dC.mpr hi);rw [hj] at this;cases q:N'[xs.length+i]? with
  | none=>rw [q] at this;simp at this
  | some y =>
   rw [q] at this;simp only [dP] at this;exact ⟨y,rfl,by rw [hN];simpa using this.1,List.contains_iff_mem.mp this.2⟩
theorem xN{α β:Type}{R:α->β->Prop}:∀{l:List α}{m:List β}{i:Nat}{b:β},Paired R l m->m[i]?=some b->∃a,l[i]?=some a/\R a b
 | _,_,_,_,.nil,h=>by simp at h
 | _,_,0,b,.cons h t,e=>⟨_,rfl,by cases (show _=b by simpa using e);exact h⟩
 | _,_,i+1,b,.cons h t,e=>by
  obtain ⟨a,h1,h2⟩:=xN t (i:=i) (by simpa using e);exact ⟨a,by simpa using h1,h2⟩
section
variable{js:List Nat}{te:TE}{tc:TT}{σ:St}{H:Hp}{Q:VK}
theorem JO{K:PySem.W.Frag}{n:Nat}{J:It}{α:Type}{as:List α}(p:α->Bool)(Src:α->V->Prop)(R:α->V->Hp->Prop)(hR:∀c y H1 H2,eF H1 H2->R c y H1->R c y H2)(hz:as.length<=100000)
  (hg:∀i H',bE H H'->i<as.length->J.go i H'/\∀x H3,J.yld i H' x H3->H3=H'/\∃c,as[i]?=some c/\Src c x) (hst:∀H',bE H H'->J.stop as.length H')
  (hs:∀x c H',c∈as->Src c x->bE H H'->∃a vs,x=.ref a/\fF K H' a vs/\vs.length=n/\(∀Q':Bool->Hp->Prop,(∀H5,bE H' H5->Q' (p c) H5)->tc (vs.map some++slots σ js) H' Q') /\
   ∀H5 (Q':VK),bE H' H5->p c=true->(∀y H6,bE H5 H6->R c y H6->Q' y H6)->te (vs.map some++slots σ js) H5 Q')
  (hd:∀D ys H',H D=none->H' D=some (.lst ys)->bE H H'->Paired (λc y=>R c y H') (as.filter p) ys->Q (.ref D) H'):wK K n J σ js tc te H Q:=by
 unfold wK;intro D hD;have mono:∀{H1 H2:Hp} {l:List α} {ys:List V},eF H1 H2->Paired (λc y=>R c y H1) l ys->Paired (λc y=>R c y H2) l ys:=by
  intro H1 H2 l ys s h
  induction h with
  | nil=>exact .nil
  | cons h t ih=>exact .cons (hR _ _ _ _ s h) ih
 have snoc:∀{H1:Hp} {l:List α} {ys:List V} {c:α} {y:V},Paired (λc y=>R c y H1) l ys->R c y H1->Paired (λc y=>R c y H1) (l++[c]) (ys++[y]):=by
  intro H1 l ys c y h r
  induction h with
  | nil=>exact .cons r .nil
  | cons h t ih=>exact .cons h ih
 refine ⟨λi m ys H'=>m=as.length-i/\i<=as.length/\H' D=some (.lst ys)/\bE H H'/\ys.length<=i/\Paired (λc y=>R c y H') ((as.take i).filter p) ys,⟨as.length,by simp,cM _,bI,bE.upd hD,aJ _,.nil⟩,?_⟩;rintro i m ys H2 ⟨rfl,hi,hD2,s2,hy,pr⟩;refine ⟨hD2,?_⟩;by_cases hlt:i<as.length
 ·obtain ⟨hgo,hyl⟩:=hg i H2 s2 hlt;refine .inr ⟨hgo,aQ (m:=100000) Oo Dd,λx H3 hy3=>?_⟩;obtain ⟨rfl,c,hc,rc⟩:=hyl x H3 hy3;have hti:as.take (i+1)=as.take i++[c]:=by rw [fI,hc];rfl
  obtain ⟨a,vs,e,hq,hl,ht,he⟩:=hs x c H3 (aZ hc) rc s2;refine ⟨a,vs,e,hq,hl,λb H4=>b=p c/\bE H3 H4,ht _ λH5 s5=>⟨rfl,s5⟩,?_⟩;rintro b H4 ⟨rfl,s4⟩;by_cases hp:p c=true
  ·rw [if_pos hp];refine ⟨λy H5=>bE H4 H5/\R c y H5,he H4 _ s4 hp λy H6 s6 r=>⟨s6,r⟩,?_⟩;rintro y H5 ⟨s5,r⟩;have e5:=s5 _ _ (s4 _ _ hD2);refine ⟨e5,_,?_,rfl,hlt,bI,bE.thru hD ((s2.trans s4).trans s5) aR.self,?_,?_⟩
   ·omega
   ·rw [aX,List.length_singleton];omega
   ·rw [hti,List.filter_append,show List.filter p [c]=[c] by simp [hp]];have t6:eF H5 (upd H5 D (.lst (ys++[y]))):=aR.t aR.self e5;exact mono t6 (snoc (mono (s4.trans s5).t pr) r)
  ·rw [if_neg hp];refine ⟨s4 _ _ hD2,_,?_,rfl,hlt,s4 _ _ hD2,s2.trans s4,Oo,?_⟩
   ·omega
   ·rw [hti,List.filter_append,show List.filter p [c]=[] by simp [hp],List.append_nil];exact mono s4.t pr
 ·have e:i=as.length:=Oo;subst e;refine .inl ⟨hst H2 s2,hd D ys H2 hD hD2 s2 ?_⟩;rw [cP] at pr;exact pr
theorem mG{K:PySem.W.Frag}{n:Nat}{a0:Addr}{xs:List V}{α:Type}{as:List α}(p:α->Bool)(Src:α->V->Prop)(R:α->V->Hp->Prop)(hR:∀c y H1 H2,eF H1 H2->R c y H1->R c y H2)(hz:as.length<=100000)(ha:H a0=some (.lst xs))(pr:Paired Src as xs)
  (hs:∀x c H',c∈as->Src c x->bE H H'->∃a vs,x=.ref a/\fF K H' a vs/\vs.length=n/\(∀Q':Bool->Hp->Prop,(∀H5,bE H' H5->Q' (p c) H5)->tc (vs.map some++slots σ js) H' Q') /\
   ∀H5 (Q':VK),bE H' H5->p c=true->(∀y H6,bE H5 H6->R c y H6->Q' y H6)->te (vs.map some++slots σ js) H5 Q')
  (hd:∀D ys H',H D=none->H' D=some (.lst ys)->bE H H'->Paired (λc y=>R c y H') (as.filter p) ys->Q (.ref D) H'):wK K n (VO K a0) σ js tc te H Q:=by
 have hl:xs.length=as.length:=pr.length.symm;refine JO p Src R hR hz (λi H' s hi=>⟨⟨xs,xs[i]'Oo,fM.of (s _ _ ha),by simp⟩,λx H3 y=>⟨y.1,?_⟩⟩) (λH' s=>⟨xs,fM.of (s _ _ ha),Oo⟩) hs hd;have hx:=y.2 xs (fM.of (s _ _ ha));obtain ⟨c,h1,h2⟩:=xN pr hx;exact ⟨c,h1,h2⟩
end
end L2
namespace L2
open PySem
section
variable{js:List Nat}{te:TE}{σ:St}{H:Hp}{Q:VK}
theorem JN{K:PySem.W.Frag}{b1 b2:Bool}{l1 l2:Addr}{xs ys:List V}(R:Nat->V->Hp->Prop)(hR:∀i y H1 H2,eF H1 H2->R i y H1->R i y H2)(hz:xs.length<=100000)(h1:H l1=some (BC b1 xs))(h2:H l2=some (BC b2 ys))(hl:xs.length=ys.length)
  (hs:∀i x y H' (Q':VK),xs[i]?=some x->ys[i]?=some y->bE H H'->(∀z H6,bE H' H6->R i z H6->Q' z H6)->te (some x::some y::slots σ js) H' Q')
  (hd:∀D zs H',H D=none->H' D=some (.lst zs)->bE H H'->zs.length=xs.length->(∀(i:Nat) (z:V),zs[i]?=some z->R i z H')->Q (.ref D) H'):wK K 2 (Itz b1 b2 l1 l2) σ js uQ te H Q:=by
 unfold wK;intro D hD;refine ⟨λi m zs H'=>m=xs.length-i/\i<=xs.length/\zs.length=i/\H' D=some (.lst zs)/\bE H H'/\∀(i:Nat) (z:V),zs[i]?=some z->R i z H',⟨xs.length,by simp,cM _,rfl,bI,bE.upd hD,λi z h=>by simp at h⟩,?_⟩;rintro i m zs H2 ⟨rfl,hi,hy,hD2,s2,hr⟩;refine ⟨hD2,?_⟩;by_cases hlt:i<xs.length
 ·have hx:xs[i]?=some xs[i]:=aC Oo;have hy':ys[i]?=some (ys[i]'Oo):=aC Oo;refine .inr ⟨⟨xs,ys,_,_,s2 _ _ h1,s2 _ _ h2,hx,hy'⟩,aQ (m:=100000) Oo Dd,λv H3 y=>?_⟩;obtain ⟨q,x,y,rfl,hq,rfl,hh⟩:=y;obtain ⟨g1,g2⟩:=hh xs ys (s2 _ _ h1) (s2 _ _ h2);have s3:=bE.upd (o:=.tup [x,y]) hq;have e3:(upd H2 q (.tup [x,y])) q=some (.tup [x,y]):=bI;generalize upd H2 q (.tup [x,y])=H3 at s3 e3;refine ⟨q,[x,y],rfl,fF.of e3,rfl,λb H4=>b=true/\H4=H3,⟨rfl,rfl⟩,?_⟩;rintro b H4 ⟨rfl,rfl⟩;rw [if_pos rfl];refine ⟨λz H5=>bE H4 H5/\R i z H5,hs i x y H4 _ g1 g2 (s2.trans s3) λz H6 s6 r=>⟨s6,r⟩,?_⟩;rintro z H5 ⟨s5,r⟩;have e5:=s5 _ _ (s3 _ _ hD2);have t6:eF H5 (upd H5 D (.lst (zs++[z]))):=aR.t aR.self e5;refine ⟨e5,xs.length-(i+1),Oo,rfl,hlt,by rw [aX,hy];rfl,bI,bE.thru hD ((s2.trans s3).trans s5) aR.self,?_⟩;exact oG (R:=λj z=>R j z _) (λj w hj=>hR j w _ _ ((s3.trans s5).t.trans t6) (hr j w hj)) (by rw [hy];exact hR i z _ _ t6 r)
 ·have e:i=xs.length:=Oo;subst e;exact .inl ⟨⟨xs,ys,s2 _ _ h1,s2 _ _ h2,.inl (aJ _)⟩,hd D zs H2 hD hD2 s2 hy hr⟩
end
theorem Paired.ofRepL{H:Hp}{α:Type}{g:α->PyData}:∀{as:List α}{xs:List V},bD H (as.map g) xs->Paired (λa x=>cA H (g a) x) as xs
 | [],xs,r=>by
  unfold bD at r;cases (show xs=[] from r);exact .nil
 | a::as,xs,r=>by
  rw [aP] at r;unfold bD at r;obtain ⟨x,xs',rfl,r1,r2⟩:=r;exact .cons r1 (Paired.ofRepL r2)
theorem Paired.toRepL{H:Hp}{α:Type}{g:α->PyData}:∀{as:List α}{xs:List V},Paired (λa x=>cA H (g a) x) as xs->bD H (as.map g) xs
 | _,_,.nil=>bD.nil
 | _,_,.cons h t=>bD.cons h (Paired.toRepL t)
section
variable{X:Cx}{scope:Scope}{x1 x2 x3 y:Str}{N':List Str}{js:List Nat}{elt iter tg:Expr}{ifs:List Expr}{py pos spos:Pos}{tc:TT}{te:TE}{wi wj:TI}{i:Nat}
end
end L2
namespace L2
open PySem PySem.Spec PyProof.Rows
@[irreducible] def rPA:V->List V->Hp->VK->Prop:=EK
section
variable{X:Cx}
theorem UX:VN X "list.pop" rPA:=by unfold rPA;exact MV
end
theorem aAK{H:Hp}{l:Addr}{xs:List V}{i:Nat}{Q:VK}(h:H l=some (.lst xs))(hi:i<xs.length)(hz:xs.length<=1000)(q:∀H',H' l=some (.lst (xs.eraseIdx i))->aR l H H'->Q xs[i] H'):rPA (.ref l) [.int (i:Int)] H Q:=by
 unfold rPA EK;refine ⟨l,xs,(i:Int),i,xs[i],rfl,rfl,h,Oo,Oo,?_,by simp [hi],q _ bI aR.self⟩;have h1:¬(i:Int)<0:=Oo;have h2:(decide (0<=(i:Int))&&decide ((i:Int)<(xs.length:Int)))=true:=by simp;omega
 simp only [seqIndex?,if_neg h1,h2,if_true]
 rfl
section
variable{X:Cx}
end
end L2
namespace L2
open PySem PySem.Spec PySem.W PyProof.Rows HT
end L2
namespace L2
open PySem PySem.Spec PyProof.Rows
def aAu:TS:=λ_ _ _=>False
theorem PN{X:Cx}{st:Stmt}:FE X st aAu:=⟨λ_ _ _ _ _ _ h=>h.elim⟩
section
variable{prog:Program}{w:World}{A:Around}{E:Value->Shared->Prop}{s:Shared}
end
end L2
namespace Mf
section
variable(F:Nat)(G:List Int->Int)
end
section
variable{F:Nat}{G:List Int->Int}{ks:List (List Int)}
end
end Mf
namespace Mf
section
variable{F:Nat}{G:List Int->Int}{ks:List (List Int)}
end
end Mf
namespace L2
open PySem PySem.W PySem.Spec PySem.Calls PyProof.Rows
section
variable{X:Cx}
end
end L2
namespace Mf
def rv(f:Fr):Rat:=(f.1:Rat)/(f.2:Rat)
theorem vR{d:Int}(h:0<d):(0:Rat)<(d:Rat):=by exact_mod_cast h
theorem iI{d:Int}(h:0<d):(d:Rat)≠0:=by have:=vR h;grind
theorem jU{f:Fr}(h:0<f.2):rv f*(f.2:Rat)=(f.1:Rat):=by
 have:=iI h;unfold rv;grind
theorem xL{n d:Int}(h:0<d):rv (lw n d)=(n:Rat)/(d:Rat):=by
 have e:=oK (n:=n) (d:=d);have p:=(iB (n:=n) h).pos;have h1:=iI h;have h2:=iI p;have e':((lw n d).1:Rat)*(d:Rat)=(n:Rat)*((lw n d).2:Rat):=by exact_mod_cast e
 unfold rv;generalize ((lw n d).1:Rat)=a at *;generalize ((lw n d).2:Rat)=b at *;grind
theorem vA{f g:Fr}(hf:0<f.2)(hg:0<g.2):rv (nA f g)=rv f+rv g:=by
 unfold nA;rw [xL (Int.mul_pos hf hg)];have h1:=iI hf;have h2:=iI hg;unfold rv;rw [Rat.intCast_add,Rat.intCast_mul,Rat.intCast_mul,Rat.intCast_mul];grind
theorem lE{f g:Fr}(hf:0<f.2)(hg:0<g.2):rv (jB f g)=rv f*rv g:=by
 unfold jB;rw [xL (Int.mul_pos hf hg)];have h1:=iI hf;have h2:=iI hg;unfold rv;rw [Rat.intCast_mul,Rat.intCast_mul];grind
theorem XE(f:Fr):rv (-f.1,f.2)=- rv f:=by
 unfold rv;rw [show (((-f.1,f.2):Fr).1:Rat)=-(f.1:Rat) by rw [<-Rat.intCast_neg]];grind
theorem fE{f g:Fr}(hf:dL f)(hg:dL g)(e:rv f=rv g):f=g:=by
 have h1:=iI hf.pos;have h2:=iI hg.pos;have e':(f.1:Rat)*(g.2:Rat)=(g.1:Rat)*(f.2:Rat):=by
  have a:=jU hf.pos;have b:=jU hg.pos;rw [<-a,<-b,e];grind
 have q:=CD hf hg (by exact_mod_cast e');exact Prod.ext q.1 q.2
theorem jX:rv (0,1)=0:=by unfold rv;grind
theorem EJ:rv (1,1)=1:=by unfold rv;grind
def qF(l:List Rat):Rat:=l.foldr (· + ·) 0
theorem qD:qF []=0:=rfl
theorem lR(x:Rat)(l:List Rat):qF (x::l)=x+qF l:=rfl
theorem qE:∀(a b:List Rat),qF (a++b)=qF a+qF b
 | [],b=>by rw [qD,List.nil_append];grind
 | x::a,b=>by rw [List.cons_append,lR,lR,qE a b];grind
theorem XC(l:List Fr):(∀f∈l,dL f)->rv (pD l)=qF (l.map rv):=by
 induction l using mP with
 | h0=>intro _;exact jX
 | hs l a ih =>
  intro h;have hl:∀f∈l,dL f:=λf hf=>h f (cJ _ hf);rw [lO,vA (BG l hl).pos (h a (by simp)).pos,ih hl,bO,qE,aP,List.map_nil,lR,qD];grind
def Fn(N B:Nat)(f:Fr):Prop:=dL f/\∃x:Int,rv f*(N:Rat)=(x:Rat)/\x.natAbs<=B*N
theorem Fn.low{N B:Nat}{f:Fr}(h:Fn N B f):dL f:=h.1
theorem Fn.le{N B C:Nat}{f:Fr}(h:Fn N B f)(hB:B<=C):Fn N C f:=by
 obtain ⟨l,x,h1,h2⟩:=h;exact ⟨l,x,h1,aW h2 (cC _ hB)⟩
theorem rK{f g:Fr}(h:dL f)(h':dL g):dL (nA f g):=iB (Int.mul_pos h.pos h'.pos)
theorem Fn.add{N B C:Nat}{f g:Fr}(h:Fn N B f)(h':Fn N C g):Fn N (B+C) (nA f g):=by
 obtain ⟨l,x,h1,h2⟩:=h;obtain ⟨l',y,h3,h4⟩:=h';refine ⟨rK l l',x+y,?_,?_⟩
 ·rw [vA l.pos l'.pos,Rat.intCast_add,<-h1,<-h3];grind
 ·rw [Nat.add_mul];omega
theorem Fn.up{N B:Nat}{f:Fr}(h:Fn N B f)(M:Nat):Fn (N*M) B f:=by
 obtain ⟨l,x,h1,h2⟩:=h;refine ⟨l,x*(M:Int),?_,?_⟩
 ·rw [Rat.intCast_mul,<-h1,Rat.natCast_mul];have:((M:Int):Rat)=(M:Rat):=rfl;rw [this];grind
 ·rw [fZ,<-Nat.mul_assoc];exact cC _ h2
theorem Fn.dvd{N M B:Nat}{f:Fr}(h:Fn N B f)(d:N ∣ M):Fn M B f:=by
 obtain ⟨e,rfl⟩:=d;exact h.up e
theorem lF(N:Nat):((N:Int):Rat)=(N:Rat):=rfl
theorem NA:dL (0,1):=⟨Dd,Dd⟩
theorem NB:dL (1,1):=⟨Dd,Dd⟩
theorem Fn.zero(N:Nat):Fn N 0 (0,1):=⟨NA,0,by rw [jX];grind,by simp⟩
theorem Fn.one(N:Nat):Fn N 1 (1,1):=⟨NB,N,by rw [EJ,lF];grind,by simp⟩
theorem Fn.eq{N B:Nat}{f:Fr}(h:Fn N B f)(hN:0<N):∃x:Int,f=lw x (N:Int)/\x.natAbs<=B*N:=by
 obtain ⟨l,x,h1,h2⟩:=h;have hp:(0:Int)<(N:Int):=Oo;refine ⟨x,fE l (iB hp) ?_,h2⟩;rw [xL hp,<-h1,lF];have:=iI hp;rw [lF] at this;grind
theorem Fn.of{n d:Int}{B:Nat}(h:0<d)(hB:n.natAbs<=B*d.natAbs):Fn d.natAbs B (lw n d):=by
 refine ⟨iB h,n,?_,hB⟩;have e:(d.natAbs:Int)=d:=Oo;rw [xL h,<-lF,e];have:=iI h;grind
theorem Fn.num{N B:Nat}{f:Fr}(h:Fn N B f)(hN:0<N):f.1.natAbs<=B*N/\f.2.natAbs<=N:=by
 obtain ⟨x,rfl,h2⟩:=h.eq hN;have q:=GG (n:=x) (d:=(N:Int)) Oo;have p:=(iB (n:=x) (d:=(N:Int)) Oo).pos;omega
theorem Fn.tot{N B:Nat}:∀(fs:List Fr),(∀f∈fs,Fn N B f)->Fn N (fs.length*B) (pD fs):=by
 intro fs
 induction fs using mP with
 | h0=>intro _;exact (Fn.zero N).le (cM _)
 | hs l a ih =>
  intro h;rw [lO,aX,List.length_singleton,Nat.add_mul,Nat.one_mul];exact (ih λf hf=>h f (cJ _ hf)).add (h a (bL _ (bM.mpr rfl)))
end Mf
namespace Mf
def gH(n:Nat)(f:Nat->Rat):Rat:=qF ((List.range n).map f)
theorem gX(f:Nat->Rat):gH 0 f=0:=rfl
theorem eL(n:Nat)(f:Nat->Rat):gH (n+1) f=gH n f+f n:=by
 unfold gH;rw [List.range_succ,bO,qE,aP,List.map_nil,lR,qD];grind
theorem fA{n:Nat}{f g:Nat->Rat}(h:∀i,i<n->f i=g i):gH n f=gH n g:=by
 induction n with
 | zero=>rfl
 | succ n ih=>rw [eL,eL,ih λi hi=>h i Oo,h n Oo]
theorem BI(n:Nat)(f g:Nat->Rat):gH n (λi=>f i+g i)=gH n f+gH n g:=by
 induction n with
 | zero=>rw [gX,gX,gX];grind
 | succ n ih=>rw [eL,eL,eL,ih];grind
theorem nK(n:Nat)(a:Rat)(f:Nat->Rat):gH n (λi=>a*f i)=a*gH n f:=by
 induction n with
 | zero=>rw [gX,gX];grind
 | succ n ih=>rw [eL,eL,ih];grind
theorem xC{n:Nat}{f g:Nat->Rat}(h:∀i,i<n->f i<=g i):gH n f<=gH n g:=by
 induction n with
 | zero=>rw [gX,gX];exact Rat.le_refl
 | succ n ih =>
  have h1:=ih λi hi=>h i Oo;have h2:=h n Oo;rw [eL,eL];grind
theorem lQ(n:Nat):gH n (λ_=>0)=0:=by
 induction n with
 | zero=>rfl
 | succ n ih=>rw [eL,ih];grind
theorem FS{n:Nat}{f:Nat->Rat}(h:∀i,i<n->0<=f i):0<=gH n f:=by
 have:=xC (n:=n) (f:=λ_=>0) (g:=f) h
 rwa [lQ] at this
theorem BH{n:Nat}(f:Nat->Rat){w:Nat}(h:w<n):gH n f-f w=gH n (λi=>if i=w then 0 else f i):=by
 induction n with
 | zero=>omega
 | succ n ih =>
  rw [eL,eL];by_cases e:w=n
  ·subst e;rw [if_pos rfl,fA (g:=f) λi hi=>if_neg Oo];grind
  ·rw [if_neg (λq=>e q.symm),<-ih Oo];grind
def cX(c:List Nat)(i:Nat):List Nat:=c.set i (c.getD i 0+1)
section
variable{W F:Nat}{q:Nat->List Nat->Rat}{mix ps ps' cs:Nat->Rat}
end
end Mf
namespace Mf
def Qn(N B:Nat)(x:Rat):Prop:=∃z:Int,x*(N:Rat)=(z:Rat)/\z.natAbs<=B*N
theorem Fn.q{N B:Nat}{f:Fr}(h:Fn N B f):Qn N B (rv f):=h.2
theorem Qn.f{N B:Nat}{f:Fr}(l:dL f)(h:Qn N B (rv f)):Fn N B f:=⟨l,h⟩
def cO(x:Rat):Fr:=(x.num,(x.den:Int))
theorem bG(x:Rat):dL (cO x):=by
 refine ⟨?_,?_⟩
 ·show (0:Int)<(x.den:Int);have:=x.den_pos;omega
 ·show Int.gcd x.num (x.den:Int)=1;rw [Int.gcd_eq_natAbs_gcd_natAbs,Int.natAbs_natCast];exact x.reduced
theorem cQ(x:Rat):rv (cO x)=x:=by
 unfold rv cO;show (x.num:Rat)/((x.den:Int):Rat)=x;rw [<-Rat.divInt_eq_div,Rat.num_divInt_den]
theorem NL{f:Fr}(h:dL f):cO (rv f)=f:=fE (bG _) h (cQ _)
theorem Qn.fq{N B:Nat}{x:Rat}(h:Qn N B x):Fn N B (cO x):=⟨bG x,by rw [cQ];exact h⟩
theorem Qn.le{N B C:Nat}{x:Rat}(h:Qn N B x)(hB:B<=C):Qn N C x:=by
 obtain ⟨z,h1,h2⟩:=h;exact ⟨z,h1,aW h2 (cC _ hB)⟩
theorem Qn.add{N B C:Nat}{x y:Rat}(h:Qn N B x)(h':Qn N C y):Qn N (B+C) (x+y):=by
 obtain ⟨z,h1,h2⟩:=h;obtain ⟨u,h3,h4⟩:=h';refine ⟨z+u,?_,?_⟩
 ·rw [Rat.intCast_add,<-h1,<-h3];grind
 ·rw [Nat.add_mul];omega
theorem Qn.neg{N B:Nat}{x:Rat}(h:Qn N B x):Qn N B (-x):=by
 obtain ⟨z,h1,h2⟩:=h;refine ⟨-z,?_,by rw [Int.natAbs_neg];exact h2⟩;rw [Rat.intCast_neg,<-h1];grind
theorem Qn.sub{N B C:Nat}{x y:Rat}(h:Qn N B x)(h':Qn N C y):Qn N (B+C) (x-y):=by
 have:=h.add h'.neg
 rwa [<-Rat.sub_eq_add_neg] at this
theorem Qn.mul{N M B C:Nat}{x y:Rat}(h:Qn N B x)(h':Qn M C y):Qn (N*M) (B*C) (x*y):=by
 obtain ⟨z,h1,h2⟩:=h;obtain ⟨u,h3,h4⟩:=h';refine ⟨z*u,?_,?_⟩
 ·rw [Rat.intCast_mul,<-h1,<-h3,Rat.natCast_mul];grind
 ·rw [fZ];have:=Nat.mul_le_mul h2 h4;rw [Nat.mul_mul_mul_comm] at this;exact this
theorem Qn.dvd{N M B:Nat}{x:Rat}(h:Qn N B x)(d:N ∣ M):Qn M B x:=by
 obtain ⟨e,rfl⟩:=d;obtain ⟨z,h1,h2⟩:=h;refine ⟨z*(e:Int),?_,?_⟩
 ·rw [Rat.intCast_mul,<-h1,Rat.natCast_mul,lF];grind
 ·rw [fZ,<-Nat.mul_assoc];exact cC _ h2
theorem Qn.zero(N B:Nat):Qn N B 0:=⟨0,by grind,by simp⟩
theorem Qn.sumR{N B:Nat}{f:Nat->Rat}:∀{n:Nat},(∀i,i<n->Qn N B (f i))->Qn N (n*B) (gH n f)
 | 0,_=>by rw [gX];exact Qn.zero _ _
 | n+1,h=>by
  rw [eL,Nat.add_mul,Nat.one_mul];exact (Qn.sumR λi hi=>h i Oo).add (h n Oo)
theorem XD{f:Fr}(h:dL f)(n:Nat):rv (tH f n)=rv f^n:=by
 have hp:=iI h.pos
 induction n with
 | zero=>unfold tH rv;grind
 | succ n ih =>
  have e:rv (tH f (n+1))=rv (tH f n)*rv f:=by
   have h1:=iI (lZ h n).pos;unfold tH rv at *;simp only [Int.pow_succ,Rat.intCast_mul] at *;generalize ((f.1^n:Int):Rat)=u at *;generalize ((f.2^n:Int):Rat)=v at *;grind
  rw [e,ih,Rat.pow_succ]
theorem Qn.pow{N:Nat}{x:Rat}(h:Qn N 1 x):∀n:Nat,Qn (N^n) 1 (x^n)
 | 0=>⟨1,by rw [Rat.pow_zero,Nat.pow_zero];grind,by simp⟩
 | n+1=>by
  rw [Rat.pow_succ,Nat.pow_succ];exact (Qn.pow h n).mul h
theorem VS{N:Nat}(l:List (Fr × Nat)):(∀z∈l,Fn N 1 z.1)->Qn (N^(l.map (·.2)).sum) 1 (rv (pZ l)):=by
 induction l using mP with
 | h0=>intro _;exact ⟨1,by show rv (1,1)*_=_;rw [EJ];simp,by simp⟩
 | hs l a ih =>
  intro h;have hl:∀z∈l,Fn N 1 z.1:=λz hz=>h z (cJ _ hz);have ha:=h a (by simp);rw [rP,lE (uH l λz hz=>(hl z hz).low).pos (lZ ha.low a.2).pos,XD ha.low,bO,List.sum_append,Nat.pow_add];have:=(ih hl).mul (ha.q.pow a.2);simpa using this
theorem UT{f:Fr}(h:dL f)(h0:0<=f.1):0<=rv f:=by
 have h1:=vR h.pos;have e:=jU h.pos;have h2:(0:Rat)<=(f.1:Rat):=by exact_mod_cast h0
 have:rv f=(f.1:Rat)*(f.2:Rat)⁻¹:=by unfold rv;exact Rat.div_def _ _
 rw [this];exact cL h2 (Rat.le_of_lt (Rat.inv_pos.mpr h1))
theorem HP{α:Type}(l:List α)(m:List Nat):((l.zip m).map (·.2)).sum<=m.sum:=by
 induction l generalizing m with
 | nil=>simp
 | cons a l ih =>
  cases m with
  | nil=>simp
  | cons b m =>
   have:=ih m;simp only [List.zip_cons_cons,aP,List.sum_cons];omega
def wq(fs:List Fr)(c:List Nat):Rat:=rv (pZ (fs.zip c))
theorem KN{N M:Nat}{fs:List Fr}{c:List Nat}(h:∀f∈fs,Fn N 1 f)(hc:c.sum<=M):Qn (N^M) 1 (wq fs c):=by
 have h1:=VS (fs.zip c) (λz hz=>h z.1 (List.of_mem_zip (a:=z.1) (b:=z.2) hz).1);have h2:=HP fs c;exact h1.dvd (Nat.pow_dvd_pow _ Oo)
def qOf(ss:List (List Fr))(v:Nat)(c:List Nat):Rat:=wq (ss.getD v []) c
def gI(ps:List Fr)(v:Nat):Rat:=rv (ps.getD v (0,1))
theorem sJ{α:Type}{l:List α}{j:Nat}{a:α}(h:j<l.length):l.getD j a∈l:=by
 rw [aT,aC h];exact List.getElem_mem h
section
variable{F W M:Nat}{ss:List (List Fr)}{mix ps cs:List Fr}{Ns Nm Np Nc B:Nat}
theorem jO{c:List Nat}{j:Nat}(h:j<c.length):(cX c j).sum=c.sum+1:=by
 unfold cX;have h1:c[j]?=some (c.getD j 0):=by rw [aT,aC h];rfl
 have:=zH c j (c.getD j 0+1) _ h1;omega
theorem OH(c:List Nat)(j:Nat):(cX c j).length=c.length:=by unfold cX;rw [List.length_set]
end
def rise(F M:Nat):List (List Nat):=(List.range (M+1)).flatMap (cta F)
theorem tW:∀{F m:Nat}{c:List Nat},1<=F->c.length=F->c.sum=m->c∈cta F m
 | 0,m,c,h,_,_=>Oo
 | 1,m,c,_,hl,hs=>by
  obtain ⟨x,rfl⟩:∃x,c=[x]:=by
   match c,hl with
   | [x],_=>exact ⟨x,rfl⟩
  have:x=m:=by simpa using hs
  subst this;simp [cta]
 | F+2,m,c,_,hl,hs=>by
  cases c with
  | nil=>simp at hl
  | cons x c =>
   rw [List.sum_cons] at hs;unfold cta;refine List.mem_flatMap.mpr ⟨x,dC.mpr Oo,aD.mpr ⟨c,tW Oo (by simpa using hl) Oo,rfl⟩⟩
theorem mD{F M:Nat}{c:List Nat}(hF:1<=F):c∈rise F M↔c.length=F/\c.sum<=M:=by
 unfold rise;rw [List.mem_flatMap];constructor
 ·rintro ⟨m,hm,hc⟩;have:=dC.mp hm;obtain ⟨h1,h2⟩:=hJ hc;exact ⟨h1,Oo⟩
 ·rintro ⟨h1,h2⟩;exact ⟨c.sum,dC.mpr Oo,tW hF h1 rfl⟩
theorem sZ(F:Nat):∀M:Nat,(rise F M).Pairwise λa b=>a.sum<=b.sum
 | 0=>by
  unfold rise;rw [List.range_succ,List.range_zero,List.nil_append,List.flatMap_singleton];refine List.pairwise_iff_forall_sublist.mpr λ{a b} h=>?_;have ha:a∈cta F 0:=h.subset (by simp);have:=(hJ ha).2;omega
 | M+1=>by
  have ih:=sZ F M;unfold rise at *;rw [List.range_succ,List.flatMap_append,List.flatMap_singleton];refine List.pairwise_append.mpr ⟨ih,?_,λa ha b hb=>?_⟩
  ·refine List.pairwise_iff_forall_sublist.mpr λ{a b} h=>?_;have ha:a∈cta F (M+1):=h.subset (by simp);have hb:b∈cta F (M+1):=h.subset (by simp);have h1:=(hJ ha).2;have h2:=(hJ hb).2;omega
  ·obtain ⟨m,hm,ha⟩:=List.mem_flatMap.mp ha;have:=dC.mp hm;have h1:=(hJ ha).2;have h2:=(hJ hb).2;omega
end Mf
namespace Mf
theorem CV:∀F:Nat,1<=F->cta F 0=[List.replicate F 0]
 | 1,_=>rfl
 | F+2,_=>by
  unfold cta;rw [List.range_succ,List.range_zero,List.nil_append,List.flatMap_singleton,Nat.sub_zero,CV (F+1) Oo]
  rfl
theorem NU{F m:Nat}(hF:1<=F){d:List Nat}:d∈cta F (m+1) ↔ ∃c∈cta F m,∃j,j<F/\d=cX c j:=by
 constructor
 ·intro h;obtain ⟨h1,h2⟩:=hJ h;obtain ⟨j,hj,hp⟩:∃j,j<d.length/\0<d.getD j 0:=by
   refine cB λq=>?_;have z:d=List.replicate d.length 0:=by
    refine List.eq_replicate_iff.mpr ⟨rfl,λx hx=>?_⟩;obtain ⟨j,hj⟩:=gA.mp hx;have hl:=(aN.mp hj).1;have:d.getD j 0=x:=by rw [aT,hj];rfl
    refine cB λhx0=>q ⟨j,hl,Oo⟩
   have:d.sum=0:=by rw [z];simp
   omega
  have e1:d[j]?=some (d.getD j 0):=by rw [aT,aC hj];rfl
  have s1:=zH d j (d.getD j 0-1) _ e1;refine ⟨d.set j (d.getD j 0-1),tW hF (by rw [List.length_set];exact h1) Oo,j,Oo,?_⟩;unfold cX;rw [aT (l:=d.set j _),List.getElem?_set_self hj,List.set_set];show d=d.set j (d.getD j 0-1+1);rw [show d.getD j 0-1+1=d.getD j 0 by omega];refine (List.ext_getElem? λi=>?_);rw [List.getElem?_set];by_cases e:j=i
  ·subst e;rw [if_pos rfl,if_pos hj];exact e1
  ·rw [if_neg e]
 ·rintro ⟨c,hc,j,hj,rfl⟩;obtain ⟨h1,h2⟩:=hJ hc;exact tW hF (by rw [OH];exact h1) (by rw [jO Oo];omega)
theorem zR:∀F,F<=4->∀M,M<=5->(rise F M).Nodup:=Kk
end Mf
namespace Mf
abbrev bN:=List Nat × List Fr
def s0(e:bN):Rat:=gI e.2 0
def gE(F:Nat)(c d:List Nat):Rat:=gH F λf=>if cX c f=d then 1 else 0
def aS(F:Nat)(es:List bN):List Nat->Rat:=es.foldl (λg e=>λd=>g d+g e.1*s0 e*gE F e.1 d) (λd=>if d=List.replicate F 0 then 1 else 0)
theorem kF(F:Nat)(d:List Nat):aS F [] d=if d=List.replicate F 0 then 1 else 0:=rfl
theorem gS(F:Nat)(l:List bN)(e:bN)(d:List Nat):aS F (l++[e]) d=aS F l d+aS F l e.1*s0 e*gE F e.1 d:=by unfold aS;rw [List.foldl_append];rfl
def dF{α:Type}(l:List α)(f:α->Rat):Rat:=qF (l.map f)
theorem gM{α:Type}(f:α->Rat):dF [] f=0:=rfl
theorem cW{α:Type}(a:α)(l:List α)(f:α->Rat):dF (a::l) f=f a+dF l f:=rfl
theorem BK{α:Type}(a b:List α)(f:α->Rat):dF (a++b) f=dF a f+dF b f:=by unfold dF;rw [bO,qE]
theorem xD{α:Type}(l:List α)(a:α)(f:α->Rat):dF (l++[a]) f=dF l f+f a:=by rw [BK,cW,gM];grind
theorem dJ{α:Type}{l:List α}{f g:α->Rat}(h:∀a∈l,f a=g a):dF l f=dF l g:=by unfold dF;rw [dR h]
theorem qG{α:Type}(l:List α)(f g:α->Rat):dF l (λa=>f a+g a)=dF l f+dF l g:=by
 induction l with
 | nil=>rw [gM,gM,gM];grind
 | cons a l ih=>rw [cW,cW,cW,ih];grind
theorem nN{α:Type}(l:List α)(x:Rat)(f:α->Rat):dF l (λa=>x*f a)=x*dF l f:=by
 induction l with
 | nil=>rw [gM,gM];grind
 | cons a l ih=>rw [cW,cW,ih];grind
theorem oU{α:Type}(l:List α):dF l (λ_=>0)=0:=by
 induction l with
 | nil=>rfl
 | cons a l ih=>rw [cW,ih];grind
theorem IF{α:Type}{l:List α}{f g:α->Rat}(h:∀a∈l,f a<=g a):dF l f<=dF l g:=by
 induction l with
 | nil=>exact Rat.le_refl
 | cons a l ih =>
  have h1:=h a (aL ..);have h2:=ih λx hx=>h x (aM _ hx);rw [cW,cW];grind
theorem tP{α:Type}{l:List α}{f:α->Rat}(h:∀a∈l,0<=f a):0<=dF l f:=by
 have:=IF (l:=l) (f:=λ_=>0) (g:=f) h
 rwa [oU] at this
theorem ID{α:Type}(l:List α)(n:Nat)(f:α->Nat->Rat):dF l (λa=>gH n (f a))=gH n λi=>dF l λa=>f a i:=by
 induction l with
 | nil=>show 0=gH n (λ_=>0);rw [lQ]
 | cons a l ih =>
  rw [cW,ih,<-BI];exact fA λi _=>rfl
theorem rV{es:List bN}(nd:(es.map (·.1)).Nodup){b:List Nat}(hb:b∈es.map (·.1))(Φ:List Nat->Rat):dF es (λx=>(if b=x.1 then 1 else 0)*Φ x.1)=Φ b:=by
 induction es with
 | nil=>cases hb
 | cons a es ih =>
  rw [aP,List.nodup_cons] at nd;rw [cW];by_cases e:b=a.1
  ·rw [if_pos e,e,dJ (g:=λ_=>0) λx hx=>?_,oU]
   ·grind
   ·rw [if_neg λq=>nd.1 (by rw [q];exact aD.mpr ⟨x,hx,rfl⟩)];grind
  ·rw [if_neg e,ih nd.2 (by rw [aP] at hb;exact (bA.mp hb).resolve_left e)];grind
structure nJ(F:Nat)(es:List bN):Prop where
 root:∃e r,es=e::r/\e.1=List.replicate F 0
 len:∀e∈es,e.1.length=F
 nd:(es.map (·.1)).Nodup
 srt:es.Pairwise λa b=>a.1.sum<=b.1.sum
 fwd:∀e∈es,s0 e≠0->∀f,f<F->cX e.1 f∈es.map (·.1)
 bwd:∀d∈es.map (·.1),d≠List.replicate F 0->∃e∈es,s0 e≠0/\∃f,f<F/\cX e.1 f=d
 nn:∀e∈es,0<=s0 e
section
variable{F:Nat}{es:List bN}
theorem vT{c d:List Nat}(hc:c.length=F)(h:d.sum≠c.sum+1):gE F c d=0:=by
 unfold gE;rw [fA (g:=λ_=>0) λf hf=>if_neg λq=>h ?_,lQ];rw [<-q,jO Oo]
theorem nJ.at(R:nJ F es){i:Nat}{e:bN}(h:es[i]?=some e):aS F (es.take i) e.1=aS F es e.1:=by
 have key:∀k,i+k<=es.length->aS F (es.take (i+k)) e.1=aS F (es.take i) e.1:=by
  intro k
  induction k with
  | zero=>intro _;rfl
  | succ k ih =>
   intro hk;obtain ⟨x,hx⟩:∃x,es[i+k]?=some x:=⟨_,aC Oo⟩;have et:es.take (i+k+1)=es.take (i+k)++[x]:=by rw [fI,hx];rfl
   rw [<-Nat.add_assoc,et,gS,ih Oo,vT (R.len x (aZ hx)) ?_]
   ·grind
   ·obtain ⟨l1,e1⟩:=aN.mp h;obtain ⟨l2,e2⟩:=aN.mp hx;have:e.1.sum<=x.1.sum:=by
     by_cases q:k=0
     ·subst q;have:e=x:=by rw [<-e1,<-e2];rfl
      rw [this];exact aJ _
     ·have:=(List.pairwise_iff_getElem.mp R.srt) i (i+k) l1 l2 Oo
      rwa [e1,e2] at this
    omega
 have hi:=(aN.mp h).1;have:=key (es.length-i) Oo;rw [show i+(es.length-i)=es.length by omega,cP] at this;exact this.symm
theorem nJ.cons(R:nJ F es)(Φ:List Nat->Rat):∀n,n<=es.length->dF es (λx=>aS F (es.take n) x.1*Φ x.1)=Φ (List.replicate F 0)+dF (es.take n) λe=>aS F es e.1*s0 e*gH F λf=>Φ (cX e.1 f):=by
 intro n
 induction n with
 | zero =>
  intro _;rw [List.take_zero,gM];obtain ⟨e,r,he,hz⟩:=R.root;have:=rV R.nd (b:=List.replicate F 0) (by rw [he,<-hz];exact aL ..) Φ;rw [dJ (g:=λx=>(if List.replicate F 0=x.1 then 1 else 0)*Φ x.1) λx _=>?_,this]
  ·grind
  ·rw [kF];by_cases q:x.1=List.replicate F 0
   ·rw [if_pos q,if_pos q.symm]
   ·rw [if_neg q,if_neg λz=>q z.symm]
 | succ n ih =>
  intro hn;obtain ⟨e,he⟩:∃x,es[n]?=some x:=⟨_,aC Oo⟩;have et:es.take (n+1)=es.take n++[e]:=by rw [fI,he];rfl
  have hm:=aZ he;rw [et,xD,<-Rat.add_assoc,<-ih Oo];rw [dJ (g:=λx=>aS F (es.take n) x.1*Φ x.1+aS F es e.1*s0 e*(gE F e.1 x.1*Φ x.1)) λx _=>by rw [gS,R.at he];grind];rw [qG,nN];by_cases z:s0 e=0
  ·rw [z];grind
  ·congr 2;have:(λx:bN=>gE F e.1 x.1*Φ x.1)=λx=>gH F λf=>(if cX e.1 f=x.1 then 1 else 0)*Φ x.1:=by
    funext x
    unfold gE;rw [Rat.mul_comm,<-nK];exact fA λi _=>Rat.mul_comm _ _
   rw [this,ID];exact fA λf hf=>rV R.nd (R.fwd e hm z f hf) Φ
theorem nJ.all(R:nJ F es)(Φ:List Nat->Rat):dF es (λx=>aS F es x.1*Φ x.1)=Φ (List.replicate F 0)+dF es λe=>aS F es e.1*s0 e*gH F λf=>Φ (cX e.1 f):=by
 have:=R.cons Φ es.length (aJ _)
 rwa [cP] at this
theorem NG(F:Nat)(c d:List Nat):0<=gE F c d:=FS λf _=>by split <;> grind
theorem nJ.fnn(R:nJ F es):∀n,n<=es.length->∀d,0<=aS F (es.take n) d:=by
 intro n
 induction n with
 | zero=>intro _ d;rw [List.take_zero,kF];split <;> grind
 | succ n ih =>
  intro hn d;obtain ⟨e,he⟩:∃x,es[n]?=some x:=⟨_,aC Oo⟩;have et:es.take (n+1)=es.take n++[e]:=by rw [fI,he];rfl
  rw [et,gS];have h1:=ih Oo d;have h2:=ih Oo e.1;have h3:=cL (cL h2 (R.nn e (aZ he))) (NG F e.1 d);grind
theorem nJ.nnf(R:nJ F es)(d:List Nat):0<=aS F es d:=by
 have:=R.fnn es.length (aJ _) d
 rwa [cP] at this
theorem nJ.pos(R:nJ F es):∀(k:Nat) (d:List Nat),d∈es.map (·.1)->d.sum<=k->0<aS F es d:=by
 have eqd:∀d∈es.map (·.1),aS F es d=(if d=List.replicate F 0 then 1 else 0)+dF es λe=>aS F es e.1*s0 e*gE F e.1 d:=λd hd=>by
  have h:=R.all λx=>if d=x then 1 else 0
  have h1:=rV R.nd hd (aS F es);have e1:dF es (λx=>aS F es x.1*(if d=x.1 then 1 else 0))=aS F es d:=by rw [<-h1];exact dJ λx _=>Rat.mul_comm _ _
  rw [<-e1,h];congr 1;exact dJ λe _=>by
   congr 1;unfold gE;exact fA λf _=>by
    by_cases q:d=cX e.1 f
    ·rw [if_pos q,if_pos q.symm]
    ·rw [if_neg q,if_neg λz=>q z.symm]
 have tn:∀d,∀e∈es,0<=aS F es e.1*s0 e*gE F e.1 d:=λd e he=>cL (cL (R.nnf _) (R.nn e he)) (NG F e.1 d);intro k
 induction k with
 | zero =>
  intro d hd hs;have hz:d=List.replicate F 0:=by
   refine cB λq=>?_;obtain ⟨e,he,_,f,hf,rfl⟩:=R.bwd d hd q;rw [jO (by rw [R.len e he];exact hf)] at hs;omega
  rw [eqd d hd,if_pos hz];have:=tP (tn d);grind
 | succ k ih =>
  intro d hd hs;by_cases hz:d=List.replicate F 0
  ·rw [eqd d hd,if_pos hz];have:=tP (tn d);grind
  ·obtain ⟨e,he,h0,f,hf,rfl⟩:=R.bwd d hd hz;have bs:=jO (c:=e.1) (j:=f) (by rw [R.len e he];exact hf);have hA:=ih e.1 (aD.mpr ⟨e,he,rfl⟩) Oo;have hs0:0<s0 e:=by have:=R.nn e he;grind
   have hh:1<=gE F e.1 (cX e.1 f):=by
    unfold gE;have h1:=xC (n:=F) (f:=λi=>if i=f then 1 else 0) (g:=λi=>if cX e.1 i=cX e.1 f then 1 else 0) λi _=>by
     by_cases q:i=f
     ·subst q;rw [if_pos rfl,if_pos rfl];exact Rat.le_refl
     ·rw [if_neg q];split <;> grind
    have h2:=BH (n:=F) (λi=>if i=f then (1:Rat) else 0) hf;have h3:gH F (λi=>if i=f then 0 else if i=f then (1:Rat) else 0)=0:=by
     rw [fA (g:=λ_=>0) λi _=>?_,lQ];by_cases q:i=f
     ·rw [if_pos q]
     ·rw [if_neg q,if_neg q]
    rw [if_pos rfl,h3] at h2;grind
   have one:0<aS F es e.1*s0 e*gE F e.1 (cX e.1 f):=Rat.mul_pos (Rat.mul_pos hA hs0) (by grind);rw [eqd _ hd,if_neg hz];have:aS F es e.1*s0 e*gE F e.1 (cX e.1 f)<=dF es λe'=>aS F es e'.1*s0 e' * gE F e'.1 (cX e.1 f):=by
    obtain ⟨l1,l2,rfl⟩:=List.append_of_mem he;rw [BK,cW];have n1:=tP (l:=l1) λx hx=>tn (cX e.1 f) x (cJ _ hx);have n2:=tP (l:=l2) λx hx=>tn (cX e.1 f) x (bL _ (aM _ hx));grind
   grind
theorem nJ.posf(R:nJ F es){e:bN}(h:e∈es):0<aS F es e.1:=R.pos _ e.1 (aD.mpr ⟨e,h,rfl⟩) (aJ _)
theorem Qn.one'(N:Nat):Qn N 1 1:=⟨N,by rw [lF];grind,by simp⟩
theorem nJ.qn(R:nJ F es){N:Nat}(hN:∀e∈es,Qn N 1 (s0 e))(f4:F<=4):∀n,n<=es.length->∀d,Qn (N^d.sum) (5^n) (aS F (es.take n) d):=by
 intro n
 induction n with
 | zero =>
  intro _ d;rw [List.take_zero,kF];split
  ·exact Qn.one' _
  ·exact Qn.zero _ _
 | succ n ih =>
  intro hn d;obtain ⟨e,he⟩:∃x,es[n]?=some x:=⟨_,aC Oo⟩;have et:es.take (n+1)=es.take n++[e]:=by rw [fI,he];rfl
  rw [et,gS];have h1:=ih Oo d;have hm:=aZ he;have p5:5^(n+1)=5*5^n:=by rw [Nat.pow_succ];omega
  by_cases hs:d.sum=e.1.sum+1
  ·have h2:=(ih Oo e.1).mul (hN e hm);have h3:Qn 1 4 (gE F e.1 d):=by
    have:=Qn.sumR (N:=1) (B:=1) (n:=F) (f:=λf=>if cX e.1 f=d then 1 else 0) λf _=>by
     split
     ·exact Qn.one' _
     ·exact Qn.zero _ _
    exact this.le Oo
   have h4:=h2.mul h3;have h5:N^e.1.sum*N=N^d.sum:=by rw [hs,Nat.pow_succ]
   rw [Nat.mul_one,h5] at h4;exact (h1.add h4).le Oo
  ·rw [vT (R.len e hm) hs];have:aS F (es.take n) d+aS F (es.take n) e.1*s0 e*0=aS F (es.take n) d:=by grind
   rw [this];exact h1.le Oo
end
theorem FR(fs:List Fr):qF (fs.map rv)=gH fs.length (gI fs):=by
 unfold gH;congr 1;refine List.ext_getElem? λi=>?_;rw [aH,aH];by_cases hi:i<fs.length
 ·rw [bP hi,aC hi];show some _=some (gI fs i);unfold gI;rw [aT,aC hi];rfl
 ·rw [dI Oo,dI (by rw [bH];omega)];rfl
section
variable{F W M:Nat}{es:List bN}{q:Nat->List Nat->Rat}{mix ps cs:Nat->Rat}
def hV(F:Nat)(es:List bN)(q:List Nat->Rat)(w:Nat):Rat:=dF es λe=>aS F es e.1*q e.1*gI e.2 (1+w)
def jR(F:Nat)(es:List bN)(q:List Nat->Rat)(cs:Nat->Rat):Rat:=dF es λe=>cs e.1.sum*(aS F es e.1*q e.1*s0 e)
end
end Mf
namespace Mf
section
variable{F W:Nat}{es:List bN}{q:Nat->List Nat->Rat}{mix ps cs:Nat->Rat}
end
end Mf
namespace L2
open PySem
section
variable{M:Model}{A:Around}{E:Value->Shared->Prop}{s:Shared}{env:Env}{outer:List Env}{base:Heap}{L a:Addr}{cls:Value}{od:Option Addr}
end
end L2
namespace L2
open PySem PySem.Spec PyProof.Rows
section
variable{P:Program}{w:World}{H H1 H2:Hp}{h h1 h2 base:Heap}{fs fs2 ex:List Addr}{a:Addr}{o:HO}
end
section
variable{P:Program}{w:World}{K:PySem.W.Frag}{mg:Str->Option Value}{base:Heap}{N:List Str}{qual:Str}{scope:Scope}{f:Addr}{cd:Value}{A:Around}{outer:List Env}{s:Shared}{H:Hp}{E:XK}
end
section
variable{X:Cx}{k:Nat}{f C:Addr}{fd:FuncData}{ps:List Str}{sp:Sp}{Ex:St->XK}{x:Str}{p pos np cpos:Pos}{e:Expr}{es:List Expr}{t:TA}
end
section
variable{X:Cx}{C:Addr}{Ex:St->XK}{x:Str}{pos np cpos:Pos}{e:Expr}{es:List Expr}{t:TA}
end
end L2
namespace L2
open PySem PySem.W PySem.Spec PySem.Calls PyProof.Rows
section
variable{prog:Program}{w:World}{A:Around}{E:Value->Shared->Prop}{s:Shared}{K:Frag}{x C:Addr}{ox:Obj}{od:Option Obj}{name:Str}
end
end L2
namespace L2
open PySem PySem.Spec PyProof.Rows
section
variable{X:Cx}{pins:List (Addr × Obj)}{σ:St}{H:Hp}{s:Shared}
end
section
variable{M:Model}{A:Around}{E:Value->Shared->Prop}{K:PySem.W.Frag}{s:Shared}{a C C2:Addr}{ox:Obj}{od:Option Obj}
end
section
variable{X:Cx}{x n:Str}{np hpos pos:Pos}{b₀:Stmt}{body suite:List Stmt}{i:Nat}{C2:Addr}{tb:(St->XK)->TS}{th:TS}
end
end L2
namespace L2
open PySem PySem.W PySem.Spec PySem.Calls PyProof.Rows
section
variable{prog:Program}{w:World}{A:Around}{E:Value->Shared->Prop}{h:Heap}{g:Array GenState}{d:Drawn}{t:Nat}{os:OsState}
variable{nm q:Str}{C N:Addr}{bs bm bmB:List Value}{hdct:Bool}{sn:List Str}{sub:List Value}{ab:Bool}{col:Option Bool}{dd:Option Addr}{k0 k1 k2 k3 k5:Option Value}{B newId initId:String}
end
section
variable{prog:Program}{w:World}{A:Around}{E:Value->Shared->Prop}{s:Shared}{K:Frag}{C f:Addr}{rest:List Value}
end
end L2
namespace L2
open PySem PySem.W PySem.Spec PySem.Calls PyProof.Rows Builtin Builtin.ObjectAttr
section
variable{prog:Program}{w:World}{A:Around}{E:Value->Shared->Prop}{s:Shared}{K:Frag}{x C:Addr}{R:Result->Shared->Prop}
end
section
variable{X:Cx}{pins:List (Addr × Obj)}{σ:St}{H:Hp}{s:Shared}{a C d:Addr}{fs:List (Str × V)}{f:Str}{v:V}{A:Around}{E:Value->Shared->Prop}
end
section
variable{X:Cx}{k:Nat}{f C:Addr}{fd:FuncData}{ps:List Str}{sp:Sp}{x g:Str}{p pos np apos pos':Pos}{e o value:Expr}{es:List Expr}{t:TA}{ta tv:TE}
end
end L2
namespace L2
open PySem PySem.W PySem.Spec PySem.Calls PyProof.Rows
end L2
namespace L2
open PySem PySem.W PySem.Spec PySem.Calls PyProof.Rows Builtin Builtin.ObjectAttr
section
variable{P:Program}{w:World}{H:Hp}{h:Heap}{a C:Addr}{od:Option Addr}
end
section
variable{prog:Program}{w:World}{A:Around}{E:Value->Shared->Prop}{s:Shared}{K:Frag}{x C:Addr}
end
section
variable{X:Cx}{pins:List (Addr × Obj)}{σ:St}{H:Hp}{s:Shared}{a C d:Addr}{fs:List (Str × V)}{f:Str}{v:V}{A:Around}{E:Value->Shared->Prop}
end
section
variable{X:Cx}{k:Nat}{f C:Addr}{fd:FuncData}{ps:List Str}{sp:Sp}{x g:Str}{p pos np apos pos':Pos}{e o value:Expr}{es:List Expr}{t:TA}{ta tv:TE}
end
section
variable{M:Model}{A:Around}{E:Value->Shared->Prop}{env:Env}{K:Frag}{C:Addr}
end
section
variable{X:Cx}{k:Nat}{f C:Addr}{fd:FuncData}{ps:List Str}{sp:Sp}{Ex:St->XK}{x:Str}{pos np cpos:Pos}{e:Expr}{es:List Expr}{t:TA}
end
end L2
namespace L2
open PySem PySem.Spec PySem.W PyProof.Rows HT
@[irreducible] def zU:List V->Hp->VK->Prop:=λxs H Q=>∃(d:Addr) (kvs:List (List dS × V)),xs=[.ref d]/\H d=some (.dT kvs)/\kvs.length<=1000/\∀D ys H',H D=none->H' D=some (.lst ys)->wI H' kvs ys->bE H H'->Q (.ref D) H'
theorem rlst{H:Hp}{Q:VK}{d:Addr}{kvs:List (List dS × V)}(h:H d=some (.dT kvs))(hz:kvs.length<=1000)(q:∀D ys H',H D=none->H' D=some (.lst ys)->wI H' kvs ys->bE H H'->Q (.ref D) H'):zU [.ref d] H Q:=by
 unfold zU;exact ⟨d,kvs,rfl,h,hz,q⟩
theorem DC{X:Cx}(hc:X.calm=true):iP X (.type "list") zU:=by
 unfold zU;intro pins s σ H xs us Q I r h;obtain ⟨d,kvs,rfl,hq,hz,q⟩:=h;obtain ⟨u,rfl,rx⟩:=lN r;cases rx;obtain ⟨hm,hnd,o,hod,hex,es,ep,hdd,hsz,hat⟩:=VI I hq;have hline:es.size<=sizeLine:=aW (show es.size<=1000 by omega) Dd;refine kdl_call (GL hm hex hdd) (I.ok.hd hc) hod hline λh' tk acc' c' kp hget hacc=>?_;obtain ⟨la,ha⟩:=hacc;have hv:∃ys:List V,cZ ys acc'.toList/\wI H kvs ys:=by
  have key:∀(n:Nat) (l:List Value),l.length=n->∀(m:List (List dS × V)),m.length=n->(∀(i:Nat) v p,l[i]?=some v->m[i]?=some p->∃b,v=.ref b/\H b=some (.tup (p.1.map kV)))->∃ys:List V,cZ ys l/\wI H m ys:=by
   intro n
   induction n with
   | zero =>
    intro l hl m hm _;cases l with
    | nil=>cases m with
     | nil=>exact ⟨[],.nil,rfl,λi p h=>by simp at h⟩
     | cons _ _=>simp at hm
    | cons _ _=>simp at hl
   | succ n ih =>
    intro l hl m hm hk;cases l with
    | nil=>simp at hl
    | cons v l=>cases m with
     | nil=>simp at hm
     | cons p m =>
      obtain ⟨b,rfl,hb⟩:=hk 0 v p rfl rfl;obtain ⟨ys,hv,hy,ha⟩:=ih l (by simpa using hl) m (by simpa using hm) λi v p h1 h2=>hk (i+1) v p (by simpa using h1) (by simpa using h2);refine ⟨.ref b::ys,.cons rfl hv,by simp [hy],λi q hq=>?_⟩;cases i with
      | zero=>cases (show p=q by simpa using hq);exact ⟨b,rfl,hb⟩
      | succ i =>
       obtain ⟨b',h1,h2⟩:=ha i q (by simpa using hq);exact ⟨b',by simpa using h1,h2⟩
  refine key kvs.length acc'.toList (by rw [Array.length_toList,la,hsz]) kvs rfl λi v p h1 h2=>?_;obtain ⟨hi,e⟩:=ha i v (by rw [<-Array.getElem?_toList];exact h1);obtain ⟨b,k1,k2⟩:=hat i hi p h2;exact ⟨b,by rw [e,k1],k2⟩
 obtain ⟨ys,hv,hy⟩:=hv;have hn:=I.hok.fresh (aJ s.heap.objs.size);have sm:bE H (upd H s.heap.objs.size (.lst ys)):=bE.upd hn;refine ⟨.ref s.heap.objs.size,upd H s.heap.objs.size (.lst ys),I.laid (t':=tk) kp (aJ _) ⟨by have:=hy.1;omega,acc'.toList,c',hv,by rw [Array.toArray_toList];exact hget⟩,rfl,q _ ys _ hn bI ⟨hy.1,λi p hp=>?_⟩ sm⟩;obtain ⟨b,h1,h2⟩:=hy.2 i p hp;exact ⟨b,h1,sm _ _ h2⟩
end L2
namespace L2
open PySem PySem.Spec PyProof.Rows
section
variable{X:Cx}
end
end L2
namespace Kw
open PySem L2 Mf
def top(i:Nat):Stmt:=PySem.Challenge.pw_earlystop_k30_whole_mixed_shares.main.body.getD i (.Pass ⟨0,0,0,0⟩)
structure Cl where
 ONE:Addr
 NOUGHT:Addr
 tok_LOOKS_ON:Tok
structure jS(K:PySem.W.Frag)(mg:Str->Option Value)(c:Cl):Prop where
 b_list:mg "list" = none
 b_len:mg "len" = none
 b_abs:mg "abs" = none
 b_range:mg "range" = none
 b_sum:mg "sum" = none
 b_max:mg "max" = none
 b_int:mg "int" = none
 b_bool:mg "bool" = none
 b_sorted:mg "sorted" = none
 b_dict:mg "dict" = none
 b_isinstance:mg "isinstance" = none
 b_all:mg "all" = none
 b_tuple:mg "tuple" = none
 b_zip:mg "zip" = none
 g_ONE:mg "ONE" = some (.ref c.ONE)
 g_NOUGHT:mg "NOUGHT" = some (.ref c.NOUGHT)
 g_LOOKS_ON:mg "LOOKS_ON" = some (.int 0 c.tok_LOOKS_ON)
 o_ONE:pS K c.ONE [1,1]=true
 o_NOUGHT:pS K c.NOUGHT [0,1]=true
abbrev sQ3:Stmt:=(top 49)
theorem cQ3:bT ["_law_n","_law_d","_law_one","_law_other"] ["_law_n","_law_d"] (bB sQ3):=⟨rfl,rfl,rfl,Kk,rfl,Kk,Kk⟩
theorem GN{b:Bool}{A B:Prop}(h:b=true)(k:A):if b=true then A else B:=by rw [h,if_pos rfl];exact k
theorem pM{b:Bool}{A B:Prop}(h:b=false)(k:B):if b=true then A else B:=by rw [h,if_neg Dd];exact k
def lM(n:Nat)(d:PyData):Prop:=PyData.canLay0 d=true/\PyData.depth d<=n
theorem lM.all{n:Nat}:∀{ds:List PyData},(∀d∈ds,lM n d)->PyData.canLayAll0 ds=true/\PyData.depthAll ds<=n
 | [],_=>⟨rfl,cM _⟩
 | d::ds,h=>by
  obtain ⟨h1,h2⟩:=h d (aL ..);obtain ⟨h3,h4⟩:=lM.all λe he=>h e (aM _ he);refine ⟨?_,?_⟩
  ·show (PyData.canLay0 d&&PyData.canLayAll0 ds)=true;rw [h1,h3];rfl
  ·show max (PyData.depth d) (PyData.depthAll ds)<=n;omega
theorem lM.tup{n:Nat}{ds:List PyData}(h:∀d∈ds,lM n d):lM (n+1) (.tuple ds):=⟨(lM.all h).1,by have:=(lM.all h).2;show PyData.depthAll ds+1<=n+1;omega⟩
theorem lM.lst{n:Nat}{ds:List PyData}(h:∀d∈ds,lM n d):lM (n+1) (.list ds):=⟨(lM.all h).1,by have:=(lM.all h).2;show PyData.depthAll ds+1<=n+1;omega⟩
theorem lM.int(i:Int):lM 1 (.int i):=⟨rfl,by simp [PyData.depth]⟩
theorem lM.ok{n:Nat}{d:PyData}(h:lM n d)(hn:n<=64:=by decide):SeqAt.shaped d=true:=by
 unfold SeqAt.shaped;rw [h.1,Bool.true_and];exact cV (by have:=h.2;omega)
abbrev fB(f:Fr):PyData:=.tuple [.int f.1,.int f.2]
theorem YZ{H:Hp}{f:Fr}{v:V}(h:cA H (fB f) v):∃a,v=.ref a/\H a=some (.tup [.int f.1,.int f.2]):=by
 unfold cA bD bD bD at h;obtain ⟨a,_,rfl,h1,x,_,rfl,r1,y,_,rfl,r2,rfl⟩:=h;cases (show x=V.int f.1 from r1);cases (show y=V.int f.2 from r2);exact ⟨a,rfl,h1⟩
theorem dB{H:Hp}{f:Fr}{a:Addr}(h:H a=some (.tup [.int f.1,.int f.2])):cA H (fB f) (.ref a):=cA.tup h (bD.cons (cA.int _) (bD.cons (cA.int _) bD.nil))
theorem dN(f:Fr):fC (fB f)=true:=rfl
def fS(K:PySem.W.Frag)(H:Hp)(f:Fr)(x:V):Prop:=∃a,x=.ref a/\fF K H a [.int f.1,.int f.2]
theorem fS.of{K:PySem.W.Frag}{H:Hp}{f:Fr}{x:V}(h:cA H (fB f) x):fS K H f x:=by
 obtain ⟨a,e,h⟩:=YZ h;exact ⟨a,e,fF.of h⟩
theorem fS.new{K:PySem.W.Frag}{H:Hp}{f:Fr}{a:Addr}(h:H a=some (.tup [.int f.1,.int f.2])):fS K H f (.ref a):=⟨a,rfl,fF.of h⟩
theorem fS.same{K:PySem.W.Frag}{H H':Hp}{f:Fr}{x:V}(s:bE H H')(h:fS K H f x):fS K H' f x:=by
 obtain ⟨a,e,h⟩:=h;exact ⟨a,e,h.keep s⟩
theorem fS.k{K:PySem.W.Frag}{H:Hp}{f:Fr}{x:V}(h:fS K H f x):iD K H (fB f) x:=by
 obtain ⟨a,rfl,h⟩:=h;exact iD.tup h (fD.ints [f.1,f.2])
def jQ(k:Nat)(f:Fr):Prop:=f.1.natAbs<2^k/\f.2.natAbs<2^k
@[irreducible] def xI:Sp:=λvs H Q _=>∃n d:Int,vs=[.int n,.int d]/\0<d/\Q (.int (Int.gcd n d)) H
theorem tQ{H:Hp}{Q:VK}{E:XK}{n d:Int}(h:0<d)(q:Q (.int (Int.gcd n d)) H):xI [.int n,.int d] H Q E:=by unfold xI;exact ⟨n,d,rfl,h,q⟩
def nC(H:Hp)(Q:VK)(f:Fr):Prop:=∀q H',H q=none->H' q=some (.tup [.int f.1,.int f.2])->bE H H'->Q (.ref q) H'
@[irreducible] def lA(K:PySem.W.Frag):Sp:=λvs H Q _=>∃x y f g,vs=[x,y]/\fS K H f x/\fS K H g y/\dL f/\dL g/\jQ 4000 f/\jQ 4000 g/\nC H Q (nA f g)
theorem lU{K:PySem.W.Frag}{H:Hp}{Q:VK}{E:XK}{x y:V}{f g:Fr}(h1:fS K H f x)(h2:fS K H g y)(l1:dL f)(l2:dL g)(z1:jQ 4000 f)(z2:jQ 4000 g)(q:nC H Q (nA f g)):lA K [x,y] H Q E:=by unfold lA;exact ⟨x,y,f,g,rfl,h1,h2,l1,l2,z1,z2,q⟩
theorem YW{n d:Int}(h:0<d):(Int.gcd n d:Int)<=d:=Int.le_of_dvd h (Int.gcd_dvd_right n d)
theorem vU{n d:Int}{k:Nat}(h:0<d)(z:d.natAbs<2^k):(Int.gcd n d:Int).natAbs<2^k:=by
 have:=YW (n:=n) h;have:=iK (n:=n) h;omega
theorem rC{n d:Int}(h:0<d)(z:d.natAbs<2^9000):OV n d:=⟨h,EZ z⟩
theorem jG{i:Int}{n m:Nat}(h:i.natAbs<2^n)(k:n<=m:=by decide):i.natAbs<2^m:=aV h (aO Dd k)
theorem pQ{i j:Int}{n:Nat}(h:i.natAbs<2^n)(hj:0<j):(i/j).natAbs<2^n:=aQ (by
 have:=Int.natAbs_ediv_le_natAbs i j;exact this) h
theorem rT{i j:Int}{n m:Nat}(h1:i.natAbs<2^n)(h2:j.natAbs<2^m):(i*j).natAbs<2^(n+m):=by
 rw [fZ,Nat.pow_add];exact Nat.mul_lt_mul'' h1 h2
abbrev pX(fs:List Fr):PyData:=.tuple (fs.map fB)
theorem qZ:∀fs:List Fr,eQ (fs.map fB)=true
 | []=>rfl
 | f::fs=>by show (fC (fB f)&&eQ (fs.map fB))=true;rw [qZ fs];rfl
theorem uZ(fs:List Fr):fC (pX fs)=true:=qZ fs
@[irreducible] def jN:Sp:=λvs H Q _=>∃n d:Int,vs=[.int n,.int d]/\0<d/\d.natAbs<2^9000/\nC H Q (lw n d)
theorem mL{H:Hp}{Q:VK}{E:XK}{n d:Int}(h:0<d)(z:d.natAbs<2^9000)(q:nC H Q (lw n d)):jN [.int n,.int d] H Q E:=by unfold jN;exact ⟨n,d,rfl,h,z,q⟩
section
theorem oQ3(F:iQ K "_law_frac" "_law_frac" sQ3 f fd)(T:jS K mg c):eA P w K mg base dG 1 f fd ["_law_n","_law_d"] jN:=by
 refine F.oky cQ3 λvs H Q E h=>?_;unfold jN at h;obtain ⟨n,d,rfl,hd,hz,q⟩:=h;refine ⟨rfl,λcdv A outer s hr=>?_⟩;refine ⟨_,(aK (bQ (i:=2) cQ3.nd rfl (Or.inl rfl) (gL ZI (by rfl) T.b_abs Kk (aF (aG 0) aE)))
  (aK (bQ (i:=3) cQ3.nd rfl (Or.inl rfl) (aG 1))
  (aK (pY PassesOwn.never (eS xO (aG 3) aI (nomark _)) (bF (VR (i:=2) (j:=3) rfl cQ3.nd rfl rfl Dd rfl rfl (aF (aG 3) (aF (cE oI (aG 2) (aG 3)) aE)) rfl)))
  (bF (bZ (cY (aF (cE fQ (aG 0) (aG 2)) (aF (cE fQ (aG 1) (aG 2)) aE)))))))),?_⟩
 refine ⟨_,rfl,?_⟩;refine raI ?_;refine ⟨_,rfl,?_⟩;refine tO (λm σ H'=>∃(u v:Int),σ=[some (.int n),some (.int d),some (.int u),some (.int v)]/\0<=v/\Int.gcd u v=Int.gcd n d/\(v=0->0<u)/\H'=H/\m=v.toNat)
  (λσ H'=>σ=[some (.int n),some (.int d),some (.int (Int.gcd n d)),some (.int 0)]/\H'=H)
  _ ⟨(n.natAbs:Int),d,rfl,Oo,by rw [Int.gcd_eq_natAbs_gcd_natAbs,Int.gcd_eq_natAbs_gcd_natAbs,Int.natAbs_natCast],Oo,rfl,rfl⟩ ?_ ?_
 ·rintro m σ H2 ⟨u,v,rfl,hb,hg,h0,rfl,rfl⟩;refine ⟨_,rfl,_,_,rfl,rfl,_,rfl,?_⟩;refine CM (λe=>?_) (λe=>?_)
  ·refine ⟨_,rfl,_,rfl,_,rfl,_,_,rfl,rfl,e,_,_,rfl,?_⟩;have e1:=Int.emod_lt_of_pos u e;have e2:=Int.emod_nonneg u (b:=v) Oo;exact ⟨_,Oo,v,u % v,rfl,e2,by rw [CN,hg],λ_=>e,rfl,rfl⟩
  ·have hb0:v=0:=Oo;subst hb0;have hu:=h0 rfl;have e1:=GU hu;rw [hg] at e1;rw [e1];exact ⟨rfl,rfl⟩
 ·rintro σ H2 ⟨rfl,rfl⟩;have hg:=iK (n:=n) hd;have zg:OV n (Int.gcd n d:Int):=rC hg (vU hd hz);refine ⟨_,rfl,_,rfl,_,_,rfl,rfl,zg,?_⟩;refine ⟨_,rfl,_,rfl,_,_,rfl,rfl,zg,?_⟩;refine mC (by show 2<=64;decide) λp H3 hp e3 s3=>?_;exact q p H3 hp e3 s3
end
theorem bD.atX{H:Hp}{α:Type}{g:α->PyData}{as:List α}{xs:List V}(r:bD H (as.map g) xs){i:Nat}{a:α}(h:as[i]?=some a):∃x,xs[i]?=some x/\cA H (g a) x:=by
 induction as generalizing xs i with
 | nil=>simp at h
 | cons b as ih =>
  rw [aP] at r;unfold bD at r;obtain ⟨x,xs',rfl,r1,r2⟩:=r;cases i with
  | zero=>cases (show b=a by simpa using h);exact ⟨x,rfl,r1⟩
  | succ i=>exact ih r2 (by simpa using h)
theorem sB{H:Hp}{fs:List Fr}{v:V}(h:cA H (pX fs) v):∃a xs,v=.ref a/\H a=some (.tup xs)/\bD H (fs.map fB) xs:=by
 unfold cA at h;exact h
abbrev wD(w:Str × List Fr):PyData:=.tuple [.str w.1,pX w.2]
abbrev sX(fs:List Str)(ws:List (Str × List Fr)):PyData:=.tuple [.tuple (fs.map .str),.tuple (ws.map wD)]
theorem xE:∀fs:List Str,eQ (fs.map PyData.str)=true
 | []=>rfl
 | f::fs=>by show (fC (.str f)&&eQ (fs.map PyData.str))=true;rw [xE fs];rfl
theorem FO(w:Str × List Fr):fC (wD w)=true:=by
 show (fC (.str w.1)&&(fC (pX w.2)&&true))=true;rw [uZ];rfl
theorem yR:∀ws:List (Str × List Fr),eQ (ws.map wD)=true
 | []=>rfl
 | w::ws=>by show (fC (wD w)&&eQ (ws.map wD))=true;rw [FO w,yR ws];rfl
theorem uN(fs:List Str)(ws:List (Str × List Fr)):fC (sX fs ws)=true:=by
 show (fC (.tuple (fs.map .str))&&(fC (.tuple (ws.map wD))&&true))=true;rw [show fC (.tuple (fs.map PyData.str))=eQ (fs.map PyData.str) from rfl,xE,show fC (.tuple (ws.map wD))=eQ (ws.map wD) from rfl,yR];rfl
theorem yL{H:Hp}:∀fs:List Str,bD H (fs.map PyData.str) (fs.map V.str)
 | []=>bD.nil
 | f::fs=>bD.cons (cA.str f) (yL fs)
theorem kI{H:Hp}{ds:List PyData}{v:V}(h:cA H (.tuple ds) v):∃a xs,v=.ref a/\H a=some (.tup xs)/\bD H ds xs:=by unfold cA at h;exact h
theorem oQ{H:Hp}{d e:PyData}{xs:List V}(h:bD H [d,e] xs):∃x y,xs=[x,y]/\cA H d x/\cA H e y:=by
 unfold bD bD bD at h;obtain ⟨x,_,rfl,h1,y,_,rfl,h2,rfl⟩:=h;exact ⟨x,y,rfl,h1,h2⟩
theorem gQ{α:Type}{H:Hp}{g:α->PyData}{fs:List α}{vs:List V}(h:bD H (fs.map g) vs){i:Nat}{v:V}(e:vs[i]?=some v):∃f,fs[i]?=some f/\cA H (g f) v:=by
 obtain ⟨d,h1,h2⟩:=h.get e;rw [aH] at h1;cases q:fs[i]? with
 | none=>rw [q] at h1;cases h1
 | some f=>rw [q] at h1;cases h1;exact ⟨f,rfl,h2⟩
theorem xM{α:Type}{H:Hp}{g:α->PyData}{fs:List α}{vs:List V}(h:bD H (fs.map g) vs){i:Nat}{f:α}(e:fs[i]?=some f):∃v,vs[i]?=some v/\cA H (g f) v :=
 h.get' (by rw [aH,e];rfl)
theorem gP{α:Type}{H:Hp}{g:α->PyData}{fs:List α}{vs:List V}(h:bD H (fs.map g) vs):vs.length=fs.length:=by rw [h.len,aA]
theorem eW{α:Type}{l:List α}{i:Nat}{x:α}(h:l[i]?=some x):l.take (i+1)=l.take i++[x]:=by
 rw [fI,h];rfl
end Kw
namespace Kt
open PySem L2 Mf Kw
abbrev WZ:Stmt:=(top 47)
theorem ZP:bT ["_law_script","_law_at","_law_cell"] ["_law_script","_law_at"] (bB WZ):=⟨rfl,rfl,rfl,Kk,rfl,Kk,Kk⟩
abbrev sQ6:Stmt:=(top 48)
theorem cQ6:bT ["_law_tape_here","_law_many","_law_turn","_law_found","_law_stirred"] ["_law_tape_here","_law_many"] (bB sQ6):=⟨rfl,rfl,rfl,Kk,rfl,Kk,Kk⟩
abbrev LU:Stmt:=(top 53)
theorem ZR:bT ["_law_tape_here","_law_many","_law_parts"] ["_law_tape_here","_law_many"] (bB LU):=⟨rfl,rfl,rfl,Kk,rfl,Kk,Kk⟩
abbrev sQ9:Stmt:=(top 55)
theorem cQ9:bT ["_law_tape_here","_law_ways","_law_stops","_law_plain","_law_place"] ["_law_tape_here","_law_ways","_law_stops","_law_plain"] (bB sQ9):=⟨rfl,rfl,rfl,Kk,rfl,Kk,Kk⟩
abbrev sQ4:Stmt:=(top 56)
theorem cQ4:bT ["_law_counts","_law_says_here"] ["_law_counts","_law_says_here"] (bB sQ4):=⟨rfl,rfl,rfl,Kk,rfl,Kk,Kk⟩
abbrev sQ8:Stmt:=(top 57)
theorem ZK:bT ["_law_tape_here","_law_faces","_law_ways","_law_most","_law_plain","_law_found","_law_level","_law_later","_law_counts","_law_says_here"] ["_law_tape_here","_law_faces","_law_ways","_law_most","_law_plain"] (bB sQ8):=⟨rfl,rfl,rfl,Kk,rfl,Kk,Kk⟩
abbrev XA:Stmt:=(top 58)
theorem ZQ:bT ["_law_tape_here","_law_faces","_law_most"] ["_law_tape_here"] (bB XA):=⟨rfl,rfl,rfl,Kk,rfl,Kk,Kk⟩
abbrev QQ:Stmt:=(top 54)
theorem JU:bT ["_law_tape_here","_law_faces","_law_ways","_law_names","_law_told","_law_found","_law_k"] ["_law_tape_here","_law_faces","_law_ways"] (bB QQ):=⟨rfl,rfl,rfl,Kk,rfl,Kk,Kk⟩
abbrev tpD(c l t:Int):List (dS × V):=[(.inr "cell",.int c),(.inr "left",.int l),(.inr "turn",.int t)]
structure bW(H:Hp)(p:Addr)(n:Nat):Prop where
 ex:∃c l t:Int,H p=some (.dK (tpD c l t))/\0<=l/\0<=t/\t+n<=1000000000000
theorem bW.ne{H:Hp}{p q:Addr}{n:Nat}(F:bW H p n)(hq:H q=none):q≠p:=λe=>by
 subst e;obtain ⟨c,l,t,h,_⟩:=F.ex;rw [h] at hq;cases hq
theorem bW.there{H:Hp}{p:Addr}{n:Nat}(F:bW H p n):∃o,H p=some o:=by obtain ⟨c,l,t,h,_⟩:=F.ex;exact ⟨_,h⟩
theorem bW.neL{H:Hp}{p q:Addr}{n:Nat}{xs:List V}(F:bW H p n)(hq:H q=some (.lst xs)):q≠p:=λe=>by
 subst e;obtain ⟨c,l,t,h,_⟩:=F.ex;rw [h] at hq;cases hq
theorem bW.same{H H':Hp}{p:Addr}{n:Nat}(F:bW H p n)(s:bE H H'):bW H' p n:=by
 obtain ⟨c,l,t,h,r⟩:=F.ex;exact ⟨c,l,t,s _ _ h,r⟩
theorem bW.but{H H':Hp}{p D:Addr}{n:Nat}(F:bW H p n)(s:aR D H H')(n1:D≠p):bW H' p n:=by
 obtain ⟨c,l,t,h,r⟩:=F.ex;exact ⟨c,l,t,s.at (Ne.symm n1) h,r⟩
theorem bW.less{H:Hp}{p:Addr}{n m:Nat}(F:bW H p n)(h:m<=n):bW H p m:=by
 obtain ⟨c,l,t,e,l0,t0,r⟩:=F.ex;exact ⟨c,l,t,e,l0,t0,Oo⟩
theorem bW.t{H H':Hp}{p:Addr}{n:Nat}(F:bW H p n)(s:aR p H H'):eF H H':=by
 obtain ⟨c,l,t,h,_⟩:=F.ex;exact s.tD h
theorem bW.like{p:Addr}{n:Nat}(f:Nat->Nat):oP p (λi H=>bW H p (f i)) :=
 ⟨λ_ D H1 H2 n1 s F=>F.but s n1,λ_ H1 H2 s F=>F.same s,λ_ H' F=>by obtain ⟨c,l,t,h,_⟩:=F.ex;exact ⟨_,h⟩⟩
@[irreducible] def qH(K:PySem.W.Frag):Sp:=λvs H Q _=>∃(a:Addr) (ns:List Int) (k:Int),vs=[.ref a,.int k]/\fM K H a (ns.map V.int)/\ns.length<=63/\0<=k/\∀p H',bW H' p 1000000000000->bE H H'->H p=none->Q (.ref p) H'
theorem IG{K:PySem.W.Frag}{H:Hp}{Q:VK}{E:XK}{a:Addr}{ns:List Int}{k:Int}(h:fM K H a (ns.map V.int))(hl:ns.length<=63)(hk:0<=k)(q:∀p H',bW H' p 1000000000000->bE H H'->H p=none->Q (.ref p) H'):qH K [.ref a,.int k] H Q E:=by
 unfold qH;exact ⟨a,ns,k,rfl,h,hl,hk,q⟩
@[irreducible] def jH:Sp:=λvs H Q _=>∃(p:Addr) (n:Nat) (m:Int),vs=[.ref p,.int m]/\bW H p (n+1)/\0<m/\bits m<=64/\∀x H',0<=x->x<m->bW H' p n->aR p H H'->Q (.int x) H'
theorem dZ{H:Hp}{Q:VK}{E:XK}{p:Addr}{n:Nat}{m:Int}(F:bW H p (n+1))(h:0<m)(hb:bits m<=64)(k:∀x H',0<=x->x<m->bW H' p n->aR p H H'->Q (.int x) H'):jH [.ref p,.int m] H Q E:=by
 unfold jH;exact ⟨p,n,m,rfl,F,h,hb,k⟩
theorem bitsle{i:Int}{n:Nat}(h:i.natAbs<2^n):bits i<=n:=PySem.intBits_le_iff.mpr h
@[irreducible] def rZ(K:PySem.W.Frag):Sp:=λvs H Q _=>∃(a:Addr) (ns:List Int),vs=[.ref a]/\fM K H a (ns.map V.int)/\ns.length<=63/\∀H',Q (.bl true) H'
theorem LI{K:PySem.W.Frag}{H:Hp}{a:Addr}{ns:List Int}(h:fM K H a (ns.map V.int))(hl:ns.length<=63):rZ K [.ref a] H (λv _=>v=.bl true) (λ_ _ _=>False):=by
 unfold rZ;exact ⟨a,ns,rfl,h,hl,λ_=>rfl⟩
theorem rlQ{K:PySem.W.Frag}{H:Hp}{p:Addr}{xs:List V}{Q:VK}(h:fM K H p xs)(q:Q (.int xs.length) H):zV K [V.ref p] H Q:=by unfold zV;exact ⟨_,_,rfl,.inl ⟨xs,h,rfl⟩,q⟩
section
theorem aCv(F:iQ K "_law_tape" "_law_tape" WZ f fd)(T:jS K mg c):eA P w K mg base dG 1 f fd ["_law_script","_law_at"] (qH K):=by
 refine F.oky ZP λvs H Q E h=>?_;unfold qH at h;obtain ⟨a,ns,i,rfl,hS,hl,hi,k⟩:=h;refine ⟨rfl,λcdv A outer s hr=>?_⟩;refine ⟨_,(aK (bQ (i:=2) ZP.nd rfl (Or.inl rfl) (aG 1))
  (aK (yS (iO (eS xO (gL lJ (by rfl) T.b_len Kk (aF (aG 0) aE)) aI (nomark _)) (bF (bQ (i:=2) ZP.nd rfl (Or.inl rfl) (cE fR (bV bR (aG 0) (cE oI (aG 1) (gL lJ (by rfl) T.b_len Kk (aF (aG 0) aE))) (λ_ _=>rfl)) (cE fQ (aG 1) (gL lJ (by rfl) T.b_len Kk (aF (aG 0) aE)))))) eK))
  (bF (bZ (PV (uE eT (aG 2) (uE eT (gL (xZ rfl) (by rfl) T.b_max Kk (aF aI (aF (cE zY (aG 2) (cE YG aI aI)) aE))) (uE eT aI PP)))))))),?_⟩
 refine ⟨_,rfl,?_⟩;refine ⟨λσ H3=>∃c:Int,σ=[some (.ref a),some (.int i),some (.int c)]/\H3=H,?_,?_⟩
 ·rintro σ H3 ⟨c,rfl,rfl⟩;intro p hp;refine ⟨_,rfl,?_⟩;refine ⟨_,rfl,_,_,rfl,rfl,⟨Dd,Dd,Dd⟩,_,_,rfl,rfl,_,_,rfl,?_⟩;refine ⟨bI,tpD c (if c-10^18 > 0 then c-10^18 else 0) 0,rfl,by show 3<=15;decide,?_⟩;refine k p _ ⟨c,(if c-10^18 > 0 then c-10^18 else 0),0,?_,by split <;> omega,Dd,Dd⟩ ?_ hp
  ·rw [bI];rfl
  ·intro b o h;have nb:b≠p:=λe=>by subst e;rw [hp] at h;cases h
   rw [L2.cU nb,L2.cU nb];exact h
 ·refine ⟨_,rfl,?_⟩;refine rlQ hS ?_;refine ⟨_,_,rfl,rfl,_,rfl,?_⟩;rw [aA];refine CM (λe1=>?_) (λe1=>?_)
  ·refine ⟨_,rfl,_,rfl,_,rfl,?_⟩;refine rlQ hS ?_;rw [aA];refine ⟨_,_,rfl,rfl,e1,?_⟩;have g0:=Int.emod_nonneg i (b:=(ns.length:Int)) Oo;have g1:=Int.emod_lt_of_pos i e1;have hj:∃z,ns[(i % (ns.length:Int)).toNat]?=some z:=⟨_,aC Oo⟩;obtain ⟨z,hz⟩:=hj;have hat:DG (ns.map V.int) (i % (ns.length:Int))=some (.int z):=by
    have:=eI (xs:=ns.map V.int) (j:=(i % (ns.length:Int)).toNat) (v:=V.int z) (by rw [aH,hz];rfl)
    rwa [Int.toNat_of_nonneg g0] at this
   refine .inl ⟨a,_,_,_,rfl,rfl,hS,hat,?_⟩;refine ⟨_,rfl,_,rfl,?_⟩;refine rlQ hS ?_;rw [aA];refine ⟨_,_,rfl,rfl,⟨e1,bitsle (by have:((ns.length:Int)).natAbs<=63:=Oo;exact aQ this (aV (show 63<2^6 by decide) (aO Dd Dd)))⟩,?_⟩;refine ⟨_,_,rfl,rfl,?_⟩;exact ⟨_,rfl,rfl⟩
  ·exact ⟨_,rfl,rfl⟩
theorem oQ6(F:iQ K "_law_pick" "_law_pick" sQ6 f fd)(T:jS K mg c):eA P w K mg base dG 1 f fd ["_law_tape_here","_law_many"] jH:=by
 refine F.oky cQ6 λvs H Q E h=>?_;unfold jH at h;obtain ⟨p,n,m,rfl,F,hm,hb,k⟩:=h;refine ⟨rfl,λcdv A outer s hr=>?_⟩;obtain ⟨c,l,t,hp,h0,h1,h2⟩:=F.ex;refine ⟨_,(aK (bQ (i:=2) cQ6.nd rfl (Or.inl rfl) (cE fR (jV hr.u1 (aG 0) eT) aI))
  (aK (oS hr.u1 (aG 0) eT (aG 2))
  (aK (iO (eS xO (jV hr.u1 (aG 0) eT) aI (nomark _)) (aK (bQ (i:=3) cQ6.nd rfl (Or.inl rfl) (cE oI (jV hr.u1 (aG 0) eT) (aG 1)))
  (aK (oS hr.u1 (aG 0) eT (cE fQ (jV hr.u1 (aG 0) eT) (aG 1)))
  (bF (bZ (aG 3))))) eK)
  (aK (bQ (i:=4) cQ6.nd rfl (Or.inl rfl) (cE fG (cE fR (cE fR (cE oI (jV hr.u1 (aG 0) eT) aI) (cE fG (cE fG aI (aG 2)) (aG 2))) aI) aI))
  (aK (bQ (i:=4) cQ6.nd rfl (Or.inl rfl) (cE fG (cE fR (cE oI (aG 4) aI) (cE fG aI (aG 2))) aI))
  (bF (bZ (cE oI (cE fQ (cE oI (aG 4) aI) aI) (aG 1))))))))),?_⟩
 refine ⟨_,rfl,?_⟩;refine dgS hp rfl ?_;refine ⟨_,_,rfl,rfl,?_⟩;refine ⟨_,rfl,_,rfl,?_⟩;refine dpS (kvs2:=tpD c l (t+1)) hp (by show 3<=64;decide) rfl λH1 hp1 s1=>?_;refine ⟨_,rfl,?_⟩;refine dgS hp1 rfl ?_;refine ⟨_,_,rfl,rfl,_,rfl,?_⟩;refine CM (λe0=>?_) (λe0=>?_)
 ·refine ⟨_,rfl,?_⟩;refine dgS hp1 rfl ?_;refine ⟨_,rfl,_,_,rfl,rfl,hm,?_⟩;refine ⟨_,rfl,?_⟩;refine dgS hp1 rfl ?_;refine ⟨_,rfl,_,_,rfl,rfl,⟨hm,aW hb Dd⟩,?_⟩;refine ⟨_,rfl,?_⟩;refine dpS (kvs2:=tpD c (l/m) (t+1)) hp1 (by show 3<=64;decide) rfl λH2 hp2 s2=>?_;refine ⟨_,rfl,?_⟩;exact k _ H2 (Int.emod_nonneg _ Oo) (Int.emod_lt_of_pos _ hm) ⟨c,l/m,t+1,hp2,Int.ediv_nonneg h0 Oo,Oo,Oo⟩ (s1.trans s2)
 ·have bt:bits (t+1)<=64:=PySem.intBits_le_64 Oo Oo;refine ⟨_,rfl,?_⟩;refine dgS hp1 rfl ?_;have c0:=Int.emod_nonneg c (b:=2147483647) Dd;have c1:=Int.emod_lt_of_pos c (b:=2147483647) Dd;refine ⟨_,_,rfl,rfl,(by show (0:Int)<2147483647;decide),?_⟩;refine ⟨_,rfl,_,_,rfl,rfl,IntMulOk.of_left Kk,_,rfl,_,_,rfl,rfl,IntMulOk.of_right bt,_,_,rfl,rfl,_,_,rfl,rfl,_,_,rfl,rfl,IntMulOk.of_right Kk,?_⟩;generalize hz:(c % 2147483647+31*(t+1)*(t+1)+1)*48271=z;refine ⟨_,rfl,_,_,rfl,rfl,(by show (0:Int)<2147483629;decide),_,rfl,_,_,rfl,rfl,IntMulOk.of_left Kk,_,_,rfl,rfl,_,_,rfl,rfl,IntMulOk.of_right Kk,?_⟩;generalize hy:(z % 2147483629+7*(t+1))*69621=y;refine ⟨_,rfl,_,_,rfl,rfl,(by show (0:Int)<2147483587;decide),_,_,rfl,rfl,⟨Dd,Kk⟩,_,rfl,_,_,rfl,rfl,hm,?_⟩;exact k _ H1 (Int.emod_nonneg _ Oo) (Int.emod_lt_of_pos _ hm) ⟨c,l,t+1,hp1,h0,Oo,Oo⟩ s1
end
structure kP(n:Nat)(fs:List Fr):Prop where
 ex:∃ns:List Int,ns.length=n/\(∀x∈ns,0<=x/\x<=7)/\0<ns.sum/\fs=ns.map λx=>lw x ns.sum
theorem oT:∀{ns:List Int},(∀x∈ns,0<=x/\x<=7)->0<=ns.sum/\ns.sum<=7*(ns.length:Int)
 | [],_=>by simp
 | n::ns,h=>by
  have h1:=oT (ns:=ns) λx hx=>h x (aM _ hx);have h2:=h n (aL ..);rw [List.sum_cons,cS];omega
theorem QB{ns:List Int}(h:∀x∈ns,0<=x/\x<=7){n:Int}(hn:n∈ns)(p:0<n):0<ns.sum:=by
 induction ns with
 | nil=>cases hn
 | cons a r ih =>
  have h1:=oT (ns:=r) λx hx=>h x (aM _ hx);have h2:=h a (aL ..);rw [List.sum_cons];rcases bA.mp hn with rfl | hr
  ·omega
  ·have:=ih (λx hx=>h x (aM _ hx)) hr;omega
theorem kP.len{n:Nat}{fs:List Fr}(h:kP n fs):fs.length=n:=by
 obtain ⟨ns,h1,_,_,rfl⟩:=h.ex;rw [aA,h1]
theorem kP.zero{n:Nat}{fs:List Fr}(h:kP n fs):kP (1+n) ((0,1)::fs):=by
 obtain ⟨ns,h1,h2,h3,rfl⟩:=h.ex;refine ⟨0::ns,by rw [cS];omega,λx hx=>?_,by rw [List.sum_cons];omega,?_⟩
 ·rcases bA.mp hx with rfl | hx
  ·omega
  ·exact h2 x hx
 ·rw [List.sum_cons,aP,Int.zero_add];have:lw 0 ns.sum=(0,1):=by
   unfold lw;rw [Int.gcd_zero_left];have hn:((ns.sum.natAbs:Nat):Int)=ns.sum:=Oo;rw [hn,Int.zero_ediv,Int.ediv_self Oo]
  rw [this]
def ind(p:Nat)(n:Nat):List Int:=(List.range n).map λk:Nat=>if (k:Int)=(p:Int) then 1 else 0
theorem GP(p n:Nat):(ind p n).length=n:=by unfold ind;rw [aA,bH]
theorem SR{p n:Nat}:∀x∈ind p n,0<=x/\x<=1:=λx hx=>by
 unfold ind at hx;obtain ⟨k,_,rfl⟩:=aD.mp hx;split <;> omega
theorem GO(p:Nat):∀n:Nat,(ind p n).sum=if p<n then 1 else 0
 | 0=>by simp [ind]
 | n+1=>by
  have ih:=GO p n;have e:ind p (n+1)=ind p n++[if (n:Int)=(p:Int) then 1 else 0]:=by
   unfold ind;rw [List.range_succ,bO];rfl
  rw [e,List.sum_append,ih,List.sum_singleton];by_cases h:p<n
  ·rw [if_pos h,if_neg Oo,if_pos Oo];rfl
  ·rw [if_neg h];by_cases h2:p=n
   ·subst h2;rw [if_pos rfl,if_pos Oo];rfl
   ·rw [if_neg Oo,if_neg Oo];rfl
theorem aCz(x:Int):lw x 1=(x,1):=by
 unfold lw;rw [Int.gcd_one_right];simp
theorem kP.one{p n:Nat}(h:p<n):kP n ((ind p n).map λx=>(x,1)):=by
 have e:=GO p n;rw [if_pos h] at e;refine ⟨ind p n,GP p n,λx hx=>?_,Oo,?_⟩
 ·have:=SR x hx;omega
 ·rw [e];exact dR λx _=>(aCz x).symm
@[irreducible] def iW:Sp:=λvs H Q _=>∃(p:Addr) (n m:Nat),vs=[.ref p,.int (m:Int)]/\bW H p (n+8)/\0<m/\m<=5/\∀v fs H',bW H' p n->aR p H H'->cA H' (pX fs) v->kP m fs->Q v H'
theorem nT{H:Hp}{Q:VK}{E:XK}{p:Addr}{n m:Nat}(F:bW H p (n+8))(m0:0<m)(m5:m<=5)(k:∀v fs H',bW H' p n->aR p H H'->cA H' (pX fs) v->kP m fs->Q v H'):iW [.ref p,.int (m:Int)] H Q E:=by
 unfold iW;exact ⟨p,n,m,rfl,F,m0,m5,k⟩
theorem aAB{H:Hp}{Q:VK}{l:Addr}{z:V}{k:Nat}(h:H l=some (.lst [z]))(hk:k<=64)(q:∀c H',H c=none->H' c=some (.lst (List.replicate k z))->bE H H'->Q (.ref c) H'):XL (.ref l) (.int (k:Int)) H Q:=by
 refine ⟨l,k,[z],rfl,rfl,h,Oo,Oo,?_,λp hp=>?_⟩
 ·show 1*((k:Int)).toNat<=sizeLine;rw [Nat.one_mul,Int.toNat_natCast];exact mN hk
 ·rw [Int.toNat_natCast];have e:∀k:Nat,(List.replicate k [z]).flatten=List.replicate k z:=λk=>by
   induction k with
   | zero=>rfl
   | succ k ih=>rw [List.replicate_succ,List.flatten_cons,ih,List.replicate_succ];rfl
  rw [e];exact q p _ hp bI (bE.upd hp)
theorem MX{k:Nat}{b:Nat}(hb:b<k):(∀x∈(List.replicate k (0:Int)).set b 1,0<=x/\x<=7)/\0<((List.replicate k (0:Int)).set b 1).sum:=by
 have h1:∀x∈(List.replicate k (0:Int)).set b 1,0<=x/\x<=7:=λx hx=>by
  rcases List.mem_or_eq_of_mem_set hx with h | rfl
  ·have:=List.eq_of_mem_replicate h;omega
  ·omega
 exact ⟨h1,QB h1 (n:=1) (gA.mpr ⟨b,by rw [List.getElem?_set_self (by simpa using hb)]⟩) Dd⟩
section
theorem aCx(F:iQ K "_law_shares" "_law_shares" LU f fd)(T:jS K mg c)
  (FQ6:eZ dG P w K mg base 1 "_law_pick" ["_law_tape_here","_law_many"] jH) (FQ3:eZ dG P w K mg base 1 "_law_frac" ["_law_n","_law_d"] jN):eA P w K mg base dG 2 f fd ["_law_tape_here","_law_many"] iW:=by
 refine F.oky ZR λvs H Q E h=>?_;unfold iW at h;obtain ⟨p,n,m,rfl,F,m0,m5,k⟩:=h;refine ⟨rfl,λcdv A outer s hr=>?_⟩;refine ⟨_,(aK (bQ (i:=2) ZR.nd rfl (Or.inr rfl) (fU (eC.of (psc:=bB LU) (N:=["_law_tape_here","_law_many","_law_parts"]) (N':=["_law_k","_law_tape_here"]) (js:=[0]) Kk rfl rfl rfl) (eV rfl T.b_range (aF (aG 1) aE)) (λ_ _ _ _=>eJ) (λ_ _ _ _=>(bV (jI K) (eB (aF aI (aF aI (aF aI (aF aI (aF aI (aF aI aE))))))) (bK FQ6 (hr.mono Dd) (aF (aG 1) (aF aI aE))) (λ_ _=>rfl)))))
  (aK (yS (iO (yQ (PM (UF (eS pK (gL (NZ rfl) (by rfl) T.b_sum Kk (aF (aG 2) aE)) aI (nomark _)) (KK (eS pK (bK FQ6 (hr.mono Dd) (aF (aG 0) (aF aI aE))) aI (nomark _)))))) (aK (bQ (i:=2) ZR.nd rfl (Or.inr rfl) (cE MQ (eB (aF aI aE)) (aG 1)))
  (bF (DM aI (VU (aG 2) (bK FQ6 (hr.mono Dd) (aF (aG 0) (aF (aG 1) aE))) LR)))) eK))
  (bF (bZ (hU dA (by rfl) T.b_tuple Kk (aF (fU (eC.of (psc:=bB LU) (N:=["_law_tape_here","_law_many","_law_parts"]) (N':=["_law_part","_law_parts"]) (js:=[2]) Kk rfl rfl rfl) (fT (aG 2)) (λ_ _ _ _=>eJ) (λ_ _ _ _=>(bK FQ3 (hr.mono Dd) (aF (aG 0) (aF (gL (TF K rfl) (by rfl) T.b_sum Kk (aF (aG 1) aE)) aE))))) aE)))))),?_⟩
 refine ⟨_,rfl,_,rfl,Oo,Oo,?_⟩;refine CW (bW.like (n:=n) λi=>n+8-i) F (λ_ y _=>∃x,y=.int x/\0<=x/\x<=7) (λ_ _ _ _ _ h=>h) Oo (λi H' Q' hi F' s' k'=>?_) (λD ys H1 hD hD1 F1 s1 hy hr1=>?_)
 ·refine qU (by show 6<=64;decide) λq1 H2 hq1 e1 s1=>?_;refine ⟨_,rfl,?_⟩;refine dZ (n:=n+8-(i+1)) ((F'.same s1).less Oo) Dd Kk λx H3 x0 x1 F3 s3=>?_;obtain ⟨v,hat,hmem,_⟩:=AW (xs:=[V.int 0,V.int 1,V.int 1,V.int 2,V.int 3,V.int 7]) x0 x1;refine KF (s3.at (F'.ne hq1) e1) hat ?_;refine k' _ H3 F3 (s1.but.trans s3) ?_;simp only [bA,List.not_mem_nil,or_false] at hmem;rcases hmem with rfl | rfl | rfl | rfl | rfl | rfl <;> exact ⟨_,rfl,Dd,Dd⟩
 ·obtain ⟨ns,rfl,hn⟩:=AK (P:=λ_ x=>0<=x/\x<=7) hr1;rw [aA] at hy;have npD:=F.ne hD;have hn':∀x∈ns,0<=x/\x<=7:=λx hx=>by
   obtain ⟨i,hi⟩:=gA.mp hx;exact hn i x hi
  refine ⟨λσ H3=>∃(D:Addr) (ns:List Int),σ=[some (.ref p),some (.int (m:Int)),some (.ref D)]/\H3 D=some (.lst (ns.map V.int))/\ns.length=m/\(∀x∈ns,0<=x/\x<=7)/\0<ns.sum/\bW H3 p n/\aR p H H3,?_,?_⟩
  ·clear hD hD1 hr1 hn hn' hy npD F1 s1;rintro σ H3 ⟨D,ns,rfl,hD3,hl,hn,hS,F3,s3⟩;refine ⟨_,rfl,D,rfl,⟨_,fM.of hD3⟩,?_⟩;have h35:=oT hn;refine sP (λi y H'=>∃n,ns[i]?=some n/\cA H' (fB (lw n ns.sum)) y) (λi y H1 H2 s ⟨n,h1,h2⟩=>⟨n,h1,h2.flat s (dN _)⟩) (by rw [aA];omega) hD3 (λi x H' Q' hx s' k'=>?_) (λD3 ys H8 hD3' hD8 s8 hy8 hr8=>?_)
   ·rw [aH] at hx;obtain ⟨n',hn',rfl⟩:=(show ∃n,ns[i]?=some n/\V.int n=x by
     cases q:ns[i]? with
     | none=>rw [q] at hx;cases hx
     | some n=>rw [q] at hx;cases hx;exact ⟨n,rfl,rfl⟩)
    refine ⟨_,rfl,_,rfl,?_⟩;refine rsI (fM.of (s' _ _ hD3)) ?_;refine mL hS (aV (show ns.sum.natAbs<2^10 by show ns.sum.natAbs<1024;omega) (aO Dd Dd)) ?_;intro q9 H9 hq9 e9 s9;exact k' _ H9 s9 ⟨n',hn',dB e9⟩
   ·refine ⟨D3,ys,rfl,.inl ⟨fM.of hD8,λl hl'=>?_⟩⟩;have sl:=bE.upd (o:=.tup ys) hl';have el:(upd H8 l (.tup ys)) l=some (.tup ys):=bI;generalize upd H8 l (.tup ys)=H9 at sl el;refine k _ (ns.map λn=>lw n ns.sum) H9 ((F3.same s8).same sl) (s3.trans (s8.trans sl).but) (cA.tup el ?_) ⟨ns,hl,hn,hS,rfl⟩;refine bD.ofIdx (by rw [hy8,aA,aA,aA]) λi y hi=>?_;obtain ⟨n,h1,h2⟩:=hr8 i y hi;exact ⟨fB (lw n ns.sum),by rw [aH,aH,h1];rfl,h2.same sl⟩
  ·refine ⟨λb H4=>bW H4 p (n+1)/\aR p H H4/\H4 D=some (.lst (ns.map V.int))/\(b=false->0<ns.sum),?_,?_⟩
   ·refine ⟨_,rfl,?_⟩;refine rsI (fM.of hD1) ?_;refine ⟨rfl,_,rfl,?_⟩;refine CM (λe0=>?_) (λe0=>?_)
    ·exact ⟨F1.less Oo,s1,hD1,λh=>by cases h⟩
    ·refine ⟨_,rfl,?_⟩;refine dZ (n:=n+1) (F1.less Oo) Dd Kk λx H2 x0 x1 F2 s2=>?_;refine ⟨rfl,_,rfl,F2,s1.trans s2,s2.at npD hD1,λ_=>?_⟩;have:=(oT hn').1;have:ns.sum≠0:=λh=>e0 (congrArg V.int h);omega
   ·rintro b H2 ⟨F2,s2,hD2,hS⟩;cases b with
    | false=>exact CK ⟨D,ns,rfl,hD2,Oo,hn',hS rfl,F2.less Oo,s2⟩
    | true =>
     refine CJ ?_;refine qU (by show 1<=64;decide) λq1 H3 hq1 e1 s3=>?_;refine ⟨_,rfl,?_⟩;refine aAB e1 Oo λq2 H4 hq2 e2 s4=>?_;have F4:=(F2.same s3).same s4;have n2:q2≠p:=(F2.same s3).ne hq2;refine ⟨_,rfl,_,rfl,_,rfl,?_⟩;refine dZ F4 Oo (bitsle (aQ (show ((m:Int)).natAbs<=5 by omega) Dd)) λx H5 x0 x1 F5 s5=>?_;obtain ⟨b,rfl⟩:∃b:Nat,x=(b:Int):=⟨x.toNat,Oo⟩;have hD5:=s5.at n2 e2;have hj:JA (List.replicate m (V.int 0)).length (b:Int)=some b:=by
      unfold JA;rw [if_pos x0,if_pos (by rw [bU];omega)];rfl
     refine stG hD5 hj λH6 e6 s6=>?_;have e7:(List.replicate m (V.int 0)).set b (V.int 1)=(((List.replicate m (0:Int)).set b 1).map V.int):=by
      rw [List.map_set,List.map_replicate]
     have hm:=MX (k:=m) (b:=b) Oo;have h2:H q2=none:=aR.free s2 F2.there (s3.free hq2);exact ⟨q2,(List.replicate m (0:Int)).set b 1,rfl,by rw [e6,e7],by rw [List.length_set,bU],hm.1,hm.2,F5.but s6 n2,
      aR.thru h2 ((s2.trans (s3.trans s4).but).trans s5) s6⟩
end
@[irreducible] def qI:Sp:=λvs H Q _=>∃(p:Addr) (n W:Nat) (st pl:Bool),vs=[.ref p,.int (W:Int),.bl st,.bl pl]/\bW H p (n+16)/\2<=W/\W<=4/\∀v fs H',bW H' p n->aR p H H'->cA H' (pX fs) v->kP (1+W) fs->(st=true->fs.head?=some (0,1))->Q v H'
theorem IH{H:Hp}{Q:VK}{E:XK}{p:Addr}{n W:Nat}{st pl:Bool}(F:bW H p (n+16))(h2:2<=W)(h4:W<=4)(k:∀v fs H',bW H' p n->aR p H H'->cA H' (pX fs) v->kP (1+W) fs->(st=true->fs.head?=some (0,1))->Q v H'):qI [.ref p,.int (W:Int),.bl st,.bl pl] H Q E:=by
 unfold qI;exact ⟨p,n,W,st,pl,rfl,F,h2,h4,k⟩
theorem NF{p n:Nat}(hp:0<p):((ind p (1+n)).map λx=>((x,1):Fr)).head?=some (0,1):=by
 unfold ind;rw [Nat.add_comm,List.range_succ_eq_map,aP,aP,List.head?_cons,if_neg Oo]
theorem YV{p n i:Nat}(h:i<n):(ind p n)[i]?=some (if (i:Int)=(p:Int) then 1 else 0):=by
 unfold ind;rw [aH,bP h];rfl
abbrev iC(cs:List Int):PyData:=.tuple (cs.map .int)
theorem xT:∀fs:List Int,eQ (fs.map PyData.int)=true
 | []=>rfl
 | f::fs=>by show (fC (.int f)&&eQ (fs.map PyData.int))=true;rw [xT fs];rfl
theorem iV(cs:List Int):fC (iC cs)=true:=xT cs
theorem yN{H:Hp}:∀{ns:List Int}{vs:List V},bD H (ns.map PyData.int) vs->vs=ns.map V.int
 | [],vs,h=>by unfold bD at h;exact h
 | n::ns,vs,h=>by
  unfold bD at h;obtain ⟨x,xs,rfl,h1,h2⟩:=h;cases (show x=V.int n from h1);rw [yN h2];rfl
theorem EW{H:Hp}{cs:List Int}{v:V}(h:cA H (iC cs) v):∃a,v=.ref a/\H a=some (.tup (cs.map V.int)):=by
 unfold cA at h;obtain ⟨a,xs,rfl,h1,h2⟩:=h;cases yN h2;exact ⟨a,rfl,h1⟩
theorem bD.ofInts{H:Hp}:∀ns:List Int,bD H (ns.map PyData.int) (ns.map V.int)
 | []=>bD.nil
 | n::ns=>bD.cons (cA.int _) (bD.ofInts ns)
theorem NV{H:Hp}{cs:List Int}{a:Addr}(h:H a=some (.tup (cs.map V.int))):cA H (iC cs) (.ref a):=cA.tup h (bD.ofInts cs)
structure wT(F W M:Nat):Prop where
 w:2<=W/\W<=4
 f:F=2/\M<=4\/F=3/\M<=3\/F=4/\M<=2
@[irreducible] def nS:Sp:=λvs H Q _=>∃(p:Addr) (n:Nat),vs=[.ref p]/\bW H p (n+3)/\∀q F W M H',wT F W M->bW H' p n->aR p H H'->H' q=some (.tup [.int (F:Nat),.int (W:Nat),.int (M:Nat)])->Q (.ref q) H'
theorem DZ{H:Hp}{Q:VK}{E:XK}{p:Addr}{n:Nat}(F:bW H p (n+3))(k:∀q F W M H',wT F W M->bW H' p n->aR p H H'->H' q=some (.tup [.int (F:Nat),.int (W:Nat),.int (M:Nat)])->Q (.ref q) H'):nS [.ref p] H Q E:=by
 unfold nS;exact ⟨p,n,rfl,F,k⟩
section
theorem oQ9(F:iQ K "_law_says" "_law_says" sQ9 f fd)(T:jS K mg c)
  (FQ6:eZ dG P w K mg base 1 "_law_pick" ["_law_tape_here","_law_many"] jH) (FQ10:eZ dG P w K mg base 2 "_law_shares" ["_law_tape_here","_law_many"] iW):eA P w K mg base dG 3 f fd ["_law_tape_here","_law_ways","_law_stops","_law_plain"] qI:=by
 refine F.oky cQ9 λvs H Q E h=>?_;unfold qI at h;obtain ⟨p,n,W,st,pl,rfl,F,W2,W4,k⟩:=h;refine ⟨rfl,λcdv A outer s hr=>?_⟩;refine ⟨_,(aK (iO (yQ (PM (UF (pO (aG 3)) (KK (eS pK (bK FQ6 (hr.mono Dd) (aF (aG 0) (aF aI aE))) aI (nomark _)))))) (aK (bQ (i:=4) cQ9.nd rfl (Or.inr rfl) (cE fR aI (bK FQ6 (hr.mono Dd) (aF (aG 0) (aF (aG 1) aE)))))
  (aK (yS (iO (yQ (PM (KL (KM (pO (aG 2))) (FJ (eS xO (bK FQ6 (hr.mono Dd) (aF (aG 0) (aF aI aE))) aI (nomark _)))))) (bF (bQ (i:=4) cQ9.nd rfl (Or.inr rfl) aI)) eK))
  (bF (bZ (hU dA (by rfl) T.b_tuple Kk (aF (fU (eC.of (psc:=bB sQ9) (N:=["_law_tape_here","_law_ways","_law_stops","_law_plain","_law_place"]) (N':=["_law_k","_law_place"]) (js:=[4]) Kk rfl rfl rfl) (eV rfl T.b_range (aF (cE fR aI (aG 1)) aE)) (λ_ _ _ _=>eJ) (λ_ _ _ _=>(cY (aF (hU JP (by rfl) T.b_int Kk (aF (pP pK (aG 0) (aG 1) (nomark _)) aE)) (aF aI aE))))) aE)))))) eK)
  (aK (iO (pO (aG 2)) (bF (bZ (cE (qT K) (cY (aF (cY (aF aI (aF aI aE))) aE)) (bK FQ10 (hr.mono Dd) (aF (aG 0) (aF (aG 1) aE)))))) eK)
  (bF (bZ (bK FQ10 (hr.mono Dd) (aF (aG 0) (aF (cE fR aI (aG 1)) aE))))))),?_⟩
 refine ⟨λb H1=>bW H1 p (n+15)/\aR p H H1,?_,?_⟩
 ·refine ⟨_,rfl,_,rfl,?_⟩;cases pl with
  | true=>exact CJ ⟨F.less Oo,(bE.refl _).but⟩
  | false =>
   refine CK ?_;refine ⟨_,rfl,?_⟩;refine dZ (n:=n+15) F Dd Kk λx H2 x0 x1 F2 s2=>?_;exact ⟨rfl,_,rfl,F2,s2⟩
 ·rintro b H1 ⟨F1,s1⟩;cases b with
  | true =>
   refine CJ ?_;refine ⟨_,rfl,_,rfl,?_⟩;refine dZ (n:=n+14) F1 Oo (bitsle (aQ (show ((W:Int)).natAbs<=5 by omega) Dd)) λx H2 x0 x1 F2 s2=>?_;refine ⟨_,_,rfl,rfl,?_⟩;refine ⟨λσ H3=>∃a:Nat,σ=[some (.ref p),some (.int (W:Int)),some (.bl st),some (.bl pl),some (.int (a:Int))]/\a<1+W/\(st=true->0<a)/\bW H3 p n/\aR p H H3,?_,?_⟩
   ·rintro σ H3 ⟨a,rfl,ha,hs,F3,s3⟩;refine ⟨_,rfl,_,_,rfl,rfl,_,rfl,Oo,Oo,?_⟩;refine kG (λi y H'=>∃z,(ind a (1+W))[i]?=some z/\cA H' (fB (z,1)) y) (λi y H1 H2 s ⟨z,h1,h2⟩=>⟨z,h1,h2.flat s (dN _)⟩) Oo (λi H' Q' hi s' k'=>?_) (λD ys H4 hD hD4 s4 hy4 hr4=>?_)
    ·refine ⟨_,rfl,_,rfl,rfl,?_⟩;refine .inr ⟨_,rfl,?_⟩;refine mC (by show 2<=64;decide) λq5 H5 hq5 e5 s5=>?_;refine k' _ H5 s5 ⟨_,YV Oo,?_⟩;refine dB (f:=(if (i:Int)=(a:Int) then 1 else 0,1)) ?_;rw [e5,Int.zero_add];by_cases h:(i:Int)=(a:Int)
     ·rw [if_pos h,if_pos (cV (congrArg V.int h))]
     ·rw [if_neg h,if_neg (by rw [decide_eq_true_eq];exact λz=>h (by injection z))]
    ·refine ⟨D,ys,rfl,.inl ⟨fM.of hD4,λl hl=>?_⟩⟩;have sl:=bE.upd (o:=.tup ys) hl;have el:(upd H4 l (.tup ys)) l=some (.tup ys):=bI;generalize upd H4 l (.tup ys)=H5 at sl el;refine k _ ((ind a (1+W)).map λx=>(x,1)) H5 ((F3.same s4).same sl) (s3.trans (s4.trans sl).but) (cA.tup el ?_) (kP.one ha) (λh=>NF (hs h));refine bD.ofIdx (by rw [hy4,aA,aA,GP];omega) λi y hi=>?_;obtain ⟨n,h1,h2⟩:=hr4 i y hi;exact ⟨fB (n,1),by rw [aH,aH,h1];rfl,h2.same sl⟩
   ·refine ⟨λb H3=>bW H3 p n/\aR p H H3/\(b=true->st=false),?_,?_⟩
    ·refine ⟨_,rfl,_,rfl,?_⟩;cases st with
     | true=>exact CK ⟨F2.less Oo,s1.trans s2,λh=>by cases h⟩
     | false =>
      refine CJ ?_;refine ⟨_,rfl,?_⟩;refine dZ (n:=n) (F2.less Oo) Dd Kk λy H3 y0 y1 F3 s3=>?_;exact ⟨_,_,rfl,rfl,_,rfl,F3,(s1.trans s2).trans s3,λ_=>rfl⟩
    ·rintro b H3 ⟨F3,s3,hb⟩;cases b with
     | true =>
      refine CJ ?_;exact ⟨0,rfl,Oo,(λh=>by rw [hb rfl] at h;cases h),F3,s3⟩
     | false =>
      refine CK ?_;exact ⟨(1+x).toNat,by rw [show (((1+x).toNat:Nat):Int)=1+x by omega];rfl,Oo,λ_=>Oo,F3,s3⟩
  | false =>
   refine CK ?_;refine ⟨_,rfl,_,rfl,?_⟩;cases st with
   | true =>
    refine CJ ?_;refine mC (by show 2<=64;decide) λq2 H2 hq2 e2 s2=>?_;refine mC (by show 1<=64;decide) λq3 H3 hq3 e3 s3=>?_;refine ⟨_,rfl,_,rfl,?_⟩;have n3:q3≠p:=(F1.same s2).ne hq3;have n2:q2≠p:=F1.ne hq2;refine nT (n:=n) (m:=W) (((F1.same s2).same s3).less Oo) Oo Oo λv fs H4 F4 s4 r4 ok4=>?_;obtain ⟨a,xs,rfl,ha,rxs⟩:=(by unfold cA at r4;exact r4);have e4:=s4.at n3 e3;have e5:=s4.at n2 (s3 _ _ e2);refine OA e4 ha (by rw [show ([V.ref q2]:List V).length=1 from rfl,rxs.len,aA,ok4.len];omega) λc H5 s5 e6=>?_;refine k _ ((0,1)::fs) H5 (F4.same s5) (((s1.trans (s2.trans s3).but).trans s4).trans s5.but) (cA.tup e6 (bD.cons (dB (f:=(0,1)) (s5 _ _ e5)) (rxs.same s5))) ok4.zero (λ_=>rfl)
   | false =>
    refine CK ?_;refine ⟨_,rfl,_,rfl,_,_,rfl,rfl,?_⟩;have e1:(1+(W:Int))=((1+W:Nat):Int):=Oo;show iW [.ref p,.int (1+(W:Int))] _ _ _;rw [e1];refine nT (n:=n) (m:=1+W) (F1.less Oo) Oo Oo λv fs H4 F4 s4 r4 ok4=>?_;exact k v fs H4 F4 (s1.trans s4) r4 ok4 (λh=>by cases h)
theorem aCw(F:iQ K "_law_sizes" "_law_sizes" XA f fd)(T:jS K mg c)
  (FQ6:eZ dG P w K mg base 1 "_law_pick" ["_law_tape_here","_law_many"] jH):eA P w K mg base dG 2 f fd ["_law_tape_here"] nS:=by
 refine F.oky ZQ λvs H Q E h=>?_;unfold nS at h;obtain ⟨p,n,rfl,F,k⟩:=h;refine ⟨rfl,λcdv A outer s hr=>?_⟩;refine ⟨_,(aK (bQ (i:=1) ZQ.nd rfl (Or.inl rfl) (bV bR (eB (aF aI (aF aI (aF aI (aF aI (aF aI (aF aI aE))))))) (bK FQ6 (hr.mono Dd) (aF (aG 0) (aF aI aE))) (λ_ _=>rfl)))
  (aK (bQ (i:=2) ZQ.nd rfl (Or.inl rfl) (bV bR (bV bR (eB (aF (eB (aF aI (aF aI (aF aI (aF aI (aF aI (aF aI aE))))))) (aF (eB (aF aI (aF aI (aF aI (aF aI (aF aI (aF aI aE))))))) (aF (eB (aF aI (aF aI (aF aI (aF aI (aF aI (aF aI aE))))))) aE)))) (cE zY (aG 1) aI) (λ_ _=>rfl)) (bK FQ6 (hr.mono Dd) (aF (aG 0) (aF aI aE))) (λ_ _=>rfl)))
  (bF (bZ (cY (aF (aG 1) (aF (bV bR (eB (aF aI (aF aI (aF aI (aF aI aE))))) (bK FQ6 (hr.mono Dd) (aF (aG 0) (aF aI aE))) (λ_ _=>rfl)) (aF (aG 2) aE)))))))),?_⟩
 refine qU (by show 6<=64;decide) λq1 H1 hq1 e1 s1=>?_;refine ⟨_,rfl,?_⟩;refine dZ (n:=n+2) (F.same s1) Dd Kk λx H2 x0 x1 F2 s2=>?_;obtain ⟨v,hat,hmem,_⟩:=AW (xs:=[V.int 2,V.int 2,V.int 2,V.int 3,V.int 3,V.int 4]) x0 x1;refine KF (s2.at (F.ne hq1) e1) hat ?_;have S2:aR p H H2:=s1.but.trans s2;have hv:∃nF:Nat,v=.int (nF:Int)/\(nF=2\/nF=3\/nF=4):=by
  simp only [bA,List.not_mem_nil,or_false] at hmem;rcases hmem with rfl | rfl | rfl | rfl | rfl | rfl
  ·exact ⟨2,rfl,Dd⟩
  ·exact ⟨2,rfl,Dd⟩
  ·exact ⟨2,rfl,Dd⟩
  ·exact ⟨3,rfl,Dd⟩
  ·exact ⟨3,rfl,Dd⟩
  ·exact ⟨4,rfl,Dd⟩
 obtain ⟨nF,rfl,hF⟩:=hv;clear hat hmem e1 hq1 s1 s2;refine qU (by show 6<=64;decide) λq2 H3 hq2 e2 s3=>?_;refine qU (by show 6<=64;decide) λq3 H4 hq3 e3 s4=>?_;refine qU (by show 6<=64;decide) λq4 H5 hq4 e4 s5=>?_;refine qU (by show 3<=64;decide) λq5 H6 hq5 e5 s6=>?_;refine ⟨_,rfl,_,_,rfl,rfl,?_⟩;have F6:=(((F2.same s3).same s4).same s5).same s6;have S6:aR p H H6:=S2.trans (((s3.trans s4).trans s5).trans s6).but;have g2:=s6 _ _ (s5 _ _ (s4 _ _ e2));have g3:=s6 _ _ (s5 _ _ e3);have g4:=s6 _ _ e4;have hrow:∃(qq:Addr) (ms:List Int),DG [V.ref q2,V.ref q3,V.ref q4] ((nF:Int)-2)=some (.ref qq)/\H6 qq=some (.lst (ms.map V.int))/\ms.length=6/\∀m∈ms,∃M:Nat,m=(M:Int)/\(nF=2/\M<=4\/nF=3/\M<=3\/nF=4/\M<=2):=by
  rcases hF with rfl | rfl | rfl
  ·refine ⟨q2,[1,2,3,4,0,3],rfl,g2,rfl,λm hm=>⟨m.toNat,?_⟩⟩;simp only [bA,List.not_mem_nil,or_false] at hm;omega
  ·refine ⟨q3,[1,2,3,2,0,2],rfl,g3,rfl,λm hm=>⟨m.toNat,?_⟩⟩;simp only [bA,List.not_mem_nil,or_false] at hm;omega
  ·refine ⟨q4,[1,2,2,1,0,2],rfl,g4,rfl,λm hm=>⟨m.toNat,?_⟩⟩;simp only [bA,List.not_mem_nil,or_false] at hm;omega
 obtain ⟨qq,ms,hat,hqq,hms,hall⟩:=hrow;refine KF e5 hat ?_;refine ⟨_,rfl,?_⟩;refine dZ (n:=n+1) F6 Dd Kk λy H7 y0 y1 F7 s7=>?_;obtain ⟨m,hm⟩:∃m,ms[y.toNat]?=some m:=⟨_,aC Oo⟩;have hat2:DG (ms.map V.int) y=some (.int m):=by
  have:=eI (xs:=ms.map V.int) (j:=y.toNat) (v:=V.int m) (by rw [aH,hm];rfl)
  rwa [Int.toNat_of_nonneg y0] at this
 obtain ⟨M,rfl,hM⟩:=hall m (gA.mpr ⟨_,hm⟩);refine KF (s7.at (F6.neL hqq) hqq) hat2 ?_;refine ⟨_,rfl,?_⟩;refine qU (by show 4<=64;decide) λq8 H8 hq8 e8 s8=>?_;refine ⟨_,rfl,?_⟩;refine dZ (n:=n) (F7.same s8) Dd Kk λz H9 z0 z1 F9 s9=>?_;obtain ⟨v,hat3,hmem3,_⟩:=AW (xs:=[V.int 2,V.int 2,V.int 3,V.int 4]) z0 z1;refine KF (s9.at (F7.ne hq8) e8) hat3 ?_;have hv:∃nW:Nat,v=.int (nW:Int)/\(2<=nW/\nW<=4):=by
  simp only [bA,List.not_mem_nil,or_false] at hmem3;rcases hmem3 with rfl | rfl | rfl | rfl
  ·exact ⟨2,rfl,Dd⟩
  ·exact ⟨2,rfl,Dd⟩
  ·exact ⟨3,rfl,Dd⟩
  ·exact ⟨4,rfl,Dd⟩
 obtain ⟨nW,rfl,hW⟩:=hv;refine ⟨_,rfl,?_⟩;refine mC (by show 3<=64;decide) λq10 H10 hq10 e10 s10=>?_;exact k q10 nF nW M H10 ⟨hW,hM⟩ (F9.same s10) ((((S6.trans s7).trans s8.but).trans s9).trans s10.but) e10
end
def bump(cs:List Int)(i:Nat):List Int:=cs.take i++[cs.getD i 0+1]++cs.drop (i+1)
def nexts(cs:List Int)(f:Fr):List (List Int):=if f=(0,1) then [] else (List.range cs.length).map (bump cs)
theorem zO{K:PySem.W.Frag}{H:Hp}{a:Addr}{xs:List V}{k:Nat}{z:Int}{Q:VK}(hz:z=(k:Int))(h:H a=some (.tup xs))(q:∀c H',bE H H'->H' c=some (.tup (xs.drop k))->Q (.ref c) H'):BU K (.ref a) (some z) none H Q:=by
 subst hz;exact LP h q
@[irreducible] def qN:Sp:=λvs H Q _=>∃(x y:V) (cs:List Int) (f:Fr) (fs:List Fr),vs=[x,y]/\cA H (iC cs) x/\cA H (pX (f::fs)) y/\cs.length<=4/\fs.length<=4 /\
 ∀D ys H',H D=none->H' D=some (.lst ys)->bD H' ((nexts cs f).map iC) ys->bE H H'->Q (.ref D) H'
theorem IJ{H:Hp}{Q:VK}{E:XK}{x y:V}{cs:List Int}{f:Fr}{fs:List Fr}(h1:cA H (iC cs) x)(h2:cA H (pX (f::fs)) y)(h3:cs.length<=4)(h4:fs.length<=4)
  (k:∀D ys H',H D=none->H' D=some (.lst ys)->bD H' ((nexts cs f).map iC) ys->bE H H'->Q (.ref D) H'):qN [x,y] H Q E:=by
 unfold qN;exact ⟨x,y,cs,f,fs,rfl,h1,h2,h3,h4,k⟩
theorem SV(x y:Int):PyData.eqv (.int x) (.int y)=decide (x=y):=by
 show (x == y)=_;rw [Bool.beq_eq_decide_eq]
theorem CO:∀a b:List Int,PyData.eqvAll (a.map PyData.int) (b.map PyData.int)=decide (a=b)
 | [],[]=>by simp [PyData.eqvAll]
 | [],_::_=>by simp [PyData.eqvAll]
 | _::_,[]=>by simp [PyData.eqvAll]
 | x::a,y::b=>by
  have ih:=CO a b;rw [aP,aP];show (PyData.eqv (.int x) (.int y)&&PyData.eqvAll _ _)=_;rw [ih,SV];by_cases h:x=y <;> by_cases h':a=b <;> simp [h,h']
theorem ZC(a b:List Int):PyData.eqv (iC a) (iC b)=decide (a=b):=CO a b
theorem ZB(f g:Fr):PyData.eqv (fB f) (fB g)=decide (f=g):=by
 have h:=ZC [f.1,f.2] [g.1,g.2];refine (show PyData.eqv (fB f) (fB g)=_ from h).trans ?_;obtain ⟨f1,f2⟩:=f;obtain ⟨g1,g2⟩:=g;simp
section
theorem oQ4(F:iQ K "_law_next" "_law_next" sQ4 f fd)(T:jS K mg c):eA P w K mg base dG 1 f fd ["_law_counts","_law_says_here"] qN:=by
 refine F.oky cQ4 λvs H Q E h=>?_;unfold qN at h;obtain ⟨x,y,cs,g,fs,rfl,rx,ry,h4,h5,k⟩:=h;refine ⟨rfl,λcdv A outer s hr=>?_⟩;obtain ⟨a,rfl,ha⟩:=EW rx;obtain ⟨b,xs,rfl,hb,rxs⟩:=sB ry;obtain ⟨z,hz,rz⟩:=bD.atX (as:=g::fs) rxs (i:=0) (a:=g) rfl;refine ⟨_,(aK (iO (eS (MT hr.units) (bV bR (aG 1) aI (λ_ _=>rfl)) (cY (aF aI (aF aI aE))) (nomark _)) (bF (bZ (eB aE))) eK)
  (bF (bZ (fU (eC.of (psc:=bB sQ4) (N:=["_law_counts","_law_says_here"]) (N':=["_law_face","_law_counts"]) (js:=[0]) Kk rfl rfl rfl) (eV rfl T.b_range (aF (gL lJ (by rfl) T.b_len Kk (aF (aG 0) aE)) aE)) (λ_ _ _ _=>eJ) (λ_ _ _ _=>(cE (qT K) (cE (qT K) (jJ (tR K) (aG 1) kX (kW (aG 0))) (cY (aF (cE fR (bV (jI K) (aG 1) (aG 0) (λ_ _=>rfl)) aI) aE))) (jJ (tR K) (aG 1) (kW (cE fR (aG 0) aI)) kX))))))),?_⟩
 refine ⟨_,rfl,?_⟩;refine pE hb (v:=z) (by
  have:=eI (xs:=xs) (j:=0) (v:=z) hz;exact this) ?_
 refine mC (by show 2<=64;decide) λq1 H1 hq1 e1 s1=>?_;have r1:cA H1 (fB (0,1)) (.ref q1):=dB e1;refine reD (rz.same s1) r1 rfl rfl ?_;rw [ZB];refine ⟨_,rfl,?_⟩;rw [Bool.true_beq];refine CM (λeg=>?_) (λeg=>?_)
 ·refine qU (by show 0<=64;decide) λq2 H2 hq2 e2 s2=>?_;refine k q2 [] H2 (s1.free hq2) e2 ?_ (s1.trans s2);unfold nexts;rw [if_pos eg];exact bD.nil
 ·refine ⟨_,rfl,?_⟩;refine rlT (s1 _ _ ha) ?_;rw [aA];refine ⟨_,rfl,Oo,Oo,?_⟩;refine kG (λi y H'=>i<cs.length/\cA H' (iC (bump cs i)) y) (λi y H1 H2 s ⟨h1,h2⟩=>⟨h1,h2.flat s (iV _)⟩) Oo (λi H' Q' hi s' k'=>?_) (λD ys H4 hD hD4 s4 hy4 hr4=>?_)
  ·rw [Int.zero_add];have hi':i<cs.length:=Oo;have ha':=s' _ _ (s1 _ _ ha);refine ⟨_,rfl,_,rfl,_,rfl,?_⟩;refine LQ ha' λc2 H2 s2 e2=>?_;refine ⟨_,rfl,_,rfl,?_⟩;have hat:DG (cs.map V.int) (i:Int)=some (.int (cs.getD i 0)):=eI (by rw [aH,aT,aC hi'];rfl);refine pE (s2 _ _ ha') hat ?_;refine ⟨_,_,rfl,rfl,?_⟩;refine mC (by show 1<=64;decide) λc3 H3 hc3 e3 s3=>?_;refine OA (s3 _ _ e2) e3 (by rw [cH,aA];show min i cs.length+1<=1000;omega) λc4 H4 s4 e4=>?_;refine ⟨_,rfl,_,rfl,_,_,rfl,rfl,?_⟩;refine ⟨_,rfl,?_⟩;refine zO (k:=i+1) Oo (s4 _ _ (s3 _ _ (s2 _ _ ha'))) λc5 H5 s5 e5=>?_;refine OA (s5 _ _ e4) e5 (by rw [aX,cH,List.length_drop,aA];show min i cs.length+1+(cs.length-(i+1))<=1000;omega) λc6 H6 s6 e6=>?_;refine k' _ H6 ((((s2.trans s3).trans s4).trans s5).trans s6) ⟨hi',NV ?_⟩;rw [e6];unfold bump;rw [bO,bO,List.map_take,List.map_drop]
   rfl
  ·refine k D ys H4 (s1.free hD) hD4 ?_ (s1.trans s4);unfold nexts;rw [if_neg eg];refine bD.ofIdx (by rw [hy4,aA,aA,bH];omega) λi y hi=>?_;obtain ⟨h1,h2⟩:=hr4 i y hi;exact ⟨iC (bump cs i),by rw [aH,aH,bP h1];rfl,h2⟩
end
theorem gZ{α:Type}[DecidableEq α]:∀{l m:List α},l.Nodup->(∀x∈l,x∈m)->l.length<=m.length
 | [],m,_,_=>cM _
 | x::l,m,h,hs=>by
  rw [List.nodup_cons] at h;have hx:=hs x (aL ..);have h1:=gZ (l:=l) (m:=m.erase x) h.2 λy hy=>(List.mem_erase_of_ne (λe=>by subst e;exact h.1 hy)).mpr (hs y (aM _ hy));rw [List.length_erase_of_mem hx] at h1;have:0<m.length:=List.length_pos_of_mem hx;rw [cS];omega
def FA:Nat->Nat->List (List Int)
 | 0,m=>if m=0 then [[]] else []
 | F+1,m=>(List.range (m+1)).flatMap λk=>(FA F (m-k)).map λc=>((k:Nat):Int)::c
theorem EO:∀{c:List Int},(∀x∈c,0<=x)->0<=c.sum
 | [],_=>by simp
 | x::c,h=>by
  have h1:=EO (c:=c) λy hy=>h y (aM _ hy);have h2:=h x (aL ..);rw [List.sum_cons];omega
theorem DH:∀{F m:Nat}{c:List Int},c.length=F->(∀x∈c,0<=x)->c.sum=(m:Int)->c∈FA F m
 | 0,m,c,hl,_,hs=>by
  cases c with
  | nil =>
   rw [List.sum_nil] at hs;unfold FA;rw [if_pos Oo];exact aL ..
  | cons _ _=>simp at hl
 | F+1,m,c,hl,hn,hs=>by
  cases c with
  | nil=>simp at hl
  | cons x c =>
   have h2:=hn x (aL ..);have hn':∀y∈c,0<=y:=λy hy=>hn y (aM _ hy);have h1:=EO hn';rw [List.sum_cons] at hs;unfold FA;refine List.mem_flatMap.mpr ⟨x.toNat,dC.mpr Oo,aD.mpr ⟨c,DH (by simpa using hl) hn' Oo,?_⟩⟩;rw [show ((x.toNat:Nat):Int)=x by omega]
structure KA(F:Nat)(j:Nat)(c:List Int):Prop where
 len:c.length=F
 nn:∀x∈c,0<=x
 sum:c.sum=(j:Int)
structure rL(F:Nat)(j:Nat)(cs:List (List Int)):Prop where
 nd:cs.Nodup
 each:∀c∈cs,KA F j c
theorem SJ:(∀m≤4,(FA 2 m).length<64)/\(∀m≤3,(FA 3 m).length<64)/\(∀m≤2,(FA 4 m).length<64):=Dd
theorem rL.few{F W M j:Nat}{cs:List (List Int)}(h:rL F j cs)(z:wT F W M)(hj:j<=M):cs.length<64:=by
 have h1:=gZ h.nd λc hc=>DH (h.each c hc).len (h.each c hc).nn (h.each c hc).sum;obtain ⟨l2,l3,l4⟩:=SJ;rcases z.f with ⟨rfl,hM⟩ | ⟨rfl,hM⟩ | ⟨rfl,hM⟩
 ·exact aQ h1 (l2 j Oo)
 ·exact aQ h1 (l3 j Oo)
 ·exact aQ h1 (l4 j Oo)
theorem oO{cs:List Int}{i:Nat}(h:i<cs.length):bump cs i=cs.set i (cs.getD i 0+1):=by
 unfold bump;rw [List.set_eq_take_append_cons_drop,if_pos h,List.append_assoc];rfl
theorem TU{F j:Nat}{c:List Int}(h:KA F j c){i:Nat}(hi:i<c.length):KA F (j+1) (bump c i):=by
 have hg:c.getD i 0∈c:=by
  rw [aT,aC hi];exact List.getElem_mem hi
 refine ⟨by rw [oO hi,List.length_set];exact h.len,λx hx=>?_,?_⟩
 ·rw [oO hi] at hx;rcases List.mem_or_eq_of_mem_set hx with hx | rfl
  ·exact h.nn x hx
  ·have:=h.nn _ hg;omega
 ·have e:c=c.take i++[c.getD i 0]++c.drop (i+1):=by
   have e1:c.getD i 0=c[i]:=by rw [aT,aC hi];rfl
   rw [e1,List.append_assoc,List.singleton_append,<-List.drop_eq_getElem_cons hi,List.take_append_drop]
  have hs:=h.sum;have e2:c.sum=(c.take i).sum+c.getD i 0+(c.drop (i+1)).sum:=by
   conv=>lhs;rw [e]
   rw [List.sum_append,List.sum_append,List.sum_singleton]
  unfold bump;rw [List.sum_append,List.sum_append,List.sum_singleton];omega
theorem OI{c:List Int}{i k:Nat}(hi:i<c.length)(hk:k<c.length)(e:bump c i=bump c k):i=k:=by
 by_cases h:i=k
 ·exact h
 ·rw [oO hi,oO hk] at e;have e1:=congrArg (λl=>l[i]?) e;rw [List.getElem?_set_self (by simpa using hi),List.getElem?_set_ne (Ne.symm h),aC hi,aT,aC hi] at e1;injection e1 with e1;exact absurd e1 (by show ¬(c[i]+1=c[i]);omega)
theorem iT{α β:Type}{f:α->β}:∀{l:List α},l.Nodup->(∀x∈l,∀y∈l,f x=f y->x=y)->(l.map f).Nodup
 | [],_,_=>List.nodup_nil
 | x::l,h,k=>by
  rw [List.nodup_cons] at h;rw [aP,List.nodup_cons];refine ⟨λhm=>?_,iT h.2 λa ha b hb=>k a (aM _ ha) b (aM _ hb)⟩;obtain ⟨y,hy,e⟩:=aD.mp hm;have:=k y (aM _ hy) x (aL ..) e;subst this;exact h.1 hy
theorem MU{F j:Nat}{c:List Int}(h:KA F j c)(f:Fr):rL F (j+1) (nexts c f):=by
 unfold nexts;split
 ·exact ⟨List.nodup_nil,λc hc=>by cases hc⟩
 ·refine ⟨iT List.nodup_range λx hx y hy e=>OI (by simpa using hx) (by simpa using hy) e,λd hd=>?_⟩;obtain ⟨i,hi,rfl⟩:=aD.mp hd;exact TU h (by simpa using hi)
theorem rL.more{F j:Nat}{ls ms:List (List Int)}(h1:rL F j ls)(h2:rL F j ms):rL F j (ls++ms.filter λc=>!decide (c∈ls)):=by
 refine ⟨List.nodup_append.mpr ⟨h1.nd,h2.nd.filter _,λa ha b hb e=>?_⟩,λc hc=>?_⟩
 ·subst e;have:=(dY.mp hb).2;simp [ha] at this
 ·rcases cT.mp hc with hc | hc
  ·exact h1.each c hc
  ·exact h2.each c (dY.mp hc).1
theorem rL.perm{F j:Nat}{ls ms:List (List Int)}(h:rL F j ls)(p:ms.Perm ls):rL F j ms:=⟨p.nodup_iff.mpr h.nd,λc hc=>h.each c (p.mem_iff.mp hc)⟩
theorem GE{α:Type}(d:α){cs:List α}{ix:List Nat}(h:ix.Perm (List.range cs.length)):(ix.map λi=>cs.getD i d).Perm cs:=by
 have h1:=h.map λi=>cs.getD i d;have e:(List.range cs.length).map (λi=>cs.getD i d)=cs:=by
  apply List.ext_getElem?;intro i;rw [aH];by_cases hi:i<cs.length
  ·rw [bP hi,aC hi,Option.map_some,aT,aC hi];rfl
  ·rw [dI (by simpa using hi),dI Oo];rfl
 rwa [e] at h1
abbrev uC:=List Int × List Fr
abbrev JE(e:uC):PyData:=.tuple [iC e.1,pX e.2]
abbrev KC(es:List uC):PyData:=.tuple (es.map JE)
theorem CP(e:uC):fC (JE e)=true:=by
 show (fC (iC e.1)&&(fC (pX e.2)&&true))=true;rw [iV,uZ];rfl
def hd(fs:List Fr):Fr:=fs.headD (0,1)
structure Clo(F:Nat)(es:List uC)(cs:List (List Int)):Prop where
 fwd:∀e∈es,∀c∈nexts e.1 (hd e.2),c∈es.map (·.1)\/c∈cs
 bwd:∀c,c∈es.map (·.1)\/c∈cs->c=List.replicate F 0\/∃e∈es,c∈nexts e.1 (hd e.2)
 zero:List.replicate F 0∈es.map (·.1)\/List.replicate F 0∈cs
def sV(ls:List (List Int))(ne:List uC):Prop:=∀c,c∈ls ↔ ∃e∈ne,c∈nexts e.1 (hd e.2)
theorem sV.more{ls:List (List Int)}{ne:List uC}{e:uC}(h:sV ls ne):sV (ls++(nexts e.1 (hd e.2)).filter λc=>!decide (c∈ls)) (ne++[e]):=λc=>by
 rw [cT,dY];constructor
 ·rintro (hl | ⟨hc,_⟩)
  ·obtain ⟨a,ha,hc⟩:=(h c).mp hl;exact ⟨a,cJ _ ha,hc⟩
  ·exact ⟨e,bL _ (bM.mpr rfl),hc⟩
 ·rintro ⟨a,ha,hc⟩;rcases cT.mp ha with ha | ha
  ·exact .inl ((h c).mpr ⟨a,ha,hc⟩)
  ·rw [bM] at ha;subst ha;by_cases hl:c∈ls
   ·exact .inl hl
   ·exact .inr ⟨hc,by simp [hl]⟩
theorem Clo.step{F:Nat}{es ne:List uC}{cs cs2 ls:List (List Int)}(h:Clo F es cs)(hp:cs2.Perm cs)(hm:ne.map (·.1)=cs2)(hl:sV ls ne):Clo F (es++ne) ls:=by
 have hk:∀c,c∈(es++ne).map (·.1)↔c∈es.map (·.1)\/c∈cs:=λc=>by rw [bO,cT,hm,hp.mem_iff]
 refine ⟨λe he c hc=>?_,λc hc=>?_,.inl ((hk _).mpr h.zero)⟩
 ·rcases cT.mp he with he | he
  ·exact .inl ((hk c).mpr (h.fwd e he c hc))
  ·exact .inr ((hl c).mpr ⟨e,he,hc⟩)
 ·rcases hc with hc | hc
  ·rcases h.bwd c ((hk c).mp hc) with h0 | ⟨e,he,h1⟩
   ·exact .inl h0
   ·exact .inr ⟨e,cJ _ he,h1⟩
  ·obtain ⟨e,he,h1⟩:=(hl c).mp hc;exact .inr ⟨e,bL _ he,h1⟩
def rk(a b:List Int):Prop:=a.sum<b.sum\/a.sum=b.sum/\kN a b=true
structure tL(F W M:Nat)(es:List uC):Prop where
 ne:es≠[]
 nd:(es.map (·.1)).Nodup
 each:∀e∈es,e.1.length=F/\(∀x∈e.1,0<=x)/\e.1.sum<=(M:Int)/\kP (1+W) e.2
 asc:(es.map λe=>e.1.sum).Pairwise (· <= ·)
 len:es.length<=320
 clo:Clo F es []
 rise:(es.map (·.1)).Pairwise rk
structure OS(F W M j:Nat)(es:List uC):Prop where
 nd:(es.map (·.1)).Nodup
 each:∀e∈es,e.1.length=F/\(∀x∈e.1,0<=x)/\e.1.sum<(j:Int)/\e.1.sum<=(M:Int)/\kP (1+W) e.2
 asc:(es.map λe=>e.1.sum).Pairwise (· <= ·)
 len:es.length<=64*j
 rise:(es.map (·.1)).Pairwise rk
structure DK(F W M j:Nat)(es0 es:List uC)(cs:List (List Int)):Prop where
 ex:∃ne:List uC,es=es0++ne/\ne.map (·.1)=cs/\∀e∈ne,kP (1+W) e.2
theorem DK.done{F W M j:Nat}{es0 es:List uC}{cs:List (List Int)}(h0:OS F W M j es0)(h:DK F W M j es0 es cs)(l:rL F j cs)(hj:j<=M)(hl:cs.length<=64)(hx:cs.Pairwise λa b=>kN a b=true):OS F W M (j+1) es:=by
 obtain ⟨ne,rfl,hm,hs⟩:=h.ex;have hin:∀e∈ne,KA F j e.1:=λe he=>l.each e.1 (hm ▸ List.mem_map_of_mem he);refine ⟨?_,λe he=>?_,?_,?_,?_⟩
 ·rw [bO];refine List.nodup_append.mpr ⟨h0.nd,hm ▸ l.nd,λa ha b hb e=>?_⟩;subst e;obtain ⟨e1,m1,rfl⟩:=aD.mp ha;have:=(h0.each e1 m1).2.2.1;rw [hm] at hb;have:=(l.each _ hb).sum;omega
 ·rcases cT.mp he with he | he
  ·obtain ⟨a1,a2,a3,a4,a5⟩:=h0.each e he;exact ⟨a1,a2,Oo,a4,a5⟩
  ·have c:=hin e he;have:=c.sum;exact ⟨c.len,c.nn,Oo,Oo,hs e he⟩
 ·rw [bO];refine List.pairwise_append.mpr ⟨h0.asc,?_,λa ha b hb=>?_⟩
  ·have:∀x∈ne.map (λe=>e.1.sum),x=(j:Int):=λx hx=>by
    obtain ⟨e,he,rfl⟩:=aD.mp hx;exact (hin e he).sum
   exact List.pairwise_of_forall_mem_list λa ha b hb=>by rw [this a ha,this b hb];exact Int.le_refl _
  ·obtain ⟨e1,m1,rfl⟩:=aD.mp ha;obtain ⟨e2,m2,rfl⟩:=aD.mp hb;have:=(h0.each e1 m1).2.2.1;have:=(hin e2 m2).sum;omega
 ·have hne:ne.length=cs.length:=by rw [<-hm,aA]
  have:=h0.len;rw [aX];omega
 ·rw [bO,hm];refine List.pairwise_append.mpr ⟨h0.rise,hx.imp_of_mem λha hb h=>.inr ⟨((l.each _ ha).sum).trans ((l.each _ hb).sum).symm,h⟩,λa ha b hb=>?_⟩;obtain ⟨e1,m1,rfl⟩:=aD.mp ha;have:=(h0.each e1 m1).2.2.1;have:=(l.each b hb).sum;exact .inl Oo
theorem OS.rule{F W M j:Nat}{es:List uC}(h:OS F W M j es)(hj:j<=5)(hne:es≠[])(cl:Clo F es []):tL F W M es :=
 ⟨hne,h.nd,λe he=>⟨(h.each e he).1,(h.each e he).2.1,(h.each e he).2.2.2.1,(h.each e he).2.2.2.2⟩,h.asc,by have:=h.len;omega,cl,h.rise⟩
@[irreducible] def oV:Sp:=λvs H Q _=>∃(p:Addr) (n F W M:Nat) (pl:Bool),vs=[.ref p,.int (F:Int),.int (W:Int),.int (M:Int),.bl pl]/\bW H p (n+8192)/\wT F W M/\∀v es H',bW H' p n->aR p H H'->cA H' (KC es) v->tL F W M es->Q v H'
theorem rX{H:Hp}{Q:VK}{E:XK}{p:Addr}{n F W M:Nat}{pl:Bool}(T:bW H p (n+8192))(z:wT F W M)(k:∀v es H',bW H' p n->aR p H H'->cA H' (KC es) v->tL F W M es->Q v H'):oV [.ref p,.int (F:Int),.int (W:Int),.int (M:Int),.bl pl] H Q E:=by
 unfold oV;exact ⟨p,n,F,W,M,pl,rfl,T,z,k⟩
theorem JJ(cs:List (List Int)):SeqAt.shaped (.list (cs.map iC))=true:=by
 have hl:∀cs:List (List Int),PyData.canLayAll0 (cs.map iC)=true:=λcs=>by
  induction cs with
  | nil=>rfl
  | cons c cs ih =>
   show (PyData.canLay0 (iC c)&&PyData.canLayAll0 (cs.map iC))=true;rw [ih,show PyData.canLay0 (iC c)=PyData.canLayAll0 (c.map .int) from rfl,GJ];rfl
 have hd:∀cs:List (List Int),PyData.depthAll (cs.map iC)<=2:=λcs=>by
  induction cs with
  | nil=>show 0<=2;omega
  | cons c cs ih =>
   show max (PyData.depth (iC c)) (PyData.depthAll (cs.map iC))<=2;have:=NR c;have:PyData.depth (iC c)<=2:=by simp only [PyData.depth];omega
   omega
 unfold SeqAt.shaped;rw [show PyData.canLay0 (.list (cs.map iC))=PyData.canLayAll0 (cs.map iC) from rfl,hl,Bool.true_and,decide_eq_true_eq];have:=hd cs;simp only [PyData.depth];omega
theorem SU(cs:List (List Int)):PyData.eqv (.list (cs.map iC)) (.list [])=decide (cs=[]):=by
 cases cs with
 | nil=>rfl
 | cons c cs=>show PyData.eqvAll (iC c::cs.map iC) []=_;simp [PyData.eqvAll]
theorem gT:∀cs:List (List Int),eQ (cs.map iC)=true
 | []=>rfl
 | c::cs=>by show (fC (iC c)&&eQ (cs.map iC))=true;rw [iV,gT cs];rfl
theorem rB:∀es:List uC,eQ (es.map JE)=true
 | []=>rfl
 | e::es=>by show (fC (JE e)&&eQ (es.map JE))=true;rw [CP,rB es];rfl
theorem FV{H:Hp}{cs:List (List Int)}{ws:List V}(r:bD H (cs.map iC) ws):∀ix:List Nat,(∀i∈ix,i<cs.length)->bD H ((ix.map λi=>cs.getD i []).map iC) (ix.map λi=>ws.getD i .non)
 | [],_=>bD.nil
 | i::ix,h=>by
  have hi:=h i (aL ..);obtain ⟨x,hx,rx⟩:=bD.atX r (i:=i) (a:=cs[i]) (by simp [hi]);have e1:cs.getD i []=cs[i]:=by simp [hi]
  have e2:ws.getD i .non=x:=by rw [aT,hx];rfl
  refine bD.cons ?_ (FV r ix λj hj=>h j (aM _ hj));show cA H (iC (cs.getD i [])) (ws.getD i .non);rw [e1,e2];exact rx
theorem DK.snoc{F W M j:Nat}{es0 es:List uC}{cs:List (List Int)}{c:List Int}{fs:List Fr}(h:DK F W M j es0 es cs)(ok:kP (1+W) fs):DK F W M j es0 (es++[(c,fs)]) (cs++[c]):=by
 obtain ⟨ne,rfl,hm,hs⟩:=h.ex;refine ⟨ne++[(c,fs)],by rw [List.append_assoc],by rw [bO,hm];rfl,λe he=>?_⟩;rcases cT.mp he with he | he
 ·exact hs e he
 ·rw [bM] at he;subst he;exact ok
theorem DK.len{F W M j:Nat}{es0 es:List uC}{cs:List (List Int)}(h:DK F W M j es0 es cs):es.length=es0.length+cs.length:=by
 obtain ⟨ne,rfl,hm,hs⟩:=h.ex;rw [aX,<-hm,aA]
section
theorem oQ8(F:iQ K "_law_rule" "_law_rule" sQ8 f fd)(T:jS K mg c)
  (FQ9:eZ dG P w K mg base 3 "_law_says" ["_law_tape_here","_law_ways","_law_stops","_law_plain"] qI) (FQ4:eZ dG P w K mg base 1 "_law_next" ["_law_counts","_law_says_here"] qN):eA P w K mg base dG 4 f fd ["_law_tape_here","_law_faces","_law_ways","_law_most","_law_plain"] oV:=by
 refine F.oky ZK λvs H Q E h=>?_;unfold oV at h;obtain ⟨p,n,F,W,M,pl,rfl,TP,Z,k⟩:=h;refine ⟨rfl,λcdv A outer s hr=>?_⟩;refine ⟨_,(aK (bQ (i:=5) ZK.nd rfl (Or.inl rfl) (eB aE))
  (aK (bQ (i:=6) ZK.nd rfl (Or.inl rfl) (eB (aF (cE SB (cY (aF aI aE)) (aG 1)) aE)))
  (aK (pY PassesOwn.never (eS (zZ hr.units) (aG 6) (eB aE) (nomark _)) (aK (bQ (i:=7) ZK.nd rfl (Or.inr rfl) (eB aE))
  (aK (gK PassesOwn.never rfl (fT (gL (ZH K) (by rfl) T.b_sorted Kk (aF (aG 6) aE))) (dD (i:=8) ZK.nd rfl (Or.inl rfl)) (aK (bQ (i:=9) ZK.nd rfl (Or.inl rfl) (bK FQ9 (hr.mono Dd) (aF (aG 0) (aF (aG 2) (aF (pP pK (gL (uB K rfl) (by rfl) T.b_sum Kk (aF (aG 8) aE)) (aG 3) (nomark _)) (aF (aG 4) aE))))))
  (aK (kU (qA PySem.F.plainAttrs_list PySem.F.slot_list_append PySem.F.type_list_append vI (aG 5) (aF (cY (aF (aG 8) (aF (aG 9) aE))) aE)))
  (bF (kU (qA PySem.F.plainAttrs_list PySem.F.slot_list_extend PySem.F.type_list_extend MW (aG 7) (aF (fU (eC.of (psc:=bB sQ8) (N:=["_law_tape_here","_law_faces","_law_ways","_law_most","_law_plain","_law_found","_law_level","_law_later","_law_counts","_law_says_here"]) (N':=["_law_one","_law_later"]) (js:=[7]) Kk rfl rfl rfl) (fT (bK FQ4 (hr.mono Dd) (aF (aG 8) (aF (aG 9) aE)))) (λ_ _ _ _=>yP (eS (IT K hr.units) (aG 0) (aG 1) (by with_unfolding_all rfl))) (λ_ _ _ _=>(aG 0))) aE)))))))
  (bF (bQ (i:=6) ZK.nd rfl (Or.inl rfl) (aG 7))))))
  (bF (bZ (hU dA (by rfl) T.b_tuple Kk (aF (aG 5) aE))))))),?_⟩
 refine qU (by show 0<=64;decide) λfo H1 hfo e1 s1=>?_;refine mC (by show 1<=64;decide) λq2 H2 hq2 e2 s2=>?_;refine ⟨_,rfl,?_⟩;have hF:2<=F/\F<=4:=by have:=Z.f;omega
 refine aCy e2 hF.1 Oo λq3 H3 s3 e3=>?_;refine qU (by show 1<=64;decide) λle H4 hle e4 s4=>?_;have nlf:fo≠p:=TP.ne hfo;have F4:=(((TP.same s1).same s2).same s3).same s4;have S4:aR p H H4:=((((s1.trans s2).trans s3).trans s4)).but;have rz:cA H4 (iC (List.replicate F 0)) (.ref q3):=NV (by rw [s4 _ _ e3,List.map_replicate]);have ok0:KA F 0 (List.replicate F 0):=⟨bU,λx hx=>by have:=List.eq_of_mem_replicate hx;omega,by
  have:∀k:Nat,(List.replicate k (0:Int)).sum=0:=λk=>by
   induction k with
   | zero=>rfl
   | succ k ih=>rw [List.replicate_succ,List.sum_cons,ih];rfl
  rw [this];rfl⟩
 have e1':=s4 _ _ (s3 _ _ (s2 _ _ e1));have hle0:H le=none:=((s1.trans s2).trans s3).free hle;have nlp:le≠p:=TP.ne hle0;have nfl:le≠fo:=λe=>by subst e;rw [s3 _ _ (s2 _ _ e1)] at hle;cases hle
 refine tO (λm σ H'=>∃(j:Nat) (le:Addr) (o7 o8 o9:Option V) (vs ws:List V) (es:List uC) (cs:List (List Int)),σ=[some (.ref p),some (.int (F:Int)),some (.int (W:Int)),some (.int (M:Int)),some (.bl pl),some (.ref fo),some (.ref le),o7,o8,o9] /\
   m=6-j/\j<=M+1/\(j<=M\/cs=[])/\(j=0->cs≠[])/\(0<j->es≠[])/\bW H' p (n+1024*(6-j))/\aR p H H'/\H' fo=some (.lst vs)/\bD H' (es.map JE) vs/\H' le=some (.lst ws)/\bD H' (cs.map iC) ws/\H le=none/\le≠fo/\rL F j cs/\OS F W M j es/\Clo F es cs)
  (λσ H'=>∃(le:Addr) (o7 o8 o9:Option V) (vs:List V) (es:List uC),σ=[some (.ref p),some (.int (F:Int)),some (.int (W:Int)),some (.int (M:Int)),some (.bl pl),some (.ref fo),some (.ref le),o7,o8,o9]/\bW H' p n/\aR p H H'/\H' fo=some (.lst vs)/\bD H' (es.map JE) vs/\tL F W M es)
  6 ⟨0,le,none,none,none,[],_,[],[List.replicate F 0],rfl,rfl,Oo,.inl Oo,λ_ h=>by (cases h),λh=>Oo,F4.less Oo,S4,e1',bD.nil,e4,bD.cons rz bD.nil,hle0,nfl,⟨by simp,λc hc=>by (rw [bM] at hc;subst hc;exact ok0)⟩,⟨List.nodup_nil,λe he=>by (cases he),List.Pairwise.nil,cM _,List.Pairwise.nil⟩,⟨λe he=>by (cases he),λc hc=>.inl (by simpa using hc),.inr (by simp)⟩⟩ ?_ ?_
 ·clear e1 e2 e3 e4 s1 s2 s3 s4 F4 S4 rz ok0 e1' hle0 nlp nfl hle hq2;rintro m σ H1 ⟨j,le,o7,o8,o9,vs,ws,es,cs,rfl,rfl,hj,hjc,hj0,hes,F1,S1,hfo1,rfo,hle1,rle,hle0,nfl,LV,RT,CL⟩;have nlp:le≠p:=TP.ne hle0;refine ⟨_,rfl,?_⟩;refine qU (by show 0<=64;decide) λq5 H5 hq5 e5 s5=>?_;refine reD (cA.lst (s5 _ _ hle1) (rle.same s5)) (cA.lst e5 bD.nil) (JJ cs) rfl ?_;rw [SU];refine ⟨_,rfl,?_⟩;have hM:M<=4:=by have:=Z.f;omega
  by_cases hc:cs=[]
  ·rw [cV hc];refine CK ⟨le,o7,o8,o9,vs,es,rfl,(F1.same s5).less Oo,S1.trans s5.but,s5 _ _ hfo1,rfo.same s5,RT.rule Oo (hes ?_) (hc ▸ CL)⟩;have:j≠0:=λe=>hj0 e hc;omega
  ·rw [cI hc];refine CJ ?_;have hjM:j<=M:=by
    rcases hjc with h | h
    ·exact h
    ·exact absurd h hc
   have few:=LV.few Z hjM;have lw':ws.length=cs.length:=by rw [rle.len,aA]
   refine qU (by show 0<=64;decide) λla H6 hla e6 s6=>?_;refine ⟨_,rfl,?_⟩;have s16:=s5.trans s6;refine rsrt (cs:=cs) (fM.of (s16 _ _ hle1)) (rle.same s16) (λc hc' h=>by have:=(LV.each c hc').len;rw [h] at this;simp at this;omega) Oo λso ix H7 hix hlx hso e7 s7=>?_;rw [lw'] at hix;have hixl:∀i∈ix,i<cs.length:=λi hi=>by have:=hix.mem_iff.mp hi;simpa using this
   have lix:ix.length=cs.length:=by rw [hix.length_eq,bH]
   have LV2:rL F j (ix.map λi=>cs.getD i []):=LV.perm (GE [] hix);have hpm:=GE [] hix;have hsx:=hlx LV.nd;have s17:=s16.trans s7;have rso:bD H7 ((ix.map λi=>cs.getD i []).map iC) (ix.map λi=>ws.getD i .non):=FV (rle.same s17) ix hixl;have lcs:(ix.map λi=>cs.getD i []).length=cs.length:=by rw [aA,lix]
   generalize hcs2:(ix.map λi=>cs.getD i [])=cs2 at *;generalize hys2:(ix.map λi=>ws.getD i V.non)=ys2 at *;have lys:ys2.length=cs2.length:=by rw [rso.len,aA]
   have hla0:H la=none:=aR.free S1 F1.there (s5.free hla);have hso0:H so=none:=aR.free S1 F1.there (s16.free hso);have nla:la≠p:=TP.ne hla0;have nso:so≠p:=TP.ne hso0;have nlf':la≠fo:=λe=>by subst e;rw [s5 _ _ hfo1] at hla;cases hla
   have nsf:so≠fo:=λe=>by subst e;rw [s16 _ _ hfo1] at hso;cases hso
   have nsl:so≠la:=λe=>by subst e;rw [e6] at hso;cases hso
   refine ⟨so,rfl,⟨_,fM.of e7⟩,?_⟩;refine mF (xs:=ys2) (λi σ H'=>∃(o8 o9:Option V) (vs2 us:List V) (es2:List uC) (ls:List (List Int)),σ=[some (.ref p),some (.int (F:Int)),some (.int (W:Int)),some (.int (M:Int)),some (.bl pl),some (.ref fo),some (.ref le),some (.ref la),o8,o9] /\
     bW H' p (n+1024*(6-j)-16*i)/\aR p H H'/\H' so=some (.lst ys2)/\H' fo=some (.lst vs2)/\bD H' (es2.map JE) vs2/\H' la=some (.lst us)/\bD H' (ls.map iC) us/\DK F W M j es es2 (cs2.take i)/\rL F (j+1) ls/\(j=M->ls=[])/\bD H' (cs2.map iC) ys2/\sV ls (es2.drop es.length))
    ⟨_,_,vs,[],es,[],rfl,(F1.same s17).less Oo,S1.trans s17.but,e7,s17 _ _ hfo1,rfo.same s17,s7 _ _ e6,bD.nil,⟨[],by rw [List.append_nil],rfl,λe he=>by cases he⟩,⟨List.nodup_nil,λc hc=>by cases hc⟩,λ_=>rfl,rso,λc=>⟨(λh=>by cases h),(λ⟨e,he,_⟩=>by rw [List.drop_length] at he;cases he)⟩⟩ (λi σ H' _ q=>?_) ?_ ?_
   ·obtain ⟨_,_,_,_,_,_,_,_,_,h,_⟩:=q;exact fM.of h
   ·rintro i x σ H' hx ⟨o8,o9,vs2,us,es2,ls,rfl,F',S',hso',hfo',rfo',hla',rla',RI,LS,hjm,rso',LF⟩;obtain ⟨c,hci,rx⟩:=rso'.atI hx;have hi:i<cs2.length:=(aN.mp hci).1;have okc:=LV2.each c (aZ hci);obtain ⟨ax,rfl,hax⟩:=EW rx;refine ⟨_,rfl,_,rfl,_,rfl,?_⟩;refine rsT (fF.of hax) ?_;refine ⟨_,rfl,rfl,_,rfl,?_⟩;refine IH (n:=n+1024*(6-j)-16*(i+1)) (F'.less Oo) Z.w.1 Z.w.2 λv fs H8 F8 s8 r8 ok8 st8=>?_;have t8:=F'.t s8;have hso8:=s8.at nso hso';have hfo8:=s8.at nlf hfo';have hla8:=s8.at nla hla';have rfo8:=rfo'.flat t8 (rB _);have rla8:=rla'.flat t8 (gT _);have rso8:=rso'.flat t8 (gT _);have rx8:=rx.flat t8 (iV _);have hlen:vs2.length<=500:=by
     rw [rfo8.len,aA,RI.len,cH];have:=RT.len;have:64*j<=64*5:=dQ _ Oo;omega
    refine ⟨_,rfl,PZ hfo8,_,rfl,_,rfl,?_⟩;refine mC (by show 2<=64;decide) λq9 H9 hq9 e9 s9=>?_;refine ON (s9 _ _ hfo8) Oo λH10 e10 s10=>?_;have t10:=s10.t (s9 _ _ hfo8);have t910:=s9.t.trans t10;have hso10:=s10.at nsf (s9 _ _ hso8);have hla10:=s10.at nlf' (s9 _ _ hla8);have rx10:=rx8.flat t910 (iV _);have r10:=r8.flat t910 (uZ _);have ren:cA H10 (JE (c,fs)) (.ref q9):=cA.tup (t10 _ _ e9) (bD.cons rx10 (bD.cons r10 bD.nil));have rfo10:bD H10 ((es2++[(c,fs)]).map JE) (vs2++[.ref q9]):=by
     rw [bO];exact bD.append (bD.cons ren bD.nil) (rfo8.flat t910 (rB _))
    have F10:=(F8.same s9).but s10 nlf;have S10:aR p H H10:=aR.thru hfo ((S'.trans s8).trans s9.but) s10;obtain ⟨f0,fr,rfl⟩:∃f0 fr,fs=f0::fr:=by
     cases fs with
     | nil=>exact absurd (ok8.len) (by rw [List.length_nil];omega)
     | cons f0 fr=>exact ⟨f0,fr,rfl⟩
    have lfr:fr.length<=4:=by have:=ok8.len;rw [cS] at this;have:=Z.w;omega
    refine ⟨_,rfl,PZ hla10,_,rfl,_,rfl,?_⟩;refine IJ rx10 r10 (by rw [okc.len];omega) lfr λD ys H11 hD hD11 rD s11=>?_;refine ⟨D,rfl,⟨_,fM.of hD11⟩,?_⟩;have NX:=MU okc f0;have lnx:(nexts c f0).length<=4:=by
     unfold nexts;split
     ·exact cM _
     ·rw [aA,bH,okc.len];omega
    have rla11:=(rla8.flat t910 (gT _)).same s11;have llen:ls.length<64:=by
     by_cases h:j=M
     ·rw [hjm h];decide
     ·exact LS.few Z Oo
    refine JM rD (λd=>!decide (d∈ls)) (by rw [rD.len,aA];omega) hD11 (λx' d H' Q' hd rx' s' k'=>?_) (λx' H' Q' q=>⟨_,rfl,q⟩) (λD2 ys2 H12 hD2 e12 s12 r12=>?_)
    ·refine ⟨_,rfl,_,rfl,?_⟩;refine riT (.inl (fM.of (s' _ _ (s11 _ _ hla10)))) (rla11.same s') rx'.k ?_;exact ⟨_,rfl,k' H' (bE.refl _)⟩
    ·have s1112:=s11.trans s12;refine aA4 (s1112 _ _ hla10) e12 (by rw [rla8.len,r12.len,aA,aA];have:=List.length_filter_le (λd=>!decide (d∈ls)) (nexts c f0);omega) λH13 e13 s13=>?_;have t13:=s13.t (s1112 _ _ hla10);have tt:=s1112.t.trans t13;refine ⟨_,_,vs2++[.ref q9],us++ys2,es2++[(c,f0::fr)],ls++(nexts c f0).filter (λd=>!decide (d∈ls)),rfl,(F10.same s1112).but s13 nla,aR.thru hla0 (S10.trans s1112.but) s13,s13.at nsl (s1112 _ _ hso10),s13.at (Ne.symm nlf') (s1112 _ _ e10),rfo10.flat tt (rB _),e13,?_,?_,LS.more NX,λh=>?_,(rso8.flat t910 (gT _)).flat tt (gT _),?_⟩
     ·rw [bO];exact bD.append (r12.flat t13 (gT _)) ((rla11.same s12).flat t13 (gT _))
     ·rw [List.take_succ,hci];exact RI.snoc ok8
     ·have hsum:=okc.sum;have:=st8 (cV (by rw [hsum,h]));cases (show f0=(0,1) by simpa using this);rw [hjm h]
      rfl
     ·have hle2:es.length<=es2.length:=by rw [RI.len];omega
      rw [List.drop_append_of_le_length hle2];exact sV.more (e:=(c,f0::fr)) LF
   ·rintro σ H8 ⟨o8,o9,vs2,us,es2,ls,rfl,F8,S8,hso8,hfo8,rfo8,hla8,rla8,RI,LS,hjm,_,LF⟩;rw [lys,cP] at RI;have RT2:=RI.done RT LV2 hjM Oo hsx;have CL2:Clo F es2 ls:=by
     obtain ⟨ne,e1,e2,_⟩:=RI.ex;subst e1;rw [List.drop_left] at LF;exact CL.step hpm e2 LF
    refine ⟨_,rfl,6-(j+1),Oo,j+1,la,_,_,_,vs2,us,es2,ls,rfl,rfl,Oo,?_,λh=>Oo,λ_ h=>?_,F8.less (by rw [lys];omega),S8,hfo8,rfo8,hla8,rla8,hla0,nlf',LS,RT2,CL2⟩
    ·by_cases h:j=M
     ·exact .inr (hjm h)
     ·exact .inl Oo
    ·have:=RI.len;rw [h] at this;have h0:cs.length≠0:=λe=>hc (List.length_eq_zero_iff.mp e);simp at this;omega
 ·rintro σ H1 ⟨le,o7,o8,o9,vs,es,rfl,F1,S1,hfo1,rfo,RO⟩;refine ⟨_,rfl,fo,vs,rfl,.inl ⟨fM.of hfo1,λl hl=>?_⟩⟩;have sl:=bE.upd (o:=.tup vs) hl;have el:(upd H1 l (.tup vs)) l=some (.tup vs):=bI;generalize upd H1 l (.tup vs)=H2 at sl el;exact k _ es H2 (F1.same sl) (S1.trans sl.but) (cA.tup el (rfo.same sl)) RO
end
structure TrT(F W:Nat)(fs:List Str)(ws:List (Str × List Fr)):Prop where
 f:fs.length=F
 w:ws.length=W
 sh:∀x∈ws,kP F x.2
@[irreducible] def lV:Sp:=λvs H Q _=>∃(p:Addr) (n F W:Nat),vs=[.ref p,.int (F:Int),.int (W:Int)]/\bW H p (n+64)/\2<=F/\F<=4/\2<=W/\W<=4/\∀v fs ws H',bW H' p n->aR p H H'->cA H' (sX fs ws) v->TrT F W fs ws->Q v H'
theorem BO{H:Hp}{Q:VK}{E:XK}{p:Addr}{n F W:Nat}(T:bW H p (n+64))(h1:2<=F)(h2:F<=4)(h3:2<=W)(h4:W<=4)(k:∀v fs ws H',bW H' p n->aR p H H'->cA H' (sX fs ws) v->TrT F W fs ws->Q v H'):lV [.ref p,.int (F:Int),.int (W:Int)] H Q E:=by
 unfold lV;exact ⟨p,n,F,W,rfl,T,h1,h2,h3,h4,k⟩
theorem uS(ss:List Str)(b:Nat):(ss.map V.str).eraseIdx b=(ss.eraseIdx b).map V.str:=by
 induction ss generalizing b with
 | nil=>simp
 | cons a ss ih=>cases b with
  | zero=>rfl
  | succ b=>simp [ih]
theorem xW{ss:List Str}{b:Nat}(h:b<ss.length):(ss.eraseIdx b).length+1=ss.length:=by
 rw [List.length_eraseIdx,if_pos h];omega
section
theorem aCs(F:iQ K "_law_trial" "_law_trial" QQ f fd)(T:jS K mg c)
  (FQ6:eZ dG P w K mg base 1 "_law_pick" ["_law_tape_here","_law_many"] jH) (FQ10:eZ dG P w K mg base 2 "_law_shares" ["_law_tape_here","_law_many"] iW):eA P w K mg base dG 3 f fd ["_law_tape_here","_law_faces","_law_ways"] lV:=by
 refine F.oky JU λvs H Q E h=>?_;unfold lV at h;obtain ⟨p,n,F,W,rfl,T0,f2,f4,w2,w4,k⟩:=h;refine ⟨rfl,λcdv A outer s hr=>?_⟩;refine ⟨_,(aK (bQ (i:=3) JU.nd rfl (Or.inr rfl) (eB (aF eT (aF eT (aF eT (aF eT (aF eT (aF eT (aF eT aE)))))))))
  (aK (bQ (i:=4) JU.nd rfl (Or.inl rfl) (hU dA (by rfl) T.b_tuple Kk (aF (fU (eC.of (psc:=bB QQ) (N:=["_law_tape_here","_law_faces","_law_ways","_law_names","_law_told","_law_found","_law_k"]) (N':=["_law_k","_law_tape_here","_law_names"]) (js:=[0,3]) Kk rfl rfl rfl) (eV rfl T.b_range (aF (aG 1) aE)) (λ_ _ _ _=>eJ) (λ_ _ _ _=>(VW K PySem.F.plainAttrs_list PySem.F.slot_list_pop PySem.F.type_list_pop UX (aG 2) (aF (bK FQ6 (hr.mono Dd) (aF (aG 1) (aF (gL (TH K) (by rfl) T.b_len Kk (aF (aG 2) aE)) aE))) aE)))) aE)))
  (aK (bQ (i:=3) JU.nd rfl (Or.inr rfl) (eB (aF eT (aF eT (aF eT (aF eT (aF eT (aF eT (aF eT aE)))))))))
  (aK (bQ (i:=5) JU.nd rfl (Or.inl rfl) (eB aE))
  (aK (gK PassesOwn.never rfl (eV rfl T.b_range (aF (aG 2) aE)) (dD (i:=6) JU.nd rfl (Or.inl rfl)) (bF (kU (qA PySem.F.plainAttrs_list PySem.F.slot_list_append PySem.F.type_list_append vI (aG 5) (aF (cY (aF (qA PySem.F.plainAttrs_list PySem.F.slot_list_pop PySem.F.type_list_pop UX (aG 3) (aF (bK FQ6 (hr.mono Dd) (aF (aG 0) (aF (gL lJ (by rfl) T.b_len Kk (aF (aG 3) aE)) aE))) aE)) (aF (bK FQ10 (hr.mono Dd) (aF (aG 0) (aF (aG 1) aE))) aE))) aE)))))
  (bF (bZ (cY (aF (aG 4) (aF (hU dA (by rfl) T.b_tuple Kk (aF (aG 5) aE)) aE)))))))))),?_⟩
 refine qU (by show 7<=64;decide) λL H1 hL e1 s1=>?_;have T1:=T0.same s1;have nLp:L≠p:=T0.ne hL;have e1':H1 L=some (.lst ((["a","ab","abc","b","ways","onx","zzzzzzzz"]:List Str).map V.str)):=e1;refine ⟨_,rfl,_,rfl,Oo,Oo,?_⟩;refine rE (J:=UC 0 F) (n:=F) (λi x=>True) Oo (λD i ys H'=>H1 D=none/\bW H' p (n+64-i)/\aR p H H'/\(∃ss:List Str,H' L=some (.lst (ss.map V.str))/\ss.length+i=7)/\∃ts:List Str,ys=ts.map V.str)
  (λD H2 hD e2 s2=>⟨hD,T1.same s2,(s1.trans s2).but,⟨_,s2 _ _ e1',rfl⟩,[],rfl⟩) (λD i ys H' hi _ _=>⟨hi,λx H3 y=>⟨y.1,True.intro⟩⟩) (λD ys H' _ _=>aJ _) (λD i x ys H' _ hi hy hD q=>?_) (λD ys H2 hy hD hD2 q=>?_)
 ·obtain ⟨hDn,T2,b2,⟨ss,e2,ls⟩,ts,rfl⟩:=q;refine ⟨_,rfl,PZ e2,_,rfl,_,rfl,?_⟩;have hsl:0<ss.length:=Oo;refine rlL e2 ?_;rw [aA];refine dZ (n:=n+64-(i+1)) (T2.less Oo) Oo (bitsle (aQ (show ((ss.length:Int)).natAbs<=7 by omega) Dd)) λx H3 x0 x1 T3 b3=>?_;obtain ⟨b,rfl⟩:∃b:Nat,x=(b:Int):=⟨x.toNat,Oo⟩;have e3:=b3.at nLp e2;have nDp:D≠p:=T1.ne hDn;have nDL:D≠L:=λz=>by rw [z,e1] at hDn;cases hDn
  refine aAK e3 (by rw [aA];omega) (by rw [aA];omega) λH4 e4 b4=>?_;have hget:(ss.map V.str)[b]'(by rw [aA];omega)=V.str (ss[b]'Oo):=by rw [List.getElem_map]
  rw [hget];refine ⟨b4.at nDL (b3.at nDp hD),λH6 e6 b6=>⟨hDn,(T3.but b4 nLp).but b6 nDp,?_,⟨ss.eraseIdx b,?_,?_⟩,ts++[ss[b]'Oo],?_⟩⟩
  ·exact aR.thru (s1.free hDn) (aR.thru hL (b2.trans b3) b4) b6
  ·rw [b6.at (Ne.symm nDL) e4,uS]
  ·have:=xW (ss:=ss) (b:=b) Oo;omega
  ·rw [bO];rfl
 ·obtain ⟨hDn,T2,b2,⟨ss,e2,ls⟩,ts,rfl⟩:=q;have nDp:D≠p:=T1.ne hDn;rw [aA] at hy;refine ⟨D,_,rfl,.inl ⟨fM.of hD2,λl hl=>?_⟩⟩;have s3:=bE.upd (o:=.tup (ts.map V.str)) hl;have e3:(upd H2 l (.tup (ts.map V.str))) l=some (.tup (ts.map V.str)):=bI;generalize upd H2 l (.tup (ts.map V.str))=H3 at s3 e3;have b3:aR p H H3:=b2.trans s3.but;have T3:=(T2.same s3).less (show n+60<=n+64-F by omega);clear T1 T2 b2 hDn e2 ls hD2 s1 e1 e1' hL nLp nDp;refine qU (by show 7<=64;decide) λL4 H4 hL4 e4 s4=>?_;have e4':H4 L4=some (.lst ((["a","ab","ba","saya","x","zzzzzzz","abc"]:List Str).map V.str)):=e4;refine qU (by show 0<=64;decide) λM5 H5 hM5 e5 s5=>?_;have T5:=(T3.same s4).same s5;have nL:L4≠p:=T3.ne hL4;have nM:M5≠p:=(T3.same s4).ne hM5;have nLM:L4≠M5:=λz=>by rw [<-z,e4] at hM5;cases hM5
  have hL0:H L4=none:=aR.free b3 T3.there hL4;have hM0:H M5=none:=aR.free b3 T3.there (s4.free hM5);refine ⟨_,rfl,_,rfl,Oo,Oo,?_⟩;rw [show ((W:Int)).toNat=W by omega];refine oZ (λi σ H'=>∃(o6:Option V) (ss:List Str) (vs:List V) (ws:List (Str × List Fr)),σ=[some (.ref p),some (.int (F:Int)),some (.int (W:Int)),some (.ref L4),some (.ref l),some (.ref M5),o6]/\bW H' p (n+60-10*i)/\aR p H H'/\H' L4=some (.lst (ss.map V.str))/\ss.length+i=7/\H' M5=some (.lst vs)/\bD H' (ws.map wD) vs/\ws.length=i/\(∀x∈ws,kP F x.2)/\H' l=some (.tup (ts.map V.str)))
   ⟨_,_,[],[],rfl,T5,b3.trans (s4.trans s5).but,s5 _ _ e4',rfl,e5,bD.nil,rfl,(λx h=>by cases h),s5 _ _ (s4 _ _ e3)⟩ ?_ ?_
  ·rintro i σ H6 hi ⟨o6,ss,vs,ws,rfl,T6,b6,e6,ls,em6,r6,lw6,hsy,el6⟩;have hsl:0<ss.length:=Oo;refine ⟨_,rfl,PZ em6,_,rfl,PZ e6,_,rfl,_,rfl,?_⟩;refine rlL e6 ?_;rw [aA];refine dZ (n:=n+60-10*i-1) (T6.less Oo) Oo (bitsle (aQ (show ((ss.length:Int)).natAbs<=7 by omega) Dd)) λx H7 x0 x1 T7 b7=>?_;obtain ⟨b,rfl⟩:∃b:Nat,x=(b:Int):=⟨x.toNat,Oo⟩;refine aAK (b7.at nL e6) (by rw [aA];omega) (by rw [aA];omega) λH8 e8 b8=>?_;have hget:(ss.map V.str)[b]'(by rw [aA];omega)=V.str (ss[b]'Oo):=by rw [List.getElem_map]
   rw [hget];have T8:=T7.but b8 nL;refine ⟨_,rfl,_,rfl,?_⟩;refine nT (n:=n+60-10*(i+1)) (T8.less Oo) Oo Oo λsv fs H9 T9 b9 r9 sy9=>?_;refine mC (by show 2<=64;decide) λq10 H10 hq10 e10 s10=>?_;have em8:H8 M5=some (.lst vs):=b8.at (Ne.symm nLM) (b7.at nM em6);have em10:H10 M5=some (.lst vs):=s10 _ _ (b9.at nM em8);have lvs:vs.length=i:=by rw [r6.len,aA,lw6]
   refine ON em10 Oo λH11 e11 b11=>?_;have t67:=T6.t b7;have t78:=b8.t (b7.at nL e6);have t89:=T8.t b9;have t11:=b11.t em10;have tA:=(((t67.trans t78).trans t89).trans s10.t).trans t11;refine ⟨_,ss.eraseIdx b,vs++[.ref q10],ws++[(ss[b]'Oo,fs)],rfl,(T9.same s10).but b11 nM,?_,?_,?_,e11,?_,?_,?_,tA _ _ el6⟩
   ·exact aR.thru hM0 (((aR.thru hL0 (b6.trans b7) b8).trans b9).trans s10.but) b11
   ·rw [b11.at nLM (s10 _ _ (b9.at nL e8)),uS]
   ·have:=xW (ss:=ss) (b:=b) Oo;omega
   ·rw [bO];refine bD.snoc (r6.flat tA (yR ws)) ?_;refine cA.flat t11 (FO _) (cA.tup e10 (bD.cons (cA.str _) (bD.cons (r9.same s10) bD.nil)))
   ·rw [aX,lw6];rfl
   ·intro x hx;rcases cT.mp hx with hx | hx
    ·exact hsy x hx
    ·rw [bM.mp hx];exact sy9
  ·rintro σ H6 ⟨o6,ss,vs,ws,rfl,T6,b6,e6,ls,em6,r6,lw6,hsy,el6⟩;refine ⟨_,rfl,_,rfl,M5,vs,rfl,.inl ⟨fM.of em6,λl7 hl7=>?_⟩⟩;have s7:=bE.upd (o:=.tup vs) hl7;have e7:(upd H6 l7 (.tup vs)) l7=some (.tup vs):=bI;generalize upd H6 l7 (.tup vs)=H7 at s7 e7;refine mC (by show 2<=64;decide) λq8 H8 hq8 e8 s8=>?_;refine k _ ts ws H8 (((T6.same s7).same s8).less Oo) (b6.trans (s7.trans s8).but) ?_ ⟨Oo,lw6,hsy⟩;refine cA.tup e8 (bD.cons (cA.tup (s8 _ _ (s7 _ _ el6)) (yL ts)) (bD.cons (cA.tup (s8 _ _ e7) ((r6.same s7).same s8)) bD.nil))
end
end Kt
namespace Kw
open PySem L2 Mf
abbrev WV:Stmt:=(top 4)
theorem JS:bT ["number","above_nought","divided","divisor","rest"] ["number","above_nought"] (bB WV):=⟨rfl,rfl,rfl,Kk,rfl,Kk,Kk⟩
abbrev WM:Stmt:=(top 6)
theorem JR:bT ["one","other","common","one_part","other_part","upper","left"] ["one","other"] (bB WM):=⟨rfl,rfl,rfl,Kk,rfl,Kk,Kk⟩
abbrev WS:Stmt:=(top 7)
theorem aCW:bT ["one","other"] ["one","other"] (bB WS):=⟨rfl,rfl,rfl,Kk,rfl,Kk,Kk⟩
abbrev WJ:Stmt:=(top 8)
theorem ZN:bT ["one","other","first","second"] ["one","other"] (bB WJ):=⟨rfl,rfl,rfl,Kk,rfl,Kk,Kk⟩
abbrev WI:Stmt:=(top 10)
theorem TK:bT ["some","whole","one"] ["some"] (bB WI):=⟨rfl,rfl,rfl,Kk,rfl,Kk,Kk⟩
abbrev WG:Stmt:=(top 14)
theorem aCK:bT ["trial"] ["trial"] (bB WG):=⟨rfl,rfl,rfl,Kk,rfl,Kk,Kk⟩
abbrev WH:Stmt:=(top 15)
theorem aCL:bT ["trial","way"] ["trial","way"] (bB WH):=⟨rfl,rfl,rfl,Kk,rfl,Kk,Kk⟩
abbrev WF:Stmt:=(top 17)
theorem OE:bT ["trial","way","counts","product","share","count"] ["trial","way","counts"] (bB WF):=⟨rfl,rfl,rfl,Kk,rfl,Kk,Kk⟩
abbrev WL:Stmt:=(top 18)
theorem JQ:bT ["share","count","upper","lower","step"] ["share","count"] (bB WL):=⟨rfl,rfl,rfl,Kk,rfl,Kk,Kk⟩
abbrev WO:Stmt:=(top 20)
theorem aCS:bT ["counts","face"] ["counts","face"] (bB WO):=⟨rfl,rfl,rfl,Kk,rfl,Kk,Kk⟩
abbrev QK:Stmt:=(top 21)
theorem aCR:bT ["counts"] ["counts"] (bB QK):=⟨rfl,rfl,rfl,Kk,rfl,Kk,Kk⟩
theorem nC.of{H H1:Hp}{Q:VK}{f:Fr}(s:bE H H1)(q:nC H Q f):nC H1 Q f:=λp H' hp e s'=>q p H' (s.free hp) e (s.trans s')
@[irreducible] def fP(K:PySem.W.Frag):Sp:=λvs H Q _=>∃x y f g,vs=[x,y]/\fS K H f x/\fS K H g y/\dL f/\dL g/\jQ 4000 f/\jQ 4000 g/\nC H Q (jB f g)
theorem fJ{K:PySem.W.Frag}{H:Hp}{Q:VK}{E:XK}{x y:V}{f g:Fr}(h1:fS K H f x)(h2:fS K H g y)(l1:dL f)(l2:dL g)(z1:jQ 4000 f)(z2:jQ 4000 g)(q:nC H Q (jB f g)):fP K [x,y] H Q E:=by unfold fP;exact ⟨x,y,f,g,rfl,h1,h2,l1,l2,z1,z2,q⟩
def AB(f:Fr):Fr:=(-f.1,f.2)
theorem vG{f:Fr}(h:dL f):dL (AB f):=⟨h.pos,by show Int.gcd (-f.1) f.2=1;rw [Int.neg_gcd];exact h.low⟩
@[irreducible] def kL(K:PySem.W.Frag):Sp:=λvs H Q _=>∃x y f g,vs=[x,y]/\fS K H f x/\fS K H g y/\dL f/\dL g/\jQ 4000 f/\jQ 4000 g/\nC H Q (nA f (AB g))
theorem pR{K:PySem.W.Frag}{H:Hp}{Q:VK}{E:XK}{x y:V}{f g:Fr}(h1:fS K H f x)(h2:fS K H g y)(l1:dL f)(l2:dL g)(z1:jQ 4000 f)(z2:jQ 4000 g)(q:nC H Q (nA f (AB g))):kL K [x,y] H Q E:=by unfold kL;exact ⟨x,y,f,g,rfl,h1,h2,l1,l2,z1,z2,q⟩
theorem aCo(F:iQ K "common_divisor" "common_divisor" WV f fd)(T:jS K mg c):eA P w K mg base dG 1 f fd ["number","above_nought"] xI:=by
 refine F.oky JS λvs H Q E h=>?_;unfold xI at h;obtain ⟨n,d,rfl,hd,q⟩:=h;refine ⟨rfl,λcdv A outer s hr=>?_⟩;refine ⟨_,(aK (bQ (i:=2) JS.nd rfl (Or.inl rfl) (aG 0))
  (aK (bQ (i:=3) JS.nd rfl (Or.inl rfl) (aG 1))
  (aK (pY PassesOwn.never (eS aAR (aG 3) aI (nomark _)) (aK (bQ (i:=4) JS.nd rfl (Or.inl rfl) (cE oI (aG 2) (aG 3)))
  (aK (bQ (i:=2) JS.nd rfl (Or.inl rfl) (aG 3))
  (bF (bQ (i:=3) JS.nd rfl (Or.inl rfl) (aG 4))))))
  (bF (bZ (aG 2)))))),?_⟩
 refine ⟨_,rfl,_,rfl,?_⟩;refine tO (λm σ H'=>∃(a b:Int) (c:Option V),σ=[some (.int n),some (.int d),some (.int a),some (.int b),c]/\0<=b/\Int.gcd a b=Int.gcd n d/\(b=0->0<a)/\H'=H/\m=b.toNat)
  (λσ H'=>∃(c:Option V),σ=[some (.int n),some (.int d),some (.int (Int.gcd n d)),some (.int 0),c]/\H'=H)
  _ ⟨n,d,none,rfl,Oo,rfl,Oo,rfl,rfl⟩ ?_ ?_
 ·rintro m σ H2 ⟨a,b,c,rfl,hb,hg,h0,rfl,rfl⟩;refine ⟨_,rfl,rfl,_,rfl,?_⟩;refine aAY (λe=>?_) (λe=>?_)
  ·have hb':0<b:=by
    rcases Int.lt_or_eq_of_le hb with h | h
    ·exact h
    ·exact absurd (congrArg V.int h.symm) e
   refine ⟨_,rfl,_,rfl,_,_,rfl,rfl,hb',_,rfl,_,rfl,?_⟩;have e1:=Int.emod_lt_of_pos a hb';have e2:=Int.emod_nonneg a (b:=b) Oo;exact ⟨_,Oo,b,a % b,_,rfl,e2,by rw [CN,hg],λ_=>hb',rfl,rfl⟩
  ·have hb0:b=0:=by injection e
   subst hb0;have ha:=h0 rfl;have e1:=GU ha;rw [hg] at e1;rw [e1];exact ⟨c,rfl,rfl⟩
 ·rintro σ H2 ⟨c,rfl,rfl⟩;exact ⟨_,rfl,q⟩
theorem aB8(F:iQ K "plus" "plus" WM f fd)(T:jS K mg c)
  (FQ19:eZ dG P w K mg base 1 "common_divisor" ["number","above_nought"] xI):eA P w K mg base dG 2 f fd ["one","other"] (lA K):=by
 refine F.oky JR λvs H Q E h=>?_;unfold lA at h;obtain ⟨x,y,⟨a,b⟩,⟨c,d⟩,rfl,h1,h2,l1,l2,z1,z2,q⟩:=h;refine ⟨rfl,λcdv A outer s hr=>?_⟩;obtain ⟨p1,rfl,e1⟩:=h1;obtain ⟨p2,rfl,e2⟩:=h2;have pb:0<b:=l1.pos;have pd:0<d:=l2.pos;obtain ⟨za,zb⟩:=z1;obtain ⟨zc,zd⟩:=z2;dsimp only at za zb zc zd e1 e2;have hG:=iK (n:=b) pd;have zG:=vU (n:=b) pd zd;have zb':=pQ zb hG;have zd':=pQ zd hG;have u1:=rT za zd';have u2:=rT zc zb';have hL:=iK (n:=a*(d/(Int.gcd b d:Int))+c*(b/(Int.gcd b d:Int))) hG;have zL:=vU (n:=a*(d/(Int.gcd b d:Int))+c*(b/(Int.gcd b d:Int))) hG zG;have eq:nA (a,b) (c,d)=_:=RK l1 l2;refine ⟨_,(aK (bQ (i:=2) JR.nd rfl (Or.inl rfl) (bK FQ19 (hr.mono Dd) (aF (bV bR (aG 0) aI (λ_ _=>rfl)) (aF (bV bR (aG 1) aI (λ_ _=>rfl)) aE))))
  (aK (bQ (i:=3) JR.nd rfl (Or.inl rfl) (cE fQ (bV bR (aG 0) aI (λ_ _=>rfl)) (aG 2)))
  (aK (bQ (i:=4) JR.nd rfl (Or.inl rfl) (cE fQ (bV bR (aG 1) aI (λ_ _=>rfl)) (aG 2)))
  (aK (bQ (i:=5) JR.nd rfl (Or.inl rfl) (cE fR (cE fG (bV bR (aG 0) aI (λ_ _=>rfl)) (aG 4)) (cE fG (bV bR (aG 1) aI (λ_ _=>rfl)) (aG 3))))
  (aK (bQ (i:=6) JR.nd rfl (Or.inl rfl) (bK FQ19 (hr.mono Dd) (aF (aG 5) (aF (aG 2) aE))))
  (bF (bZ (cY (aF (cE fQ (aG 5) (aG 6)) (aF (cE fG (aG 3) (cE fQ (bV bR (aG 1) aI (λ_ _=>rfl)) (aG 6))) aE)))))))))),?_⟩
 refine ⟨_,rfl,?_⟩;refine nH e1 rfl ?_;refine ⟨_,rfl,?_⟩;refine nH e2 rfl ?_;refine tQ pd ?_;refine ⟨_,rfl,?_⟩;refine nH e1 rfl ?_;refine ⟨_,rfl,_,_,rfl,rfl,rC hG (jG zG),?_⟩;refine ⟨_,rfl,?_⟩;refine nH e2 rfl ?_;refine ⟨_,rfl,_,_,rfl,rfl,rC hG (jG zG),?_⟩;refine ⟨_,rfl,?_⟩;refine nH e1 rfl ?_;refine ⟨_,rfl,_,_,rfl,rfl,tI za zd',?_⟩;refine ⟨_,rfl,?_⟩;refine nH e2 rfl ?_;refine ⟨_,rfl,_,_,rfl,rfl,tI zc zb',_,_,rfl,rfl,?_⟩;refine ⟨_,rfl,_,rfl,?_⟩;refine tQ hG ?_;refine ⟨_,rfl,_,rfl,_,_,rfl,rfl,rC hL (jG zL),?_⟩;refine ⟨_,rfl,_,rfl,?_⟩;refine nH e2 rfl ?_;refine ⟨_,rfl,_,_,rfl,rfl,rC hL (jG zL),_,_,rfl,rfl,tI zb' (pQ zd hL),?_⟩;refine mC (by show 2<=64;decide) λp H3 hp e3 s3=>?_;refine q p H3 hp ?_ s3;rw [eq];exact e3
theorem aB0(F:iQ K "times" "times" WJ f fd)(T:jS K mg c)
  (FQ19:eZ dG P w K mg base 1 "common_divisor" ["number","above_nought"] xI):eA P w K mg base dG 2 f fd ["one","other"] (fP K):=by
 refine F.oky ZN λvs H Q E h=>?_;unfold fP at h;obtain ⟨x,y,⟨a,b⟩,⟨m,d⟩,rfl,h1,h2,l1,l2,⟨za,zb⟩,⟨zc,zd⟩,q⟩:=h;refine ⟨rfl,λcdv A outer s hr=>?_⟩;obtain ⟨p1,rfl,e1⟩:=h1;obtain ⟨p2,rfl,e2⟩:=h2;have pb:0<b:=l1.pos;have pd:0<d:=l2.pos;dsimp only at za zb zc zd e1 e2;have g1:=iK (n:=a) pd;have g2:=iK (n:=m) pb;have y1:=vU (n:=a) pd zd;have y2:=vU (n:=m) pb zb;have eq:jB (a,b) (m,d)=_:=KY l1 l2;refine ⟨_,(aK (bQ (i:=2) ZN.nd rfl (Or.inl rfl) (bK FQ19 (hr.mono Dd) (aF (bV bR (aG 0) aI (λ_ _=>rfl)) (aF (bV bR (aG 1) aI (λ_ _=>rfl)) aE))))
  (aK (bQ (i:=3) ZN.nd rfl (Or.inl rfl) (bK FQ19 (hr.mono Dd) (aF (bV bR (aG 1) aI (λ_ _=>rfl)) (aF (bV bR (aG 0) aI (λ_ _=>rfl)) aE))))
  (bF (bZ (cY (aF (cE fG (cE fQ (bV bR (aG 0) aI (λ_ _=>rfl)) (aG 2)) (cE fQ (bV bR (aG 1) aI (λ_ _=>rfl)) (aG 3))) (aF (cE fG (cE fQ (bV bR (aG 0) aI (λ_ _=>rfl)) (aG 3)) (cE fQ (bV bR (aG 1) aI (λ_ _=>rfl)) (aG 2))) aE))))))),?_⟩
 refine ⟨_,rfl,?_⟩;refine nH e1 rfl ?_;refine ⟨_,rfl,?_⟩;refine nH e2 rfl ?_;refine tQ pd ?_;refine ⟨_,rfl,?_⟩;refine nH e2 rfl ?_;refine ⟨_,rfl,?_⟩;refine nH e1 rfl ?_;refine tQ pb ?_;refine ⟨_,rfl,?_⟩;refine nH e1 rfl ?_;refine ⟨_,rfl,_,_,rfl,rfl,rC g1 (jG y1),?_⟩;refine ⟨_,rfl,?_⟩;refine nH e2 rfl ?_;refine ⟨_,rfl,_,_,rfl,rfl,rC g2 (jG y2),_,_,rfl,rfl,tI (pQ za g1) (pQ zc g2),?_⟩;refine ⟨_,rfl,?_⟩;refine nH e1 rfl ?_;refine ⟨_,rfl,_,_,rfl,rfl,rC g2 (jG y2),?_⟩;refine ⟨_,rfl,?_⟩;refine nH e2 rfl ?_;refine ⟨_,rfl,_,_,rfl,rfl,rC g1 (jG y1),_,_,rfl,rfl,tI (pQ zb g2) (pQ zd g1),?_⟩;refine mC (by show 2<=64;decide) λp H3 hp e3 s3=>?_;refine q p H3 hp ?_ s3;rw [eq];exact e3
theorem aCi(F:iQ K "less" "less" WS f fd)(T:jS K mg c)
  (FQ35:eZ dG P w K mg base 2 "plus" ["one","other"] (lA K)):eA P w K mg base dG 3 f fd ["one","other"] (kL K):=by
 refine F.oky aCW λvs H Q E h=>?_;unfold kL at h;obtain ⟨x,y,f,g,rfl,h1,h2,l1,l2,z1,z2,q⟩:=h;refine ⟨rfl,λcdv A outer s hr=>?_⟩;obtain ⟨p2,rfl,e2⟩:=h2;refine ⟨_,(bF (bZ (bK FQ35 (hr.mono Dd) (aF (aG 0) (aF (cY (aF (FL yW (bV bR (aG 1) aI (λ_ _=>rfl))) (aF (bV bR (aG 1) aI (λ_ _=>rfl)) aE))) aE))))),?_⟩;refine ⟨_,rfl,_,rfl,?_⟩;refine nH e2 rfl ?_;refine ⟨_,rfl,?_⟩;refine ⟨_,rfl,?_⟩;refine nH e2 rfl ?_;refine mC (by show 2<=64;decide) λp H3 hp e3 s3=>?_;refine lU (fS.same s3 h1) (fS.new (f:=AB g) e3) l1 (vG l2) z1 ⟨by show (-g.1).natAbs<_;rw [Int.natAbs_neg];exact z2.1,z2.2⟩ ?_;exact q.of s3
theorem lL{N B:Nat}{f:Fr}(h:Fn N B f)(hN:0<N)(hz:N<2^3000)(hB:B<=2^500):jQ 4000 f:=by
 obtain ⟨h1,h2⟩:=h.num hN;refine ⟨?_,aQ h2 (aV hz (aO Dd Dd))⟩;have h3:B*N<=2^500*2^3000:=Nat.mul_le_mul hB (Nat.le_of_lt hz);have h4:(2:Nat)^500*2^3000<2^4000:=by rw [<-Nat.pow_add];exact Nat.pow_lt_pow_right Dd Dd
 omega
structure DJ(fs:List Fr):Prop where
 low:∀f∈fs,dL f
 sz:∀f∈fs,jQ 4000 f
 part:∀i,dL (pD (fs.take i))/\jQ 4000 (pD (fs.take i))
theorem oR{N B:Nat}{fs:List Fr}(h:∀f∈fs,Fn N B f)(hN:0<N)(hz:N<2^3000)(hl:fs.length<=64)(hB:B<=2^490):DJ fs:=by
 have h5:(2:Nat)^490<=2^500:=aO Dd Dd;have h6:64*(2:Nat)^490<=2^500:=by rw [show (64:Nat)=2^6 from rfl,<-Nat.pow_add];exact aO Dd Dd
 refine ⟨λf hf=>(h f hf).low,λf hf=>lL (h f hf) hN hz (aW hB h5),λi=>?_⟩;have t:=Fn.tot (fs.take i) λf hf=>h f (List.mem_of_mem_take hf);have l:(fs.take i).length<=64:=by rw [cH];omega
 have:(fs.take i).length*B<=64*2^490:=Nat.mul_le_mul l hB;exact ⟨t.low,lL t hN hz (aW this h6)⟩
structure wJ(K:PySem.W.Frag)(H:Hp)(fs:List Fr)(xs:List V):Prop where
 len:xs.length=fs.length
 at_:∀(i:Nat) (x:V),xs[i]?=some x->∃f,fs[i]?=some f/\fS K H f x
theorem wJ.of{K:PySem.W.Frag}{H:Hp}{fs:List Fr}{xs:List V}(r:bD H (fs.map fB) xs):wJ K H fs xs:=⟨gP r,λi x e=>by
 obtain ⟨f,h1,h2⟩:=gQ r e;exact ⟨f,h1,fS.of h2⟩⟩
@[irreducible] def jL(K:PySem.W.Frag):Sp:=λvs H Q _=>∃a xs fs,vs=[.ref a]/\H a=some (.lst xs)/\wJ K H fs xs/\DJ fs/\∀v H',bE H H'->cA H' (fB (pD fs)) v->Q v H'
theorem mK{K:PySem.W.Frag}{H:Hp}{Q:VK}{E:XK}{a:Addr}{xs:List V}{fs:List Fr}(h:H a=some (.lst xs))(r:wJ K H fs xs)(ok:DJ fs)(q:∀v H',bE H H'->cA H' (fB (pD fs)) v->Q v H'):jL K [.ref a] H Q E:=by unfold jL;exact ⟨a,xs,fs,rfl,h,r,ok,q⟩
section
theorem aBZ(F:iQ K "total" "total" WI f fd)(T:jS K mg c)
  (FQ35:eZ dG P w K mg base 2 "plus" ["one","other"] (lA K)):eA P w K mg base dG 3 f fd ["some"] (jL K):=by
 refine F.oky TK λvs H Q E h=>?_;unfold jL at h;obtain ⟨a,vs,fs,rfl,ha,hv,ok,q⟩:=h;refine ⟨rfl,λcdv A outer s hr=>?_⟩;have hlen:=hv.len;refine ⟨_,(aK (bQ (i:=1) TK.nd rfl (Or.inl rfl) (cY (aF aI (aF aI aE))))
  (aK (gK PassesOwn.never rfl (fT (aG 0)) (dD (i:=2) TK.nd rfl (Or.inl rfl)) (bF (bQ (i:=1) TK.nd rfl (Or.inl rfl) (bK FQ35 (hr.mono Dd) (aF (aG 1) (aF (aG 2) aE))))))
  (bF (bZ (aG 1))))),?_⟩
 refine mC (by show 2<=64;decide) λp0 H0 hp0 e0 s0=>?_;refine ⟨_,rfl,a,rfl,⟨_,fM.of (s0 _ _ ha)⟩,?_⟩;refine mF (xs:=vs) (λi σ H'=>∃w o2,σ=[some (.ref a),some w,o2]/\bE H H'/\cA H' (fB (pD (fs.take i))) w) ⟨_,_,rfl,s0,dB e0⟩ (λi σ H' _ p=>?_) ?_ ?_
 ·obtain ⟨w,o2,rfl,s1,_⟩:=p;exact fM.of (s1 _ _ ha)
 ·rintro i x σ H1 hx ⟨w,o2,rfl,s1,r1⟩;obtain ⟨g,hg,rg⟩:=hv.at_ i x hx;have hm:=aZ hg;obtain ⟨t1,t2⟩:=ok.part i;refine ⟨_,rfl,_,rfl,?_⟩;refine lU (fS.of r1) (fS.same s1 rg) t1 (ok.low _ hm) t2 (ok.sz _ hm) ?_;intro p2 H2 hp2 e2 s2;refine ⟨_,_,rfl,s1.trans s2,?_⟩;rw [eW hg,lO];exact dB e2
 ·rintro σ H1 ⟨w,o2,rfl,s1,r1⟩;refine ⟨_,rfl,?_⟩;rw [hlen,cP] at r1;exact q _ H1 s1 r1
end
abbrev iC(cs:List Nat):PyData:=.tuple (cs.map λ(n:Nat)=>PyData.int (n:Int))
theorem gT:∀cs:List Nat,eQ (cs.map λ(n:Nat)=>PyData.int (n:Int))=true
 | []=>rfl
 | f::fs=>by show (fC (.int f)&&eQ (fs.map λ(n:Nat)=>PyData.int (n:Int)))=true;rw [gT fs];rfl
theorem iV(cs:List Nat):fC (iC cs)=true:=gT cs
def nE(K:PySem.W.Frag)(H:Hp)(f:Fr)(x:V):Prop:=cA H (fB f) x\/∃a,x=.ref a/\pS K a [f.1,f.2]=true
theorem nE.v{K:PySem.W.Frag}{H:Hp}{f:Fr}{x:V}(h:nE K H f x):fS K H f x:=by
 rcases h with h | ⟨a,e,h⟩
 ·exact fS.of h
 ·exact ⟨a,e,lS h⟩
theorem nE.t{K:PySem.W.Frag}{H H':Hp}{f:Fr}{x:V}(s:eF H H')(h:nE K H f x):nE K H' f x:=by
 rcases h with h | h
 ·exact .inl (h.flat s (dN f))
 ·exact .inr h
theorem nE.same{K:PySem.W.Frag}{H H':Hp}{f:Fr}{x:V}(s:bE H H')(h:nE K H f x):nE K H' f x:=h.t s.t
theorem UJ{H:Hp}{fs:List Str}{ws:List (Str × List Fr)}{v:V}(h:cA H (sX fs ws) v):∃a af aw xf xw,v=.ref a/\H a=some (.tup [.ref af,.ref aw])/\H af=some (.tup xf)/\H aw=some (.tup xw)/\bD H (fs.map .str) xf/\bD H (ws.map wD) xw:=by
 obtain ⟨a,xs,rfl,ha,hr⟩:=kI h;obtain ⟨x,y,rfl,hx,hy⟩:=oQ hr;obtain ⟨af,xf,rfl,h1,h2⟩:=kI hx;obtain ⟨aw,xw,rfl,h3,h4⟩:=kI hy;exact ⟨a,af,aw,xf,xw,rfl,ha,h1,h3,h2,h4⟩
@[irreducible] def kD:Sp:=λvs H Q _=>∃v fs ws,vs=[v]/\cA H (sX fs ws) v/\Q (.int (ws.length:Nat)) H
theorem sY{H:Hp}{Q:VK}{E:XK}{v:V}{fs:List Str}{ws:List (Str × List Fr)}(h:cA H (sX fs ws) v)(q:Q (.int (ws.length:Nat)) H):kD [v] H Q E:=by unfold kD;exact ⟨v,fs,ws,rfl,h,q⟩
@[irreducible] def uT:Sp:=λvs H Q _=>∃v fs ws w,∃i:Nat,vs=[v,.int (i:Int)]/\cA H (sX fs ws) v/\ws[i]?=some w/\∀x,cA H (pX w.2) x->Q x H
theorem LH{H:Hp}{Q:VK}{E:XK}{v:V}{fs:List Str}{ws:List (Str × List Fr)}{w:Str × List Fr}{i:Nat}(h:cA H (sX fs ws) v)(hw:ws[i]?=some w)(q:∀x,cA H (pX w.2) x->Q x H):uT [v,.int (i:Int)] H Q E:=by unfold uT;exact ⟨v,fs,ws,w,i,rfl,h,hw,q⟩
structure FG(B:Nat)(fs:List Fr):Prop where
 low:∀f∈fs,dL f
 up:∀f∈fs,f.1.natAbs<=2^B
 dn:∀f∈fs,f.2.natAbs<=2^B
@[irreducible] def nU(K:PySem.W.Frag):Sp:=λvs H Q _=>∃x f,∃c B:Nat,vs=[x,.int (c:Int)]/\fS K H f x/\f.1.natAbs<=2^B/\f.2.natAbs<=2^B/\B<=4000/\c<=4000/\B*c<=4000/\nC H Q (tH f c)
theorem EA{K:PySem.W.Frag}{H:Hp}{Q:VK}{E:XK}{x:V}{f:Fr}{c B:Nat}(h:fS K H f x)(h1:f.1.natAbs<=2^B)(h2:f.2.natAbs<=2^B)(h3:B<=4000)(h5:c<=4000)(h4:B*c<=4000)(q:nC H Q (tH f c)):nU K [x,.int (c:Int)] H Q E:=by unfold nU;exact ⟨x,f,c,B,rfl,h,h1,h2,h3,h5,h4,q⟩
theorem AE{x:Int}{n:Nat}(h:x.natAbs<=2^n)(hn:n<=4000):x.natAbs<2^4001:=aQ h (Nat.pow_lt_pow_right Dd Oo)
theorem LE{f:Fr}{n:Nat}(h1:f.1.natAbs<=2^n)(h2:f.2.natAbs<=2^n){k:Nat}(hk:n<k):jQ k f:=⟨aQ h1 (Nat.pow_lt_pow_right Dd hk),aQ h2 (Nat.pow_lt_pow_right Dd hk)⟩
@[irreducible] def lT(K:PySem.W.Frag):Sp:=λvs H Q _=>∃v cv fs ws w cs,∃i:Nat,vs=[v,.int (i:Int),cv]/\cA H (sX fs ws) v/\ws[i]?=some w/\cA H (iC cs) cv/\FG 10 w.2/\cs.sum<=390/\∀x H',bE H H'->nE K H' (pZ (w.2.zip cs)) x->Q x H'
theorem BM{K:PySem.W.Frag}{H:Hp}{Q:VK}{E:XK}{v cv:V}{fs:List Str}{ws:List (Str × List Fr)}{w:Str × List Fr}{cs:List Nat}{i:Nat}(h:cA H (sX fs ws) v)(hw:ws[i]?=some w)(hc:cA H (iC cs) cv)(ok:FG 10 w.2)(hs:cs.sum<=390)(q:∀x H',bE H H'->nE K H' (pZ (w.2.zip cs)) x->Q x H'):lT K [v,.int (i:Int),cv] H Q E:=by unfold lT;exact ⟨v,cv,fs,ws,w,cs,i,rfl,h,hw,hc,ok,hs,q⟩
theorem PL{α β:Type}{l:List α}{m:List β}{i:Nat}{a:α}{b:β}(h1:l[i]?=some a)(h2:m[i]?=some b):(l.zip m)[i]?=some (a,b):=by rw [List.getElem?_zip_eq_some];exact ⟨h1,h2⟩
theorem PJ{α:Type}(l:List α)(m:List Nat)(i:Nat):(((l.zip m).take i).map (·.2)).sum<=m.sum:=by
 induction l generalizing m i with
 | nil=>simp
 | cons a l ih =>
  cases m with
  | nil=>simp
  | cons b m =>
   cases i with
   | zero=>simp
   | succ i =>
    have:=ih m i;simp only [List.zip_cons_cons,List.take_succ_cons,aP,List.sum_cons];omega
theorem mT{α β:Type}{l:List α}{m:List β}{i:Nat}{z:α × β}(h:z∈(l.zip m).take i):z.1∈l:=(List.of_mem_zip (a:=z.1) (b:=z.2) (List.mem_of_mem_take h)).1
theorem QC{m:List Nat}{i c:Nat}(h:m[i]?=some c):c<=m.sum:=by
 induction m generalizing i with
 | nil=>simp at h
 | cons a m ih =>
  rw [List.sum_cons];cases i with
  | zero=>cases (show a=c by simpa using h);omega
  | succ i=>have:=ih (i:=i) (by simpa using h);omega
section
theorem aBX(F:iQ K "ways_of" "ways_of" WG f fd)(T:jS K mg c):eA P w K mg base dG 1 f fd ["trial"] kD:=by
 refine F.oky aCK λvs H Q E h=>?_;unfold kD at h;obtain ⟨v,fs,ws,rfl,h,q⟩:=h;refine ⟨rfl,λcdv A outer s hr=>?_⟩;obtain ⟨a,af,aw,xf,xw,rfl,ha,hf,hw,rf,rw'⟩:=UJ h;refine ⟨_,(bF (bZ (gL lJ (by rfl) T.b_len Kk (aF (bV bR (aG 0) aI (λ_ _=>rfl)) aE)))),?_⟩;refine ⟨_,rfl,?_⟩;refine pE ha rfl ?_;refine rlT hw ?_;rw [gP rw'];exact q
theorem aBY(F:iQ K "way_shares" "way_shares" WH f fd)(T:jS K mg c):eA P w K mg base dG 1 f fd ["trial","way"] uT:=by
 refine F.oky aCL λvs H Q E h=>?_;unfold uT at h;obtain ⟨v,fs,ws,w,i,rfl,h,hw',q⟩:=h;refine ⟨rfl,λcdv A outer s hr=>?_⟩;obtain ⟨a,af,aw,xf,xw,rfl,ha,hf,hw,rf,rw'⟩:=UJ h;obtain ⟨u,hu,ru⟩:=xM rw' hw';obtain ⟨b,xs,rfl,hb,hr'⟩:=kI ru;obtain ⟨y,z,rfl,hy,hz⟩:=oQ hr';refine ⟨_,(bF (bZ (bV bR (bV bR (bV bR (aG 0) aI (λ_ _=>rfl)) (aG 1) (λ_ _=>rfl)) aI (λ_ _=>rfl)))),?_⟩;refine ⟨_,rfl,?_⟩;refine pE ha rfl ?_;refine ⟨_,rfl,?_⟩;refine pE hw (eI (j:=i) hu) ?_;refine pE hb rfl ?_;exact q _ hz
theorem aB7(F:iQ K "power" "power" WL f fd)(T:jS K mg c):eA P w K mg base dG 1 f fd ["share","count"] (nU K):=by
 refine F.oky JQ λvs H Q E h=>?_;unfold nU at h;obtain ⟨x,f,n,B,rfl,⟨a,rfl,ha⟩,h1,h2,h3,h5,h4,q⟩:=h;refine ⟨rfl,λcdv A outer s hr=>?_⟩;refine ⟨_,(aK (bQ (i:=2) JQ.nd rfl (Or.inl rfl) aI)
  (aK (bQ (i:=3) JQ.nd rfl (Or.inl rfl) aI)
  (aK (gK PassesOwn.never rfl (eV rfl T.b_range (aF (aG 1) aE)) (dD (i:=4) JQ.nd rfl (Or.inl rfl)) (aK (bQ (i:=2) JQ.nd rfl (Or.inl rfl) (cE fG (aG 2) (bV bR (aG 0) aI (λ_ _=>rfl))))
  (bF (bQ (i:=3) JQ.nd rfl (Or.inl rfl) (cE fG (aG 3) (bV bR (aG 0) aI (λ_ _=>rfl)))))))
  (bF (bZ (cY (aF (aG 2) (aF (aG 3) aE)))))))),?_⟩
 refine ⟨_,rfl,_,rfl,Oo,Oo,?_⟩;refine oZ (λi σ H'=>∃o4,σ=[some (.ref a),some (.int (n:Int)),some (.int (f.1^i)),some (.int (f.2^i)),o4]/\H'=H) ⟨_,by rw [Int.pow_zero,Int.pow_zero];rfl,rfl⟩ ?_ ?_
 ·rintro i σ H1 hi ⟨o4,rfl,rfl⟩;have hB:B*i<=4000:=aW (dQ _ Oo) h4;refine ⟨_,rfl,_,rfl,?_⟩;refine nH ha rfl ?_;refine ⟨_,_,rfl,rfl,tI (AE (sC h1 i) hB) (AE h1 h3),?_⟩;refine ⟨_,rfl,_,rfl,?_⟩;refine nH ha rfl ?_;refine ⟨_,_,rfl,rfl,tI (AE (sC h2 i) hB) (AE h2 h3),?_⟩;exact ⟨_,by rw [Int.pow_succ,Int.pow_succ];rfl,rfl⟩
 ·rintro σ H1 ⟨o4,rfl,rfl⟩;refine ⟨_,rfl,_,rfl,?_⟩;refine mC (by show 2<=64;decide) λq3 H3 hq3 e3 s3=>?_;exact q q3 H3 hq3 (by rw [e3];rfl) s3
theorem aBW(F:iQ K "weight" "weight" WF f fd)(T:jS K mg c)
  (FQ45:eZ dG P w K mg base 1 "way_shares" ["trial","way"] uT) (FQ43:eZ dG P w K mg base 2 "times" ["one","other"] (fP K)) (FQ36:eZ dG P w K mg base 1 "power" ["share","count"] (nU K)):eA P w K mg base dG 3 f fd ["trial","way","counts"] (lT K):=by
 refine F.oky OE λvs H Q E h=>?_;unfold lT at h;obtain ⟨v,cv,fs,ws,w,cs,j,rfl,h,hw,hc,ok,hs,q⟩:=h;refine ⟨rfl,λcdv A outer s hr=>?_⟩;refine ⟨_,(aK (bQ (i:=3) OE.nd rfl (Or.inl rfl) (kY (v:=.ref c.ONE) rfl T.g_ONE rfl))
  (aK (gK PassesOwn.never rfl (uF true true rfl T.b_zip (aF (bK FQ45 (hr.mono Dd) (aF (aG 0) (aF (aG 1) aE))) (aF (aG 2) aE))) (lC rfl (dM (dD (i:=4) OE.nd rfl (Or.inl rfl)) (dM (dD (i:=5) OE.nd rfl (Or.inl rfl)) jF))) (bF (bQ (i:=3) OE.nd rfl (Or.inl rfl) (bK FQ43 (hr.mono Dd) (aF (aG 3) (aF (bK FQ36 (hr.mono Dd) (aF (aG 4) (aF (aG 5) aE))) aE))))))
  (bF (bZ (aG 3))))),?_⟩
 refine ⟨_,rfl,_,rfl,?_⟩;refine LH h hw λx rx=>?_;obtain ⟨l1,xs,rfl,h1,r1⟩:=kI rx;obtain ⟨l2,ys,rfl,h2,r2⟩:=kI hc;refine ⟨_,rfl,l1,l2,xs,ys,rfl,h1,h2,?_⟩;have hl1:=gP r1;have hl2:=gP r2;have zl:∀i,∀z∈(w.2.zip cs).take i,dL z.1:=λi z hz=>ok.low _ (mT hz);have zb:∀i,∀z∈(w.2.zip cs).take i,z.1.1.natAbs<=2^10/\z.1.2.natAbs<=2^10:=λi z hz=>⟨ok.up _ (mT hz),ok.dn _ (mT hz)⟩;refine tZ (λi σ H'=>∃x o4 o5,σ=[some v,some (.int (j:Int)),some (.ref l2),some x,o4,o5]/\bE H H'/\nE K H' (pZ ((w.2.zip cs).take i)) x) ⟨_,_,_,rfl,bE.refl _,.inr ⟨_,rfl,T.o_ONE⟩⟩ (λi σ H' ⟨x,o4,o5,_,s',_⟩=>⟨s' _ _ h1,s' _ _ h2⟩) ?_ ?_
 ·rintro i y z q3 σ H1 H2 hy hz ⟨x,o4,o5,rfl,s1,r⟩ hq3 e3 s3;obtain ⟨g,hg,rg⟩:=gQ r1 hy;obtain ⟨n,hn,rn⟩:=gQ r2 hz;cases (show z=V.int (n:Int) from rn);have gm:=aZ hg;have nn:=QC hn;refine ⟨q3,_,rfl,fF.of e3,rfl,_,_,rfl,_,_,rfl,rfl,?_⟩;refine ⟨_,rfl,_,rfl,_,rfl,?_⟩;refine EA (B:=10) (fS.of (rg.same (s1.trans s3))) (ok.up _ gm) (ok.dn _ gm) Dd Oo Oo ?_;intro q4 H4 hq4 e4 s4;obtain ⟨b1,b2⟩:=PU ((w.2.zip cs).take i) (zl i) (zb i);have zs:=PJ w.2 cs i;have c1:=sC (ok.up _ gm) n;have c2:=sC (ok.dn _ gm) n;refine fJ (fS.same (s3.trans s4) r.v) (fS.new (f:=tH g n) e4) (uH _ (zl i)) (lZ (ok.low _ gm) n) (LE b1 b2 Oo) (LE c1 c2 Oo) ?_;intro q5 H5 hq5 e5 s5;refine ⟨_,_,_,rfl,((s1.trans s3).trans s4).trans s5,?_⟩;rw [eW (PL hg hn),rP];exact .inl (dB e5)
 ·rintro σ H1 ⟨x,o4,o5,rfl,s1,r⟩;refine ⟨_,rfl,?_⟩;refine q _ H1 s1 ?_;have e:(w.2.zip cs).take (min xs.length ys.length)=w.2.zip cs:=List.take_of_length_le (by rw [List.length_zip];omega)
  rwa [e] at r
end
abbrev EX(n:Nat):V:=.int (n:Int)
theorem DA{H:Hp}:∀cs:List Nat,bD H (cs.map λ(n:Nat)=>PyData.int (n:Int)) (cs.map EX)
 | []=>bD.nil
 | n::cs=>bD.cons (cA.int _) (DA cs)
theorem yM{H:Hp}:∀{cs:List Nat}{xs:List V},bD H (cs.map λ(n:Nat)=>PyData.int (n:Int)) xs->xs=cs.map EX
 | [],xs,h=>h
 | n::cs,xs,h=>by
  unfold bD at h;obtain ⟨x,xs',rfl,hx,hr⟩:=(show ∃x xs',xs=x::xs'/\cA H (PyData.int (n:Int)) x/\bD H (cs.map λ(n:Nat)=>PyData.int (n:Int)) xs' from h);rw [yM hr];cases (show x=V.int (n:Int) from hx)
  rfl
theorem pU{H:Hp}{cs:List Nat}{v:V}(h:cA H (iC cs) v):∃a,v=.ref a/\H a=some (.tup (cs.map EX)):=by
 obtain ⟨a,xs,rfl,ha,hr⟩:=kI h;rw [yM hr] at ha;exact ⟨a,rfl,ha⟩
theorem wE{H:Hp}{cs:List Nat}{a:Addr}(h:H a=some (.tup (cs.map EX))):cA H (iC cs) (.ref a):=cA.tup h (DA cs)
theorem OJ{cs:List Nat}{i:Nat}(h:i<cs.length):cX cs i=cs.take i++[cs.getD i 0+1]++cs.drop (i+1):=by
 unfold cX;rw [List.set_eq_take_append_cons_drop,if_pos h,List.append_assoc]
 rfl
theorem zO{K:PySem.W.Frag}{H:Hp}{a:Addr}{xs:List V}{k:Nat}{z:Int}{Q:VK}(hz:z=(k:Int))(h:H a=some (.tup xs))(q:∀c H',bE H H'->H' c=some (.tup (xs.drop k))->Q (.ref c) H'):BU K (.ref a) (some z) none H Q:=by
 subst hz;exact LP h q
@[irreducible] def jM:Sp:=λvs H Q _=>∃(x:V) (cs:List Nat) (i:Nat),vs=[x,.int (i:Int)]/\cA H (iC cs) x/\i<cs.length/\cs.length<=64/\∀v H',bE H H'->cA H' (iC (cX cs i)) v->Q v H'
theorem wN{H:Hp}{Q:VK}{E:XK}{x:V}{cs:List Nat}{i:Nat}(h1:cA H (iC cs) x)(h2:i<cs.length)(h3:cs.length<=64)(k:∀v H',bE H H'->cA H' (iC (cX cs i)) v->Q v H'):jM [x,.int (i:Int)] H Q E:=by
 unfold jM;exact ⟨x,cs,i,rfl,h1,h2,h3,k⟩
@[irreducible] def gY:Sp:=λvs H Q _=>∃(x:V) (cs:List Nat),vs=[x]/\cA H (iC cs) x/\cs.length<=64/\∀D ys H',H D=none->H' D=some (.lst ys)->bD H' (((List.range cs.length).map (cX cs)).map iC) ys->bE H H'->Q (.ref D) H'
theorem nY{H:Hp}{Q:VK}{E:XK}{x:V}{cs:List Nat}(h1:cA H (iC cs) x)(h3:cs.length<=64)(k:∀D ys H',H D=none->H' D=some (.lst ys)->bD H' (((List.range cs.length).map (cX cs)).map iC) ys->bE H H'->Q (.ref D) H'):gY [x] H Q E:=by
 unfold gY;exact ⟨x,cs,rfl,h1,h3,k⟩
section
theorem aCd(F:iQ K "one_more" "one_more" WO f fd)(T:jS K mg c):eA P w K mg base dG 1 f fd ["counts","face"] jM:=by
 refine F.oky aCS λvs H Q E h=>?_;unfold jM at h;obtain ⟨x,cs,i,rfl,rx,hi,hl,k⟩:=h;refine ⟨rfl,λcdv A outer s hr=>?_⟩;obtain ⟨a,rfl,ha⟩:=pU rx;refine ⟨_,(bF (bZ (cE (qT K) (cE (qT K) (jJ (tR K) (aG 0) kX (kW (aG 1))) (cY (aF (cE fR (bV bR (aG 0) (aG 1) (λ_ _=>rfl)) aI) aE))) (jJ (tR K) (aG 0) (kW (cE fR (aG 1) aI)) kX)))),?_⟩;refine ⟨_,rfl,_,rfl,_,rfl,?_⟩;refine LQ ha λc2 H2 s2 e2=>?_;refine ⟨_,rfl,_,rfl,?_⟩;have hat:DG (cs.map EX) (i:Int)=some (EX (cs.getD i 0)):=eI (by rw [aH,aT,aC hi];rfl);refine pE (s2 _ _ ha) hat ?_;refine ⟨_,_,rfl,rfl,?_⟩;refine mC (by show 1<=64;decide) λc3 H3 hc3 e3 s3=>?_;refine OA (s3 _ _ e2) e3 (by rw [cH,aA];show min i cs.length+1<=1000;omega) λc4 H4 s4 e4=>?_;refine ⟨_,rfl,_,rfl,_,_,rfl,rfl,?_⟩;refine ⟨_,rfl,?_⟩;refine zO (k:=i+1) Oo (s4 _ _ (s3 _ _ (s2 _ _ ha))) λc5 H5 s5 e5=>?_;refine OA (s5 _ _ e4) e5 (by rw [aX,cH,List.length_drop,aA];show min i cs.length+1+(cs.length-(i+1))<=1000;omega) λc6 H6 s6 e6=>?_;refine k _ H6 ((((s2.trans s3).trans s4).trans s5).trans s6) (wE ?_);rw [e6,OJ hi,bO,bO,List.map_take,List.map_drop]
 rfl
theorem aCc(F:iQ K "ones_more" "ones_more" QK f fd)(T:jS K mg c)(FQ30:eZ dG P w K mg base 1 "one_more" ["counts","face"] jM):eA P w K mg base dG 2 f fd ["counts"] gY:=by
 refine F.oky aCR λvs H Q E h=>?_;unfold gY at h;obtain ⟨x,cs,rfl,rx,hl,k⟩:=h;refine ⟨rfl,λcdv A outer s hr=>?_⟩;obtain ⟨a,rfl,ha⟩:=pU rx;refine ⟨_,(bF (bZ (fU (eC.of (psc:=bB QK) (N:=["counts"]) (N':=["face","counts"]) (js:=[0]) Kk rfl rfl rfl) (eV rfl T.b_range (aF (gL lJ (by rfl) T.b_len Kk (aF (aG 0) aE)) aE)) (λ_ _ _ _=>eJ) (λ_ _ _ _=>(bK FQ30 (hr.mono Dd) (aF (aG 1) (aF (aG 0) aE))))))),?_⟩;refine ⟨_,rfl,?_⟩;refine rlT ha ?_;rw [aA];refine ⟨_,rfl,Oo,Oo,?_⟩;refine kG (λi y H'=>i<cs.length/\cA H' (iC (cX cs i)) y) (λi y H1 H2 s ⟨h1,h2⟩=>⟨h1,h2.flat s (iV _)⟩) Oo (λi H' Q' hi s' k'=>?_) (λD ys H4 hD hD4 s4 hy4 hr4=>?_)
 ·rw [Int.zero_add];refine ⟨_,rfl,_,rfl,?_⟩;refine wN (rx.same s') Oo hl λv H5 s5 r5=>?_;exact k' _ H5 s5 ⟨Oo,r5⟩
 ·refine k D ys H4 hD hD4 ?_ s4;refine bD.ofIdx (by rw [hy4,aA,aA,bH];omega) λi y hi=>?_;obtain ⟨h1,h2⟩:=hr4 i y hi;exact ⟨iC (cX cs i),by rw [aH,aH,bP h1];rfl,h2⟩
end
abbrev WR:Stmt:=(top 24)
theorem aCV:bT ["says"] ["says"] (bB WR):=⟨rfl,rfl,rfl,Kk,rfl,Kk,Kk⟩
abbrev QL:Stmt:=(top 19)
theorem aCT:bT ["faces"] ["faces"] (bB QL):=⟨rfl,rfl,rfl,Kk,rfl,Kk,Kk⟩
abbrev WU:Stmt:=(top 26)
theorem TM:bT ["level","table","found","counts","more"] ["level","table"] (bB WU):=⟨rfl,rfl,rfl,Kk,rfl,Kk,Kk⟩
abbrev WT:Stmt:=(top 25)
theorem TL:bT ["faces","table","found","level"] ["faces","table"] (bB WT):=⟨rfl,rfl,rfl,Kk,rfl,Kk,Kk⟩
abbrev QH:Stmt:=(top 27)
theorem aCO:bT ["faces","table"] ["faces","table"] (bB QH):=⟨rfl,rfl,rfl,Kk,rfl,Kk,Kk⟩
abbrev UH(ws:List (Str × List Fr)):List (List Fr):=ws.map λx=>x.2
def ci(c:List Nat):List Int:=c.map λ(n:Nat)=>(n:Int)
theorem gG(c:List Nat):(ci c).map V.int=c.map EX:=by unfold ci;rw [List.map_map];rfl
theorem AV(c:List Nat):(ci c).sum=(c.sum:Nat):=by
 induction c with
 | nil=>rfl
 | cons a c ih =>
  have e:ci (a::c)=(a:Int)::ci c:=rfl;rw [e,List.sum_cons,List.sum_cons,ih];omega
theorem lK:∀{a b:List Nat},ci a=ci b->a=b
 | [],[],_=>rfl
 | [],b::bs,h=>by cases h
 | a::as,[],h=>by cases h
 | a::as,b::bs,h=>by
  have h:(a:Int)::ci as=(b:Int)::ci bs:=h;injection h with h1 h2;rw [lK h2,show a=b by omega]
theorem aR.tT{H H':Hp}{p:Addr}(s:aR p H H'){kvs:List (List dS × V)}(hp:H p=some (.dT kvs)):eF H H':=λb ys h=>s.at (vH h hp (by intro z;cases z)) h
theorem GT{α:Type}{l:List α}{i:Nat}{a d:α}(h:l[i]?=some a):l.getD i d=a:=by rw [aT,h];rfl
theorem DN{fs:List Fr}{i:Nat}{f:Fr}(h:fs[i]?=some f):gI fs i=rv f:=by unfold gI;rw [GT h]
theorem yV{fs:List Fr}{i:Nat}(h:fs.length<=i):gI fs i=0:=by
 unfold gI;rw [aT,dI h];exact jX
theorem pT{α:Type}(l:List α):l.filter (λ_=>true)=l:=List.filter_eq_self.mpr λ_ _=>rfl
theorem mQ{H:Hp}{α:Type}{g:α->Fr}{as:List α}{ys:List V}(pr:Paired (λa y=>cA H (fB (g a)) y) as ys):bD H ((as.map g).map fB) ys:=by
 rw [List.map_map];exact Paired.toRepL pr
structure wW(K:PySem.W.Frag)(H:Hp)(fs:List Fr)(xs:List V):Prop where
 len:xs.length=fs.length
 at_:∀(i:Nat) (x:V),xs[i]?=some x->∃f,fs[i]?=some f/\nE K H f x
theorem wW.t{K:PySem.W.Frag}{H H':Hp}{fs:List Fr}{xs:List V}(s:eF H H')(h:wW K H fs xs):wW K H' fs xs:=⟨h.len,λi x e=>by
 obtain ⟨f,h1,h2⟩:=h.at_ i x e;exact ⟨f,h1,h2.t s⟩⟩
def tN(H:Hp)(a:Addr)(cs:List (List Nat)):Prop:=∃vs,H a=some (.lst vs)/\bD H (cs.map iC) vs
theorem uA:∀cs:List (List Nat),eQ (cs.map iC)=true
 | []=>rfl
 | c::cs=>by show (fC (iC c)&&eQ (cs.map iC))=true;rw [uA cs,iV];rfl
theorem tN.len{H:Hp}{a:Addr}{cs:List (List Nat)}(h:tN H a cs):∃vs,H a=some (.lst vs)/\bD H (cs.map iC) vs/\vs.length=cs.length:=by
 obtain ⟨vs,h1,h2⟩:=h;exact ⟨vs,h1,h2,gP h2⟩
theorem bD.app{H:Hp}:∀{ds es:List PyData}{xs ys:List V},bD H ds xs->bD H es ys->bD H (ds++es) (xs++ys)
 | [],es,xs,ys,h1,h2=>by
  have:xs=[]:=h1;subst this;exact h2
 | d::ds,es,xs,ys,h1,h2=>by
  unfold bD at h1;obtain ⟨x,xs',rfl,hx,hr⟩:=(show ∃x xs',xs=x::xs'/\cA H d x/\bD H ds xs' from h1);exact bD.cons hx (bD.app hr h2)
theorem sL{α:Type}(g:Nat->List α)(i:Nat):(List.range (i+1)).flatMap g=(List.range i).flatMap g++g i:=by
 rw [List.range_succ,List.flatMap_append];simp
theorem JI:∀F,F<=4->∀m,m<=5->(cta F m).length<=56:=Kk
theorem JV:∀F,F<=4->∀i,i<=6->((List.range i).flatMap (cta F)).length<=400:=Kk
theorem tN.butL{H H':Hp}{x:Addr}{xs:List V}{a:Addr}{cs:List (List Nat)}(s:aR x H H')(hx:H x=some (.lst xs))(n:a≠x)(h:tN H a cs):tN H' a cs:=by
 obtain ⟨vs,h1,h2⟩:=h;exact ⟨vs,s.at n h1,h2.flat (s.t hx) (uA _)⟩
theorem dgI{H:Hp}{p b:Addr}{kvs:List (List dS × V)}{cc:List Nat}(e:H p=some (.dT kvs))(hb:H b=some (.tup (cc.map EX))):jP H p (.ref b) (eN kvs (kT (ci cc))):=.inr ⟨kvs,kT (ci cc),b,.inl e,rfl,by rw [sI,gG];exact hb,rfl⟩
theorem gZ{α:Type}[DecidableEq α]:∀{l m:List α},l.Nodup->(∀x∈l,x∈m)->l.length<=m.length
 | [],m,_,_=>cM _
 | x::l,m,h,hs=>by
  rw [List.nodup_cons] at h;have hx:=hs x (aL ..);have h1:=gZ (l:=l) (m:=m.erase x) h.2 λy hy=>(List.mem_erase_of_ne (λe=>by subst e;exact h.1 hy)).mpr (hs y (aM _ hy));rw [List.length_erase_of_mem hx] at h1;have:0<m.length:=List.length_pos_of_mem hx;rw [cS];omega
theorem ND{kvs:List (List dS × V)}{ks:List (List Int)}{v:V}(c:List Int)(hk:kvs.map (·.1)=ks.map kT)(nd:ks.Nodup):∃ks2:List (List Int),(iG kvs (kT c) v).map (·.1)=ks2.map kT/\ks2.Nodup/\∀x,x∈ks2↔x∈ks\/x=c:=by
 cases e:eN kvs (kT c) with
 | some u =>
  refine ⟨ks,by rw [wS (by rw [e];rfl),hk],nd,λx=>⟨.inl,λh=>?_⟩⟩;rcases h with h | rfl
  ·exact h
  ·have:kT x∈kvs.map (·.1):=qB e;rw [hk] at this;obtain ⟨y,hy,ey⟩:=aD.mp this;rw [<-lH ey];exact hy
 | none =>
  have hn:c ∉ ks:=λh=>by
   have:kT c∈kvs.map (·.1):=by rw [hk];exact List.mem_map_of_mem h
   exact KS e this
  refine ⟨ks++[c],by rw [vC v e,bO,bO,hk];rfl,List.nodup_append.mpr ⟨nd,by simp,λa ha b hb e=>by cases bM.mp hb;subst e;exact hn ha⟩,λx=>by rw [cT,bM]⟩
theorem TC:∀F,F<=4->∀m,m<=5->((cta F m).map ci).Pairwise (λa b=>kN a b=true):=Kk
theorem ctI(c:List Nat):PyData.tuple ((ci c).map .int)=iC c:=by unfold ci;rw [List.map_map];rfl
section
variable{F W M:Nat}{best:List Nat->Nat}
def lvl(F:Nat)(best:List Nat->Nat):Nat->List (List Nat)
 | 0=>[List.replicate F 0]
 | k+1=>(cta F (k+1)).filter λd=>(lvl F best k).any λc=>best c == 0&&(List.range F).any λj=>d == cX c j
theorem kA(hF:1<=F):∀k,(lvl F best k).Sublist (cta F k)
 | 0=>by unfold lvl;rw [CV F hF];exact List.Sublist.refl _
 | k+1=>by unfold lvl;exact List.filter_sublist
theorem jZ(hF:1<=F){k:Nat}{d:List Nat}:d∈lvl F best (k+1) ↔ ∃c∈lvl F best k,best c=0/\∃j,j<F/\d=cX c j:=by
 have h0:d∈lvl F best (k+1)↔d∈cta F (k+1)/\∃c∈lvl F best k,best c=0/\∃j,j<F/\d=cX c j:=by
  show d∈List.filter _ _↔_;rw [dY];simp
 rw [h0];refine ⟨λh=>h.2,λh=>⟨?_,h⟩⟩;obtain ⟨c,hc,_,j,hj,e⟩:=h;exact (NU hF).mpr ⟨c,(kA hF k).subset hc,j,hj,e⟩
def qQ(F M:Nat)(best:List Nat->Nat):List (List Nat):=(List.range (M+1)).flatMap (lvl F best)
theorem vX{α:Type}{f g:Nat->List α}(h:∀k,(f k).Sublist (g k)):∀l:List Nat,(l.flatMap f).Sublist (l.flatMap g)
 | []=>List.Sublist.refl _
 | a::l=>by rw [List.flatMap_cons,List.flatMap_cons];exact (h a).append (vX h l)
theorem mO(hF:1<=F):(qQ F M best).Sublist (rise F M):=vX (kA hF) _
theorem tV{c:List Nat}:c∈qQ F M best ↔ ∃k,k<=M/\c∈lvl F best k:=by
 unfold qQ;rw [List.mem_flatMap];constructor
 ·rintro ⟨k,hk,h⟩;exact ⟨k,by have:=dC.mp hk;omega,h⟩
 ·rintro ⟨k,hk,h⟩;exact ⟨k,dC.mpr Oo,h⟩
theorem vB(hF:1<=F)(on:∀c,best c=0->c.sum<M){c:List Nat}(hc:c∈qQ F M best)(h:best c=0){j:Nat}(hj:j<F):cX c j∈qQ F M best:=by
 obtain ⟨k,hk,h1⟩:=tV.mp hc;have h2:=(hJ ((kA hF k).subset h1)).2;have h3:=on c h;exact tV.mpr ⟨k+1,Oo,(jZ hF).mpr ⟨c,h1,h,j,hj,rfl⟩⟩
theorem LX(hF:1<=F){d:List Nat}(hd:d∈qQ F M best)(h:d≠List.replicate F 0):∃c∈qQ F M best,best c=0/\∃j,j<F/\cX c j=d:=by
 obtain ⟨k,hk,h1⟩:=tV.mp hd;cases k with
 | zero=>exact absurd (bM.mp h1) h
 | succ k =>
  obtain ⟨c,hc,hb,j,hj,e⟩:=(jZ hF).mp h1;exact ⟨c,tV.mpr ⟨k,Oo,hc⟩,hb,j,hj,e.symm⟩
theorem BT:∃r,qQ F M best=List.replicate F 0::r:=by
 unfold qQ;rw [List.range_succ_eq_map,List.flatMap_cons];exact ⟨_,rfl⟩
theorem FU(hF:1<=F){c:List Nat}(h:c∈qQ F M best):c.length=F/\c.sum<=M:=(mD hF).mp ((mO hF).subset h)
end
def OR(K:PySem.W.Frag)(H:Hp)(fs:List Fr)(z:V):Prop:=∃sa sx,z=.ref sa/\H sa=some (.tup sx)/\wW K H fs sx
theorem OR.t{K:PySem.W.Frag}{H H':Hp}{fs:List Fr}{z:V}(s:eF H H')(h:OR K H fs z):OR K H' fs z:=by
 obtain ⟨sa,sx,h1,h2,h3⟩:=h;exact ⟨sa,sx,h1,s _ _ h2,h3.t s⟩
theorem wW.get{K:PySem.W.Frag}{H:Hp}{fs:List Fr}{xs:List V}(h:wW K H fs xs){i:Nat}{f:Fr}(e:fs[i]?=some f):∃x,xs[i]?=some x/\nE K H f x:=by
 have li:=(aN.mp e).1;have hx:xs[i]?=some (xs[i]'(by rw [h.len];exact li)):=aC (by rw [h.len];exact li);obtain ⟨g,h1,h2⟩:=h.at_ i _ hx;rw [e] at h1;cases h1;exact ⟨_,hx,h2⟩
def EnW(K:PySem.W.Frag)(H:Hp)(e:bN)(x:V):Prop:=∃b cu z,x=.ref b/\H b=some (.tup [.ref cu,z])/\H cu=some (.tup (e.1.map EX))/\OR K H e.2 z
theorem EnW.t{K:PySem.W.Frag}{H H':Hp}{e:bN}{x:V}(s:eF H H')(h:EnW K H e x):EnW K H' e x:=by
 obtain ⟨b,cu,z,h1,h2,h3,h4⟩:=h;exact ⟨b,cu,z,h1,s _ _ h2,s _ _ h3,h4.t s⟩
def kH(K:PySem.W.Frag)(H:Hp)(es:List bN)(v:V):Prop:=∃a xs,v=.ref a/\H a=some (.tup xs)/\xs.length=es.length/\∀(i:Nat) (x:V),xs[i]?=some x->∃e,es[i]?=some e/\EnW K H e x
theorem kH.t{K:PySem.W.Frag}{H H':Hp}{es:List bN}{v:V}(s:eF H H')(h:kH K H es v):kH K H' es v:=by
 obtain ⟨a,xs,h1,h2,h3,h4⟩:=h;exact ⟨a,xs,h1,s _ _ h2,h3,λi x hx=>by obtain ⟨e,g1,g2⟩:=h4 i x hx;exact ⟨e,g1,g2.t s⟩⟩
@[irreducible] def jA(K:PySem.W.Frag):Sp:=λvs H Q _=>∃(z:V) (f:Fr) (fs:List Fr),vs=[z]/\OR K H (f::fs) z/\Q (.bl (decide (0<f.1))) H
theorem oC{K:PySem.W.Frag}{H:Hp}{Q:VK}{E:XK}{z:V}{f:Fr}{fs:List Fr}(h1:OR K H (f::fs) z)(k:Q (.bl (decide (0<f.1))) H):jA K [z] H Q E:=by
 unfold jA;exact ⟨z,f,fs,rfl,h1,k⟩
@[irreducible] def iZ:Sp:=λvs H Q _=>∃F:Nat,vs=[.int (F:Int)]/\F<=64/\∀v H',bE H H'->cA H' (iC (List.replicate F 0)) v->Q v H'
theorem qM{H:Hp}{Q:VK}{E:XK}{F:Nat}(h:F<=64)(k:∀v H',bE H H'->cA H' (iC (List.replicate F 0)) v->Q v H'):iZ [.int (F:Int)] H Q E:=by
 unfold iZ;exact ⟨F,rfl,h,k⟩
structure nB(F M:Nat)(best:List Nat->Nat)(sy:List Nat->List Fr)(R:List Nat->Prop):Prop where
 f1:1<=F
 f4:F<=4
 m5:M<=5
 on:∀c,best c=0->c.sum<M
 r:(rise F M).length<=400
 hd:∀c,R c->∃f fs,sy c=f::fs/\(0<f.1↔best c=0)
 root:R (List.replicate F 0)
 fwd:∀c,R c->best c=0->∀f,f<F->R (cX c f)
theorem nB.lvl{F M:Nat}{best:List Nat->Nat}{sy:List Nat->List Fr}{R:List Nat->Prop}(I:nB F M best sy R):∀(k:Nat) {c:List Nat},c∈Kw.lvl F best k->R c
 | 0,c,h=>by
  have h:c∈[List.replicate F 0]:=h;rw [bM.mp h];exact I.root
 | k+1,c,h=>by
  obtain ⟨d,hd,h0,f,hf,rfl⟩:=(jZ I.f1).mp h;exact I.fwd d (I.lvl k hd) h0 f hf
theorem nB.ruC{F M:Nat}{best:List Nat->Nat}{sy:List Nat->List Fr}{R:List Nat->Prop}(I:nB F M best sy R){c:List Nat}(h:c∈Kw.qQ F M best):R c:=by
 unfold Kw.qQ at h;obtain ⟨k,_,hk⟩:=List.mem_flatMap.mp h;exact I.lvl k hk
def TW(K:PySem.W.Frag)(H:Hp)(d:Addr)(R:List Nat->Prop)(sy:List Nat->List Fr):Prop:=∃kvs,H d=some (.dT kvs)/\∀c,R c->∃v,eN kvs (kT (ci c))=some v/\OR K H (sy c) v
theorem TW.same{K:PySem.W.Frag}{H H':Hp}{d:Addr}{R:List Nat->Prop}{sy:List Nat->List Fr}(s:bE H H')(h:TW K H d R sy):TW K H' d R sy:=by
 obtain ⟨kvs,h1,h2⟩:=h;exact ⟨kvs,s _ _ h1,λc hc=>by obtain ⟨v,g1,g2⟩:=h2 c hc;exact ⟨v,g1,g2.t s.t⟩⟩
def OW(F M:Nat)(best:List Nat->Nat)(sy:List Nat->List Fr):List bN:=(qQ F M best).map λc=>(c,sy c)
@[irreducible] def oF(K:PySem.W.Frag):Sp:=λvs H Q _=>∃(L d:Addr) (F M k:Nat) (best:List Nat->Nat) (sy:List Nat->List Fr) (R:List Nat->Prop),vs=[.ref L,.ref d]/\tN H L (lvl F best k)/\TW K H d R sy/\nB F M best sy R/\k<=M/\∀D H',bE H H'->H D=none->tN H' D (lvl F best (k+1))->Q (.ref D) H'
theorem EE{K:PySem.W.Frag}{H:Hp}{Q:VK}{E:XK}{L d:Addr}{F M k:Nat}{best:List Nat->Nat}{sy:List Nat->List Fr}{R:List Nat->Prop}(h1:tN H L (lvl F best k))(h2:TW K H d R sy)(h3:nB F M best sy R)(h4:k<=M)(q:∀D H',bE H H'->H D=none->tN H' D (lvl F best (k+1))->Q (.ref D) H'):oF K [.ref L,.ref d] H Q E:=by
 unfold oF;exact ⟨L,d,F,M,k,best,sy,R,rfl,h1,h2,h3,h4,q⟩
@[irreducible] def oE(K:PySem.W.Frag):Sp:=λvs H Q _=>∃(d:Addr) (F M:Nat) (best:List Nat->Nat) (sy:List Nat->List Fr) (R:List Nat->Prop),vs=[.int (F:Int),.ref d]/\TW K H d R sy/\nB F M best sy R/\∀D H',bE H H'->H D=none->tN H' D (qQ F M best)->Q (.ref D) H'
theorem ED{K:PySem.W.Frag}{H:Hp}{Q:VK}{E:XK}{d:Addr}{F M:Nat}{best:List Nat->Nat}{sy:List Nat->List Fr}{R:List Nat->Prop}(h2:TW K H d R sy)(h3:nB F M best sy R)(q:∀D H',bE H H'->H D=none->tN H' D (qQ F M best)->Q (.ref D) H'):oE K [.int (F:Int),.ref d] H Q E:=by
 unfold oE;exact ⟨d,F,M,best,sy,R,rfl,h2,h3,q⟩
@[irreducible] def nQ(K:PySem.W.Frag):Sp:=λvs H Q _=>∃(d:Addr) (F M:Nat) (best:List Nat->Nat) (sy:List Nat->List Fr) (R:List Nat->Prop),vs=[.int (F:Int),.ref d]/\TW K H d R sy/\nB F M best sy R/\∀v H',bE H H'->kH K H' (OW F M best sy) v->Q v H'
theorem DX{K:PySem.W.Frag}{H:Hp}{Q:VK}{E:XK}{d:Addr}{F M:Nat}{best:List Nat->Nat}{sy:List Nat->List Fr}{R:List Nat->Prop}(h2:TW K H d R sy)(h3:nB F M best sy R)(q:∀v H',bE H H'->kH K H' (OW F M best sy) v->Q v H'):nQ K [.int (F:Int),.ref d] H Q E:=by
 unfold nQ;exact ⟨d,F,M,best,sy,R,rfl,h2,h3,q⟩
theorem tX{F M:Nat}{best:List Nat->Nat}(hF:1<=F)(on:∀c,best c=0->c.sum<M):∀j,lvl F best (M+1+j)=[]
 | 0=>by
  refine List.eq_nil_iff_forall_not_mem.mpr λd hd=>?_;obtain ⟨c,hc,h0,_⟩:=(jZ hF).mp hd;have h1:=(hJ ((kA hF M).subset hc)).2;have:=on c h0;omega
 | j+1=>by
  refine List.eq_nil_iff_forall_not_mem.mpr λd hd=>?_;obtain ⟨c,hc,_⟩:=(jZ (k:=M+1+j) hF).mp hd;rw [tX hF on j] at hc;cases hc
theorem CC{F k:Nat}{best:List Nat->Nat}(hF:1<=F)(h:lvl F best k=[]):∀j,lvl F best (k+j)=[]
 | 0=>h
 | j+1=>by
  refine List.eq_nil_iff_forall_not_mem.mpr λd hd=>?_;obtain ⟨c,hc,_⟩:=(jZ (k:=k+j) hF).mp hd;rw [CC hF h j] at hc;cases hc
theorem xV{F k:Nat}{best:List Nat->Nat}(hF:1<=F)(h:lvl F best k=[]):∀j,(List.range (k+j)).flatMap (lvl F best)=(List.range k).flatMap (lvl F best)
 | 0=>rfl
 | j+1=>by rw [<-Nat.add_assoc,sL,CC hF h j,List.append_nil,xV hF h j]
section
theorem aCh(F:iQ K "looks_on" "looks_on" WR f fd)(T:jS K mg c):eA P w K mg base dG 1 f fd ["says"] (jA K):=by
 refine F.oky aCV λvs H Q E h=>?_;unfold jA at h;obtain ⟨z,f,fs,rfl,⟨sa,sx,rfl,hsa,rsx⟩,k⟩:=h;refine ⟨rfl,λcdv A outer s hr=>?_⟩;obtain ⟨y,hy,ry⟩:=rsx.get (i:=0) rfl;obtain ⟨b,rfl,hb⟩:=ry.v;refine ⟨_,(bF (bZ (pP xO (bV bR (bV bR (aG 0) (kY (v:=.int 0) rfl T.g_LOOKS_ON ⟨_,rfl⟩) (λ_ _=>rfl)) aI (λ_ _=>rfl)) aI (nomark _)))),?_⟩;refine ⟨_,rfl,?_⟩;refine pE hsa (eI (j:=0) hy) ?_;refine nH hb rfl ?_;refine ⟨_,_,rfl,rfl,?_⟩;exact k
theorem aCe(F:iQ K "noughts" "noughts" QL f fd)(T:jS K mg c):eA P w K mg base dG 1 f fd ["faces"] iZ:=by
 refine F.oky aCT λvs H Q E h=>?_;unfold iZ at h;obtain ⟨F,rfl,hF,k⟩:=h;refine ⟨rfl,λcdv A outer s hr=>?_⟩;refine ⟨_,(bF (bZ (hU dA (by rfl) T.b_tuple Kk (aF (fU (eC.of (psc:=bB QL) (N:=["faces"]) (N':=["face"]) (js:=[]) Kk rfl rfl rfl) (eV rfl T.b_range (aF (aG 0) aE)) (λ_ _ _ _=>eJ) (λ_ _ _ _=>aI)) aE)))),?_⟩;refine ⟨_,rfl,_,rfl,Oo,Oo,?_⟩;refine kG (λi y H'=>∃n,y=.int n/\n=0) (λ_ _ _ _ _ h=>h) Oo (λi H' Q' hi s' k'=>k' _ H' (bE.refl _) ⟨0,rfl,rfl⟩) (λD ys H1 hD e1 s1 hy hr1=>?_);obtain ⟨zs,rfl,hz⟩:=AK (P:=λ_ n=>n=0) hr1;have ez:zs=List.replicate F 0:=by
  rw [aA] at hy;exact List.eq_replicate_iff.mpr ⟨Oo,λb hb=>by obtain ⟨i,h⟩:=gA.mp hb;exact hz i b h⟩
 subst ez;refine ⟨D,_,rfl,.inl ⟨fM.of e1,λl hl=>?_⟩⟩;refine k _ _ (s1.trans (bE.upd hl)) (wE ?_);rw [bI,List.map_replicate,List.map_replicate];rfl
theorem aCn(F:iQ K "counts_behind" "counts_behind" WU f fd)(T:jS K mg c)(FQ26:eZ dG P w K mg base 1 "looks_on" ["says"] (jA K))(FQ31:eZ dG P w K mg base 2 "ones_more" ["counts"] gY):eA P w K mg base dG 3 f fd ["level","table"] (oF K):=by
 refine F.oky TM λvs H Q E h=>?_;unfold oF at h;obtain ⟨L,d,F,M,kk,best,sy,R,rfl,LS,tb,I,hk,q⟩:=h;refine ⟨rfl,λcdv A outer s hr=>?_⟩;obtain ⟨ys,hL,ry,ly⟩:=LS.len;have f1:=I.f1;have f4:=I.f4;have m5:=I.m5;have key:∀(j:Nat) (d:List Int),(∃c∈(lvl F best kk).take j,best c=0/\∃f,f<F/\d=ci (cX c f))->d∈(lvl F best (kk+1)).map ci:=λj d ⟨c,hc,h0,f,hf,e⟩=>aD.mpr ⟨cX c f,(jZ f1).mpr ⟨c,List.mem_of_mem_take hc,h0,f,hf,rfl⟩,e.symm⟩;have small:(lvl F best (kk+1)).length<=56:=by
  by_cases z:kk+1<=5
  ·exact aW (kA f1 (kk+1)).length_le (JI F f4 (kk+1) z)
  ·have e:=tX f1 I.on (kk-M);rw [show M+1+(kk-M)=kk+1 by omega] at e;rw [e];exact cM _
 refine ⟨_,(aK (bQ (i:=2) TM.nd rfl (Or.inl rfl) uI)
  (aK (gK PassesOwn.never rfl (fT (aG 0)) (dD (i:=3) TM.nd rfl (Or.inl rfl)) (bF (iO (PM (KL (eS (YH hr.u1) (aG 3) (aG 1) (by with_unfolding_all rfl)) (FJ (pO (bK FQ26 (hr.mono Dd) (aF (jV hr.u1 (aG 1) (aG 3)) aE)))))) (bF (gK PassesOwn.never rfl (fT (bK FQ31 (hr.mono Dd) (aF (aG 3) aE))) (dD (i:=4) TM.nd rfl (Or.inl rfl)) (bF (oS hr.u1 (aG 2) (aG 4) uJ)))) eK)))
  (bF (bZ (gL (AU rfl) (by rfl) T.b_sorted Kk (aF (aG 2) aE)))))),?_⟩
 intro p hp;have s1:=bE.upd (o:=.dT []) hp;have e1:(upd H p (.dT [])) p=some (.dT []):=bI;generalize upd H p (.dT [])=H1 at s1 e1 ⊢;refine ⟨_,rfl,L,rfl,⟨_,fM.of (s1 _ _ hL)⟩,?_⟩;refine mF (xs:=ys) (λj σ H'=>∃(o3 o4:Option V) (kvs:List (List dS × V)) (ks:List (List Int)),σ=[some (.ref L),some (.ref d),some (.ref p),o3,o4]/\bE H H'/\H' p=some (.dT kvs)/\kvs.map (·.1)=ks.map kT/\ks.Nodup/\∀d,d∈ks ↔ ∃c∈(lvl F best kk).take j,best c=0/\∃f,f<F/\d=ci (cX c f))
  ⟨_,_,[],[],rfl,s1,e1,rfl,List.nodup_nil,λd=>⟨(λh=>by cases h),λ⟨c,hc,_⟩=>by rw [List.take_zero] at hc;cases hc⟩⟩ (λj σ H' _ q=>?_) ?_ ?_
 ·obtain ⟨_,_,_,_,_,S',_⟩:=q;exact fM.of (S' _ _ hL)
 ·rintro j x σ H2 hx ⟨o3,o4,kvs,ks,rfl,S2,e2,hk2,nd,hm⟩;obtain ⟨cc,hc,rc⟩:=gQ ry hx;obtain ⟨ac,rfl,hac⟩:=pU rc;have hcl:=aZ hc;obtain ⟨lc,sc⟩:=hJ ((kA f1 kk).subset hcl);have hcr:cc∈rise F M:=(mD f1).mpr ⟨lc,Oo⟩;obtain ⟨tk,ht,hty⟩:=tb.same S2;obtain ⟨v,hv,sv⟩:=hty cc (I.lvl kk hcl);have step:∀d,(∃c∈(lvl F best kk).take (j+1),best c=0/\∃f,f<F/\d=ci (cX c f))↔(∃c∈(lvl F best kk).take j,best c=0/\∃f,f<F/\d=ci (cX c f))\/(best cc=0/\∃f,f<F/\d=ci (cX cc f)):=λd=>by
   rw [eW hc];constructor
   ·rintro ⟨c,hc',h⟩;rcases cT.mp hc' with h' | h'
    ·exact .inl ⟨c,h',h⟩
    ·rw [bM.mp h'] at h;exact .inr h
   ·rintro (⟨c,hc',h⟩ | h)
    ·exact ⟨c,cJ _ hc',h⟩
    ·exact ⟨cc,bL _ (bM.mpr rfl),h⟩
  refine ⟨_,rfl,_,rfl,?_⟩;refine rind (dgI (cc:=cc) ht (S2 _ _ hac)) ?_;rw [hv];refine ⟨_,rfl,?_⟩;refine CJ ?_;refine ⟨_,rfl,_,rfl,?_⟩;refine dgT ht (c:=ci cc) (by rw [gG];exact S2 _ _ hac) hv ?_;obtain ⟨hf0,hfs,epl,eon⟩:=I.hd cc (I.lvl kk hcl);rw [epl] at sv;refine oC sv ?_;refine ⟨_,rfl,?_⟩;refine CM (λon=>?_) (λon=>?_)
  ·have h0:best cc=0:=eon.mp on;refine ⟨_,rfl,?_⟩;refine nY (wE (S2 _ _ hac)) Oo λD zs H3 hD e3 r3 s3=>?_;refine ⟨D,rfl,⟨_,fM.of e3⟩,?_⟩;have lz:zs.length=F:=by rw [r3.len,aA,aA,bH];exact lc
   have nDp:D≠p:=λz=>by rw [z,e2] at hD;cases hD
   refine mF (xs:=zs) (λg σ H'=>∃(o4:Option V) (kvs:List (List dS × V)) (ks:List (List Int)),σ=[some (.ref L),some (.ref d),some (.ref p),some (.ref ac),o4]/\aR p H3 H'/\H' p=some (.dT kvs)/\kvs.map (·.1)=ks.map kT/\ks.Nodup/\∀d,d∈ks↔(∃c∈(lvl F best kk).take j,best c=0/\∃f,f<F/\d=ci (cX c f))\/∃f,f<g/\d=ci (cX cc f))
    ⟨_,kvs,ks,rfl,(bE.refl _).but,s3 _ _ e2,hk2,nd,λd=>by rw [hm];exact ⟨.inl,λh=>by rcases h with h | ⟨f,hf,_⟩;exact h;omega⟩⟩ (λg σ H' _ q=>?_) ?_ ?_
   ·obtain ⟨_,_,_,_,b',_⟩:=q;exact fM.of (b'.at nDp e3)
   ·rintro g z σ H4 hz ⟨o4',kv4,ks4,rfl,b4,e4,hk4,nd4,hm4⟩;have hg:g<F:=by have:=(aN.mp hz).1;omega
    obtain ⟨c2,hc2,rc2⟩:=gQ r3 hz;rw [aH,bP Oo] at hc2;cases hc2;have t4:eF H3 H4:=aR.tT b4 (s3 _ _ e2);obtain ⟨a2,rfl,ha2⟩:=pU (rc2.flat t4 (iV _));have lk:ks4.length<=56:=by
     have:=gZ nd4 (m:=(lvl F best (kk+1)).map ci) λd hd=>by
      rcases (hm4 d).mp hd with h | ⟨f,hf,e⟩
      ·exact key j d h
      ·exact key (j+1) d ((step d).mpr (.inr ⟨h0,f,Oo,e⟩))
     rw [aA] at this;omega
    have lkv:kv4.length=ks4.length:=by have:=congrArg List.length hk4;simpa using this
    refine ⟨_,rfl,_,rfl,?_⟩;refine dpT e4 (c:=ci (cX cc g)) (by rw [gG];exact ha2) Oo λH5 e5 b5=>?_;obtain ⟨ks2,k1,k2,k3⟩:=ND (v:=.bl true) (ci (cX cc g)) hk4 nd4;refine ⟨_,_,ks2,rfl,b4.trans b5,e5,k1,k2,λd=>?_⟩;rw [k3,hm4];constructor
    ·rintro ((h | ⟨f,hf,e⟩) | h)
     ·exact .inl h
     ·exact .inr ⟨f,Oo,e⟩
     ·exact .inr ⟨g,Oo,h⟩
    ·rintro (h | ⟨f,hf,e⟩)
     ·exact .inl (.inl h)
     ·by_cases q:f=g
      ·subst q;exact .inr e
      ·exact .inl (.inr ⟨f,Oo,e⟩)
   ·rintro σ H4 ⟨o4',kv4,ks4,rfl,b4,e4,hk4,nd4,hm4⟩;refine ⟨_,_,kv4,ks4,rfl,bE.thru hp (S2.trans s3) b4,e4,hk4,nd4,λd=>?_⟩;rw [hm4,step,lz];constructor
    ·rintro (h | h)
     ·exact .inl h
     ·exact .inr ⟨h0,h⟩
    ·rintro (h | h)
     ·exact .inl h
     ·exact .inr h.2
  ·have h0:¬best cc=0:=λz=>on (eon.mpr z);refine ⟨_,_,kvs,ks,rfl,S2,e2,hk2,nd,λd=>?_⟩;rw [hm,step];exact ⟨.inl,λh=>by rcases h with h | h;exact h;exact absurd h.1 h0⟩
 ·rintro σ H2 ⟨o3,o4,kvs,ks,rfl,S2,e2,hk2,nd,hm⟩;rw [ly,cP] at hm;have hmem:∀d,d∈ks↔d∈(lvl F best (kk+1)).map ci:=λd=>by
   rw [hm,aD];constructor
   ·rintro ⟨c,hc,h0,f,hf,e⟩;exact ⟨cX c f,(jZ f1).mpr ⟨c,hc,h0,f,hf,rfl⟩,e.symm⟩
   ·rintro ⟨d',hd',rfl⟩;obtain ⟨c,hc,h0,f,hf,rfl⟩:=(jZ f1).mp hd';exact ⟨c,hc,h0,f,hf,rfl⟩
  have lk:ks.length<=56:=by
   have:=gZ nd (m:=(lvl F best (kk+1)).map ci) λd hd=>(hmem d).mp hd;rw [aA] at this;omega
  refine ⟨_,rfl,?_⟩;refine rsrd (cs:=ks) e2 hk2 (λc hc=>?_) Oo λq8 ys8 ds H8 pm pw hq8 e8 r8 s8=>?_
  ·obtain ⟨d,hd,rfl⟩:=aD.mp ((hmem c).mp hc);obtain ⟨l1,_⟩:=hJ ((kA f1 (kk+1)).subset hd);intro z;have e:(ci d).length=d.length:=by unfold ci;rw [aA]
   rw [z,List.length_nil] at e;omega
  have slex:((lvl F best (kk+1)).map ci).Pairwise λa b=>kN a b=true:=by
   by_cases z:kk+1<=5
   ·exact (TC F f4 (kk+1) z).sublist ((kA f1 (kk+1)).map ci)
   ·have e:=tX f1 I.on (kk-M);rw [show M+1+(kk-M)=kk+1 by omega] at e;rw [e];exact List.Pairwise.nil
  have eds:ds=(lvl F best (kk+1)).map ci:=vL pw slex λd=>by rw [pm.mem_iff];exact hmem d
  rw [eds,List.map_map,show (lvl F best (kk+1)).map ((λc:List Int=>PyData.tuple (c.map .int)) ∘ ci)=(lvl F best (kk+1)).map iC from dR λc _=>ctI c] at r8;exact q q8 H8 (S2.trans s8) (S2.free hq8) ⟨ys8,e8,r8⟩
theorem aCm(F:iQ K "counts_come_to" "counts_come_to" WT f fd)(T:jS K mg c)(FQ29:eZ dG P w K mg base 1 "noughts" ["faces"] iZ)(FQ20:eZ dG P w K mg base 3 "counts_behind" ["level","table"] (oF K)):eA P w K mg base dG 4 f fd ["faces","table"] (oE K):=by
 refine F.oky TL λvs H Q E h=>?_;unfold oE at h;obtain ⟨d,F,M,best,sy,R,rfl,tb,I,q⟩:=h;refine ⟨rfl,λcdv A outer s hr=>?_⟩;have f1:=I.f1;have f4:=I.f4;have m5:=I.m5;refine ⟨_,(aK (bQ (i:=2) TL.nd rfl (Or.inl rfl) (eB aE))
  (aK (bQ (i:=3) TL.nd rfl (Or.inl rfl) (eB (aF (bK FQ29 (hr.mono Dd) (aF (aG 0) aE)) aE)))
  (aK (pY PassesOwn.never (eS xO (gL lJ (by rfl) T.b_len Kk (aF (aG 3) aE)) aI (nomark _)) (aK (kU (qA PySem.F.plainAttrs_list PySem.F.slot_list_extend PySem.F.type_list_extend MW (aG 2) (aF (aG 3) aE)))
  (bF (bQ (i:=3) TL.nd rfl (Or.inl rfl) (bK FQ20 (hr.mono Dd) (aF (aG 3) (aF (aG 1) aE)))))))
  (bF (bZ (aG 2)))))),?_⟩
 refine qU (by show 0<=64;decide) λfo H1 hfo e1 s1=>?_;refine ⟨_,rfl,?_⟩;refine qM Oo λv H2 s2 r2=>?_;refine qU (by show 1<=64;decide) λle H3 hle e3 s3=>?_;have s13:=(s1.trans s2).trans s3;have nle:le≠fo:=λz=>by subst z;rw [s2 _ _ e1] at hle;cases hle
 have small:∀i,i<=M+1->((List.range i).flatMap (lvl F best)).length<=400:=λi hi=>aW (vX (kA f1) (List.range i)).length_le (JV F f4 i Oo);refine tO (λm σ H'=>∃(le:Addr) (vs:List V) (j:Nat),σ=[some (.int (F:Int)),some (.ref d),some (.ref fo),some (.ref le)]/\bE H H'/\H' fo=some (.lst vs)/\bD H' (((List.range j).flatMap (lvl F best)).map iC) vs/\tN H' le (lvl F best j)/\le≠fo/\j<=M+1/\m=M+1-j)
  (λσ H'=>∃(le:Addr) (vs:List V),σ=[some (.int (F:Int)),some (.ref d),some (.ref fo),some (.ref le)]/\bE H H'/\H' fo=some (.lst vs)/\bD H' ((qQ F M best).map iC) vs)
  _ ⟨le,[],0,rfl,s13,s3 _ _ (s2 _ _ e1),bD.nil,⟨_,e3,bD.cons (r2.same s3) bD.nil⟩,nle,cM _,rfl⟩ ?_ ?_
 ·clear e1 s1 s2 s3 s13 e3 hle nle r2;rintro m σ H1 ⟨le,vs,j,rfl,S1,e1,r1,L1,nle,hj,rfl⟩;obtain ⟨ws,e2,r2,lw⟩:=L1.len;have lv:vs.length=((List.range j).flatMap (lvl F best)).length:=gP r1;have sj:=small j hj;refine ⟨_,rfl,?_⟩;refine rlL e2 ?_;refine ⟨_,_,rfl,rfl,_,rfl,?_⟩;by_cases hz:lvl F best j=[]
  ·have w0:ws.length=0:=by rw [lw,hz];rfl
   refine pM (cI Oo) ⟨le,vs,rfl,S1,e1,?_⟩;have:=xV f1 hz (M+1-j);rw [show j+(M+1-j)=M+1 by omega] at this;unfold qQ;rw [this];exact r1
  ·have l0:0<(lvl F best j).length:=List.length_pos_iff.mpr hz;have hjM:j<=M:=cB λz=>hz (by
    have:=tX f1 I.on (j-(M+1))
    rwa [show M+1+(j-(M+1))=j by omega] at this)
   refine GN (cV Oo) ?_;have sj2:=small (j+1) Oo;rw [sL,aX] at sj2;refine ⟨_,rfl,PZ e1,_,rfl,?_⟩;refine aA4 e1 e2 Oo λH2 e3 b3=>?_;have t3:=b3.t e1;have S2:bE H H2:=bE.thru hfo S1 b3;refine ⟨_,rfl,_,rfl,?_⟩;refine EE (L1.butL b3 e1 nle) (tb.same S2) I hjM λD H3 s3 hD L3=>?_;have nD:D≠fo:=λz=>by subst z;rw [e3] at hD;cases hD
   refine ⟨_,Oo,D,vs++ws,j+1,rfl,S2.trans s3,s3 _ _ e3,?_,L3,nD,Oo,rfl⟩;rw [sL,bO];exact bD.app ((r1.flat t3 (uA _)).same s3) ((r2.flat t3 (uA _)).same s3)
 ·rintro σ H1 ⟨le,vs,rfl,S1,e1,r1⟩;exact ⟨_,rfl,q fo H1 S1 hfo ⟨vs,e1,r1⟩⟩
theorem aB5(F:iQ K "rule_within" "rule_within" QH f fd)(T:jS K mg c)(FQ21:eZ dG P w K mg base 4 "counts_come_to" ["faces","table"] (oE K)):eA P w K mg base dG 5 f fd ["faces","table"] (nQ K):=by
 refine F.oky aCO λvs H Q E h=>?_;unfold nQ at h;obtain ⟨d,F,M,best,sy,R,rfl,tb,I,q⟩:=h;refine ⟨rfl,λcdv A outer s hr=>?_⟩;have f1:=I.f1;refine ⟨_,(bF (bZ (hU dA (by rfl) T.b_tuple Kk (aF (fU (eC.of (psc:=bB QH) (N:=["faces","table"]) (N':=["counts","table"]) (js:=[1]) Kk rfl rfl rfl) (fT (bK FQ21 (hr.mono Dd) (aF (aG 0) (aF (aG 1) aE)))) (λ_ _ _ _=>eJ) (λ_ _ _ _=>(cY (aF (aG 0) (aF (jV hr.u1 (aG 1) (aG 0)) aE))))) aE)))),?_⟩;refine ⟨_,rfl,_,rfl,?_⟩;refine ED tb I λD H1 s1 hD L1=>?_;obtain ⟨zs,e1,r1,lz⟩:=L1.len;have lr:(qQ F M best).length<=400:=aW (mO f1).length_le I.r;refine ⟨D,rfl,⟨_,fM.of e1⟩,?_⟩;refine sP (λi y H'=>∃e,(OW F M best sy)[i]?=some e/\EnW K H' e y) (λi y Ha Hb s ⟨e,h1,h2⟩=>⟨e,h1,h2.t s⟩) Oo e1 (λi x H' Q' hx s' k'=>?_) (λD2 ys H2 hD2 e2 s2 hy hr2=>?_)
 ·obtain ⟨cc,hc,rx⟩:=gQ r1 hx;obtain ⟨b,rfl,hb⟩:=pU (rx.same s');obtain ⟨kvs,t1,t2⟩:=tb;obtain ⟨v,ev,sv⟩:=t2 cc (I.ruC (aZ hc));refine ⟨_,rfl,_,rfl,_,rfl,?_⟩;refine dgT (s' _ _ (s1 _ _ t1)) (c:=ci cc) (by rw [gG];exact hb) ev ?_;refine mC (by show 2<=64;decide) λq3 H3 hq3 e3 s3=>?_;exact k' _ H3 s3 ⟨(cc,sy cc),by unfold OW;rw [aH,hc];rfl,q3,b,v,rfl,e3,s3 _ _ hb,sv.t ((s1.trans s').trans s3).t⟩
 ·refine ⟨D2,ys,rfl,.inl ⟨fM.of e2,λl hl=>?_⟩⟩;have sl:=bE.upd (o:=.tup ys) hl;refine q _ _ ((s1.trans s2).trans sl) ⟨l,ys,rfl,bI,by unfold OW;rw [aA];omega,λi y hi=>?_⟩;obtain ⟨e,h1,h2⟩:=hr2 i y hi;exact ⟨e,h1,h2.t sl.t⟩
end
abbrev WK:Stmt:=(top 29)
theorem aCP:bT ["rule"] ["rule"] (bB WK):=⟨rfl,rfl,rfl,Kk,rfl,Kk,Kk⟩
abbrev QP:Stmt:=(top 31)
theorem JT:bT ["rule","amount_of","counts","says","onward","more"] ["rule"] (bB QP):=⟨rfl,rfl,rfl,Kk,rfl,Kk,Kk⟩
structure KG(n:Nat)(fs:List Fr):Prop where
 len:fs.length=n
 at_:∀f∈fs,dL f/\0<=f.1/\jQ 3000 f
 one:qF (fs.map rv)=1
structure fY(F W M N B Ns:Nat)(es:List bN):Prop where
 rl:nJ F es
 sum:∀e∈es,e.1.sum<=M
 sy:∀e∈es,KG (1+W) e.2
 few:es.length<=64
 on:∀e∈es,s0 e≠0->e.1.sum<M
 fl:∀e∈es,Qn N B (aS F es e.1)
 fs:∀e∈es,∀v,Qn N B (aS F es e.1*gI e.2 v)
 n0:0<N
 s1:0<Ns
 z:N*Ns^M<2^2000
 b:B<=2^100
 m:M<=6
theorem KG.hd{n:Nat}{fs:List Fr}(h:KG (1+n) fs):∃f r,fs=f::r/\dL f/\jQ 3000 f/\0<=f.1/\gI fs 0=rv f/\(0<f.1↔gI fs 0≠0):=by
 cases fs with
 | nil=>have:=h.len;simp at this;omega
 | cons f r =>
  obtain ⟨h1,h2,h2z⟩:=h.at_ f (aL ..);refine ⟨f,r,rfl,h1,h2z,h2,rfl,?_⟩;have e:gI (f::r) 0=rv f:=rfl;rw [e];constructor
  ·intro hp q;have:=fE h1 NA (by rw [q,jX]);rw [this] at hp;exact absurd hp Dd
  ·intro q;refine cB λz=>q ?_;have z1:f.1=0:=Oo;have e2:=jU h1.pos;rw [z1] at e2;have h3:=iI h1.pos;have:rv f=0:=by grind
   exact this
theorem KG.nn{n:Nat}{fs:List Fr}(h:KG n fs)(v:Nat):0<=gI fs v:=by
 by_cases hv:v<fs.length
 ·have:=h.at_ _ (sJ (a:=(0,1)) hv);exact UT this.1 this.2.1
 ·rw [yV Oo];exact Rat.le_refl
structure DQ(K:PySem.W.Frag)(H:Hp)(kvs:List (List dS × V))(g:List Nat->Rat):Prop where
 at_:∀d:List Nat,(eN kvs (kT (ci d))=none/\g d=0)\/∃v,eN kvs (kT (ci d))=some v/\nE K H (cO (g d)) v
theorem rA:cO 0=(0,1):=fE (bG _) NA (by rw [cQ,jX])
theorem tY:cO 1=(1,1):=fE (bG _) NB (by rw [cQ,EJ])
theorem DQ.t{K:PySem.W.Frag}{H H':Hp}{kvs:List (List dS × V)}{g:List Nat->Rat}(s:eF H H')(h:DQ K H kvs g):DQ K H' kvs g:=⟨λd=>by
 rcases h.at_ d with h | ⟨v,h1,h2⟩
 ·exact .inl h
 ·exact .inr ⟨v,h1,h2.t s⟩⟩
theorem DQ.eq{K:PySem.W.Frag}{H:Hp}{kvs:List (List dS × V)}{g g':List Nat->Rat}(h:DQ K H kvs g)(e:∀d,g' d=g d):DQ K H kvs g':=by
 have:g'=g:=funext e;rw [this];exact h
theorem DQ.get{K:PySem.W.Frag}{H:Hp}{kvs:List (List dS × V)}{g:List Nat->Rat}(h:DQ K H kvs g)(d:List Nat){z:V}(hz:fS K H (0,1) z):fS K H (cO (g d)) ((eN kvs (kT (ci d))).getD z):=by
 rcases h.at_ d with ⟨h1,h2⟩ | ⟨v,h1,h2⟩
 ·rw [h1,h2,rA];exact hz
 ·rw [h1];exact h2.v
theorem DQ.val{K:PySem.W.Frag}{H:Hp}{kvs:List (List dS × V)}{g:List Nat->Rat}(h:DQ K H kvs g){d:List Nat}(hd:g d≠0):∃v,eN kvs (kT (ci d))=some v/\nE K H (cO (g d)) v:=by
 rcases h.at_ d with ⟨_,h2⟩ | h
 ·exact absurd h2 hd
 ·exact h
theorem DQ.put{K:PySem.W.Frag}{H:Hp}{kvs:List (List dS × V)}{g:List Nat->Rat}(h:DQ K H kvs g){c:List Nat}{v:V}{y:Rat}(r:nE K H (cO (g c+y)) v):DQ K H (iG kvs (kT (ci c)) v) λd=>g d+if c=d then y else 0:=⟨λd=>by
 rw [uK];by_cases e:c=d
 ·subst e;rw [if_pos rfl,if_pos rfl];exact .inr ⟨v,rfl,r⟩
 ·rw [if_neg λq=>e (lK (lH q)).symm,if_neg e,show g d+0=g d by grind];exact h.at_ d⟩
theorem fV{N C:Nat}{q:Rat}(h:Qn N C q)(h0:0<N)(hN:N<2^2500)(hC:C<=2^200):jQ 4000 (cO q):=lL h.fq h0 (aV hN (aO Dd Dd)) (aW hC (aO Dd Dd))
theorem jQ.up{j k:Nat}{f:Fr}(h:jQ j f)(hk:j<=k):jQ k f:=⟨aV h.1 (aO Dd hk),aV h.2 (aO Dd hk)⟩
section
variable{F W M N B Ns:Nat}{es:List bN}{s:List Fr}
theorem fY.nz(R:fY F W M N B Ns es):N<2^2500:=by
 have h1:0<Ns^M:=Nat.pow_pos R.s1;have h2:N*1<=N*Ns^M:=dQ _ h1;rw [Nat.mul_one] at h2;exact aQ h2 (aV R.z (aO Dd Dd))
theorem fY.pz(R:fY F W M N B Ns es):0<N*Ns^M/\N*Ns^M<2^2500:=⟨kR R.n0 (Nat.pow_pos R.s1),aV R.z (aO Dd Dd)⟩
theorem fY.b2(R:fY F W M N B Ns es):B<=2^200:=aW R.b (aO Dd Dd)
theorem fY.part(R:fY F W M N B Ns es)(f4:F<=4):∀i,i<=es.length->∀d,Qn N (1+4*B*i) (aS F (es.take i) d)
 | 0,_,d=>by
  rw [List.take_zero,kF,Nat.mul_zero,Nat.add_zero];split
  ·exact Qn.one' _
  ·exact Qn.zero _ _
 | i+1,hi,d=>by
  have he:=aC (show i<es.length by omega);rw [eW he,gS,R.rl.at he];have hem:=aZ he;have h1:=R.part f4 i Oo d;have h3:Qn 1 4 (gE F es[i].1 d):=by
   have:=Qn.sumR (N:=1) (B:=1) (n:=F) (f:=λf=>if cX es[i].1 f=d then 1 else 0) λf _=>by
    split
    ·exact Qn.one' _
    ·exact Qn.zero _ _
   exact this.le Oo
  have h4:=(show Qn N B (aS F es es[i].1*s0 es[i]) from R.fs _ hem 0).mul h3;rw [Nat.mul_one] at h4;refine (h1.add h4).le ?_;rw [Nat.mul_add,Nat.mul_one,Nat.mul_comm B 4];omega
theorem fY.bg(R:fY F W M N B Ns es){i:Nat}(hi:i<=64):1+4*B*i+B*4<=2^200:=by
 have h1:=Nat.mul_le_mul (dQ 4 R.b) hi;have h2:=cC 4 R.b;have h3:1+4*2^100*64+2^100*4<=2^200:=Kk;omega
end
@[irreducible] def gF(K:PySem.W.Frag):Sp:=λvs H Q _=>∃(x:V) (e:bN) (es:List bN),vs=[x]/\kH K H (e::es) x/\Q (.int (e.1.length:Nat)) H
theorem nG{K:PySem.W.Frag}{H:Hp}{Q:VK}{E:XK}{x:V}{e:bN}{es:List bN}(h1:kH K H (e::es) x)(k:Q (.int (e.1.length:Nat)) H):gF K [x] H Q E:=by
 unfold gF;exact ⟨x,e,es,rfl,h1,k⟩
@[irreducible] def iM(K:PySem.W.Frag):Sp:=λvs H Q _=>∃(x:V) (es:List bN) (F W M N B Ns:Nat),vs=[x]/\kH K H es x/\fY F W M N B Ns es/\1<=F/\F<=4/\∀a ys H',bE H H'->H' a=some (.tup ys)->ys.length=es.length->(∀(i:Nat) (e:bN),es[i]?=some e->∃b cu va,ys[i]?=some (.ref b)/\H' b=some (.tup [.ref cu,va])/\H' cu=some (.tup (e.1.map EX))/\nE K H' (cO (aS F es e.1)) va)->Q (.ref a) H'
theorem iS{K:PySem.W.Frag}{H:Hp}{Q:VK}{E:XK}{x:V}{es:List bN}{F W M N B Ns:Nat}(h1:kH K H es x)(h2:fY F W M N B Ns es)(h3:1<=F)(h4:F<=4)(k:∀a ys H',bE H H'->H' a=some (.tup ys)->ys.length=es.length->(∀(i:Nat) (e:bN),es[i]?=some e->∃b cu va,ys[i]?=some (.ref b)/\H' b=some (.tup [.ref cu,va])/\H' cu=some (.tup (e.1.map EX))/\nE K H' (cO (aS F es e.1)) va)->Q (.ref a) H'):iM K [x] H Q E:=by
 unfold iM;exact ⟨x,es,F,W,M,N,B,Ns,rfl,h1,h2,h3,h4,k⟩
section
theorem aB6(F:iQ K "rule_faces" "rule_faces" WK f fd)(T:jS K mg c):eA P w K mg base dG 1 f fd ["rule"] (gF K):=by
 refine F.oky aCP λvs H Q E h=>?_;unfold gF at h;obtain ⟨x,e,es,rfl,rx,k⟩:=h;refine ⟨rfl,λcdv A outer s hr=>?_⟩;obtain ⟨a,xs,rfl,ha,lx,rxs⟩:=rx;have hy:xs[0]?=some (xs[0]'(by rw [lx];exact Nat.succ_pos _)):=aC _;obtain ⟨e',he',b,cu,z,eb,hb,hcu,_⟩:=rxs 0 _ hy;cases (show e=e' by simpa using he');rw [eb] at hy;refine ⟨_,(bF (bZ (gL lJ (by rfl) T.b_len Kk (aF (bV bR (bV bR (aG 0) aI (λ_ _=>rfl)) aI (λ_ _=>rfl)) aE)))),?_⟩;refine ⟨_,rfl,?_⟩;refine pE ha (eI (j:=0) hy) ?_;refine pE hb rfl ?_;refine rlT hcu ?_;rw [aA];exact k
theorem aCr(F:iQ K "amounts" "amounts" QP f fd)(T:jS K mg c)(FQ29:eZ dG P w K mg base 1 "noughts" ["faces"] iZ)(FQ37:eZ dG P w K mg base 1 "rule_faces" ["rule"] (gF K))
  (FQ26:eZ dG P w K mg base 1 "looks_on" ["says"] (jA K)) (FQ43:eZ dG P w K mg base 2 "times" ["one","other"] (fP K)) (FQ31:eZ dG P w K mg base 2 "ones_more" ["counts"] gY) (FQ35:eZ dG P w K mg base 2 "plus" ["one","other"] (lA K)):eA P w K mg base dG 3 f fd ["rule"] (iM K):=by
 refine F.oky JT λvs H Q E h=>?_;unfold iM at h;obtain ⟨x,es,F,W,M,N,B,Ns,rfl,rx,RO,f1,f4,k⟩:=h;refine ⟨rfl,λcdv A outer s hr=>?_⟩;obtain ⟨a,xs,rfl,ha,lx,rxs⟩:=id rx;have RL:=RO.rl;have few:=RO.few;obtain ⟨e0,er,ees,ez0⟩:=RL.root;refine ⟨_,(aK (bQ (i:=1) JT.nd rfl (Or.inr rfl) (KQ hr.u1 (bK FQ29 (hr.mono Dd) (aF (bK FQ37 (hr.mono Dd) (aF (aG 0) aE)) aE)) (kY (v:=.ref c.ONE) rfl T.g_ONE rfl)))
  (aK (gK PassesOwn.never rfl (rM (aG 0)) (lC rfl (dM (dD (i:=2) JT.nd rfl (Or.inl rfl)) (dM (dD (i:=3) JT.nd rfl (Or.inl rfl)) jF))) (bF (iO (pO (bK FQ26 (hr.mono Dd) (aF (aG 3) aE))) (aK (bQ (i:=4) JT.nd rfl (Or.inl rfl) (bK FQ43 (hr.mono Dd) (aF (jV hr.u1 (aG 1) (aG 2)) (aF (bV bR (aG 3) aI (λ_ _=>rfl)) aE))))
  (bF (gK PassesOwn.never rfl (fT (bK FQ31 (hr.mono Dd) (aF (aG 2) aE))) (dD (i:=5) JT.nd rfl (Or.inl rfl)) (bF (oS hr.u1 (aG 1) (aG 5) (bK FQ35 (hr.mono Dd) (aF (yT hr.u1 (aG 1) (aG 5) (kY (v:=.ref c.NOUGHT) rfl T.g_NOUGHT rfl)) (aF (aG 4) aE)))))))) eK)))
  (bF (bZ (hU dA (by rfl) T.b_tuple Kk (aF (fU (eC.of (psc:=bB QP) (N:=["rule","amount_of","counts","says","onward","more"]) (N':=["entry","amount_of"]) (js:=[1]) Kk rfl rfl rfl) (rM (aG 0)) (λ_ _ _ _=>eJ) (λ_ _ _ _=>(cY (aF (bV (jI K) (aG 0) aI (λ_ _=>rfl)) (aF (jV hr.u1 (aG 1) (bV (jI K) (aG 0) aI (λ_ _=>rfl))) aE))))) aE)))))),?_⟩
 intro p hp;have s0':=bE.upd (o:=.dT []) hp;have e0p:(upd H p (.dT [])) p=some (.dT []):=bI;generalize upd H p (.dT [])=H0 at s0' e0p;refine ⟨_,rfl,?_⟩;refine nG (e:=e0) (es:=er) (by rw [<-ees];exact rx.t s0'.t) ?_;rw [ez0,bU];refine qM (F:=F) Oo λv1 H1 s1 r1=>?_;obtain ⟨cz,rfl,hcz⟩:=pU r1;refine aBR (c:=ci (List.replicate F 0)) (by rw [gG];exact hcz) (s1 _ _ e0p) λH2 e2 b2=>?_;have S2:bE H H2:=bE.thru hp (s0'.trans s1) b2;have D2:DQ K H2 [(kT (ci (List.replicate F 0)),V.ref c.ONE)] (aS F (es.take 0)):=⟨λd=>by
  rw [List.take_zero,kF];by_cases q:d=List.replicate F 0
  ·subst q;rw [if_pos rfl];exact .inr ⟨_,by simp [eN],.inr ⟨c.ONE,rfl,by rw [tY];exact T.o_ONE⟩⟩
  ·rw [if_neg q];refine .inl ⟨?_,rfl⟩;have:¬kT (ci d)=kT (ci (List.replicate F 0)):=λz=>q (lK (lH z));have e:=uK (κ:=List dS) [] (kT (ci (List.replicate F 0))) (kT (ci d)) (V.ref c.ONE);rw [if_neg this] at e;exact e⟩
 clear b2 s0' e0p r1 hcz s1;refine ⟨_,rfl,a,rfl,⟨_,fF.of (S2 _ _ ha)⟩,?_⟩;refine AO (xs:=xs) (λi σ H'=>∃(o2 o3 o4 o5:Option V) (kvs:List (List dS × V)),σ=[some (.ref a),some (.ref p),o2,o3,o4,o5]/\bE H H'/\H' p=some (.dT kvs)/\kvs.length<=1+4*i/\DQ K H' kvs (aS F (es.take i))) ⟨_,_,_,_,_,rfl,S2,e2,by simp,D2⟩ (λi σ H' _ q=>?_) ?_ ?_
 ·obtain ⟨_,_,_,_,_,_,s',_⟩:=q;exact fF.of (s' _ _ ha)
 ·rintro i x σ H3 hx ⟨o2,o3,o4,o5,kvs,rfl,S3,e3,l3,D3⟩;obtain ⟨e,he,re⟩:=rxs i x hx;have hi:i<es.length:=(aN.mp he).1;have hee:=aZ he;have hkey:e.1∈es.map (·.1):=aD.mpr ⟨e,hee,rfl⟩;have hel:=RL.len e hee;have fat:=RL.at he;have fpos:=RL.posf hee;obtain ⟨f0,fr,ef,l0,z0,nn0,v0,on0⟩:=(RO.sy e hee).hd;have es0:s0 e=rv f0:=v0;obtain ⟨b,cu,z,rfl,hb,hcu,rz⟩:=re.t S3.t;refine ⟨b,[.ref cu,z],rfl,fF.of hb,rfl,.ref cu,[z],rfl,z,[],rfl,rfl,?_⟩;refine ⟨_,rfl,?_⟩;refine oC (f:=f0) (fs:=fr) (by rw [<-ef];exact rz) ?_;refine ⟨_,rfl,?_⟩;refine CM (λon=>?_) (λon=>?_)
  ·have sne:s0 e≠0:=on0.mp on;obtain ⟨va,hva,fva⟩:=D3.val (d:=e.1) (by rw [fat];grind);rw [fat] at fva;refine ⟨_,rfl,_,rfl,?_⟩;refine dgT e3 (c:=ci e.1) (by rw [gG];exact hcu) hva ?_;obtain ⟨av,vs,rfl,hav,rvs⟩:=rz;rw [ef] at rvs;obtain ⟨y0,hy0,ry0⟩:=rvs.get (i:=0) rfl;refine ⟨_,rfl,?_⟩;refine pE hav (eI (j:=0) hy0) ?_;refine fJ fva.v ry0.v (bG _) l0 (fV (RO.fl e hee) RO.n0 RO.nz RO.b2) (z0.up Dd) λq4 H4 hq4 e4 s4=>?_;have em:jB (cO (aS F es e.1)) f0=cO (aS F es e.1*s0 e):=fE (iH (bG _) l0) (bG _) (by rw [lE (bG _).pos l0.pos,cQ,cQ,es0]);rw [em] at e4;have qy:Qn N B (aS F es e.1*s0 e):=RO.fs e hee 0;refine ⟨_,rfl,?_⟩;refine nY (wE (s4 _ _ hcu)) Oo λL ys H5 hL e5 ry5 s5=>?_;have S5:=(S3.trans s4).trans s5;have ly:ys.length=F:=by rw [ry5.len,aA,aA,bH,hel]
   have frv5:cA H5 (fB (cO (aS F es e.1*s0 e))) (.ref q4):=dB (s5 _ _ e4);have e5p:H5 p=some (.dT kvs):=s5 _ _ (s4 _ _ e3);have nLp:L≠p:=λz=>by rw [z,s4 _ _ e3] at hL;cases hL
   refine ⟨L,rfl,⟨_,fM.of e5⟩,?_⟩;refine mF (xs:=ys) (λj σ H'=>∃(o5:Option V) (kvs:List (List dS × V)),σ=[some (.ref a),some (.ref p),some (.ref cu),some (.ref av),some (.ref q4),o5]/\aR p H5 H'/\H' p=some (.dT kvs)/\kvs.length<=1+4*i+j/\DQ K H' kvs λd=>aS F (es.take i) d+aS F es e.1*s0 e*gH j λf=>if cX e.1 f=d then 1 else 0)
    ⟨_,kvs,rfl,(bE.refl _).but,e5p,Oo,(D3.t (s4.trans s5).t).eq λd=>by rw [gX];grind⟩ (λj σ H' _ q=>?_) ?_ ?_
   ·obtain ⟨_,_,_,b',_⟩:=q;exact fM.of (b'.at nLp e5)
   ·rintro j y σ H6 hy ⟨o5',kv6,rfl,b6,e6,l6,D6⟩;have hj:j<F:=by rw [<-ly];exact (aN.mp hy).1
    obtain ⟨m,hm,rm⟩:=gQ ry5 hy;have em:m=cX e.1 j:=by
     rw [aH,bP Oo] at hm;simpa using hm.symm
    have msum:m.sum=e.1.sum+1:=by rw [em];exact jO Oo
    have mks:m∈es.map (·.1):=by rw [em];exact RL.fwd e hee sne j hj
    have mM:m.sum<=M:=by obtain ⟨e',he',rfl⟩:=aD.mp mks;exact RO.sum e' he'
    obtain ⟨cm,rfl,hcm⟩:=pU rm;have t6:eF H5 H6:=aR.tT b6 e5p;have hcm6:=t6 _ _ hcm;have hnz:fS K H6 (0,1) (.ref c.NOUGHT):=⟨c.NOUGHT,rfl,lS T.o_NOUGHT⟩;have hg:=D6.get m hnz;have qX:Qn N (1+4*B*i+B*4) (aS F (es.take i) m+aS F es e.1*s0 e*gH j λf=>if cX e.1 f=m then 1 else 0):=by
     have h3:Qn 1 4 (gH j λf=>if cX e.1 f=m then 1 else 0):=by
      have:=Qn.sumR (N:=1) (B:=1) (n:=j) (f:=λf=>if cX e.1 f=m then 1 else 0) λf _=>by
       split
       ·exact Qn.one' _
       ·exact Qn.zero _ _
      exact this.le Oo
     have h4:=qy.mul h3;rw [Nat.mul_one] at h4;exact (RO.part f4 i Oo m).add h4
    generalize hX:aS F (es.take i) m+aS F es e.1*s0 e*(gH j λf=>if cX e.1 f=m then 1 else 0)=Xm at qX hg;refine ⟨_,rfl,p,rfl,.inr ⟨kv6,.inl e6⟩,_,rfl,_,jP.ct (c:=ci m) e6 (by rw [gG];exact hcm6),?_⟩;refine ⟨_,rfl,?_⟩;refine lU hg (fS.of (frv5.flat t6 (dN _))) (bG _) (bG _) (fV qX RO.n0 RO.nz (RO.bg Oo)) (fV qy RO.n0 RO.nz RO.b2) λq7 H7 hq7 e7 s7=>?_;have ea:nA (cO Xm) (cO (aS F es e.1*s0 e))=cO (Xm+aS F es e.1*s0 e):=fE (rK (bG _) (bG _)) (bG _) (by rw [vA (bG _).pos (bG _).pos,cQ,cQ,cQ]);rw [ea] at e7;refine ⟨_,rfl,_,rfl,?_⟩;have e7p:=s7 _ _ e6;refine dpT e7p (c:=ci m) (by rw [gG];exact s7 _ _ hcm6) Oo λH8 e8 b8=>?_;have t8:eF H7 H8:=aR.tT b8 e7p;refine ⟨_,_,rfl,(b6.trans s7.but).trans b8,e8,?_,?_⟩
    ·have:=gR kv6 (kT (ci m)) (V.ref q7);omega
    ·have D7:=D6.t s7.t;have D8:=(D7.put (c:=m) (v:=.ref q7) (y:=aS F es e.1*s0 e) (by rw [hX];exact .inl (dB e7))).t t8;refine D8.eq λd=>?_;rw [eL,<-em];by_cases q:m=d
     ·rw [if_pos q,if_pos q];grind
     ·rw [if_neg q,if_neg q];grind
   ·rintro σ H6 ⟨o5',kv6,rfl,b6,e6,l6,D6⟩;rw [ly] at l6 D6;refine ⟨_,_,_,_,kv6,rfl,bE.thru hp S5 b6,e6,Oo,D6.eq λd=>?_⟩;rw [eW he,gS,fat];rfl
  ·have z0:s0 e=0:=cB λq=>on (on0.mpr q);refine ⟨_,_,_,_,kvs,rfl,S3,e3,Oo,D3.eq λd=>?_⟩;rw [eW he,gS,z0];grind
 ·rintro σ H3 ⟨o2,o3,o4,o5,kvs,rfl,S3,e3,l3,D3⟩;rw [lx,cP] at D3;refine ⟨_,rfl,a,rfl,⟨_,fF.of (S3 _ _ ha)⟩,?_⟩;refine xY (λi y H'=>∃(e:bN) (b cu:Addr) (va:V),es[i]?=some e/\y=.ref b/\H' b=some (.tup [.ref cu,va])/\H' cu=some (.tup (e.1.map EX))/\nE K H' (cO (aS F es e.1)) va) (λi y H1 H2 s ⟨e,b,cu,va,h1,h2,h3,h5,h4⟩=>⟨e,b,cu,va,h1,h2,s _ _ h3,s _ _ h5,h4.t s⟩) Oo (S3 _ _ ha) (λi x H' Q' hx s' k'=>?_) (λD ys H8 hD hD8 s8 hy8 hr8=>?_)
  ·obtain ⟨e,he,re⟩:=rxs i x hx;have hee:=aZ he;obtain ⟨b,cu,z,rfl,hb,hcu,rz⟩:=re.t (S3.trans s').t;obtain ⟨va,hva,fva⟩:=D3.val (d:=e.1) (by have:=RL.posf hee;grind);refine ⟨_,rfl,?_⟩;refine pE hb rfl ?_;refine ⟨_,rfl,_,rfl,?_⟩;refine pE hb rfl ?_;refine dgT (s' _ _ e3) (c:=ci e.1) (by rw [gG];exact hcu) hva ?_;refine mC (by show 2<=64;decide) λq5 H5 hq5 e5 s5=>?_;exact k' _ H5 s5 ⟨e,q5,cu,va,he,rfl,e5,s5 _ _ hcu,(fva.same s').same s5⟩
  ·refine ⟨D,ys,rfl,.inl ⟨fM.of hD8,λl hl=>?_⟩⟩;have sl:=bE.upd (o:=.tup ys) hl;have el:(upd H8 l (.tup ys)) l=some (.tup ys):=bI;generalize upd H8 l (.tup ys)=H9 at sl el;refine k l ys H9 ((S3.trans s8).trans sl) el Oo λi e hi=>?_;obtain ⟨y,hy⟩:∃y,ys[i]?=some y:=⟨_,aC (by have:=(aN.mp hi).1;omega)⟩;obtain ⟨e',b,cu,va,h1,rfl,h3,h5,h4⟩:=hr8 i y hy;rw [hi] at h1;cases h1;exact ⟨b,cu,va,hy,sl _ _ h3,sl _ _ h5,h4.same sl⟩
end
abbrev WW:Stmt:=(top 37)
theorem TN:bT ["trial","rule","way","found","entry","amount"] ["trial","rule","way"] (bB WW):=⟨rfl,rfl,rfl,Kk,rfl,Kk,Kk⟩
abbrev QF:Stmt:=(top 39)
theorem aCN:bT ["came","way"] ["came","way"] (bB QF):=⟨rfl,rfl,rfl,Kk,rfl,Kk,Kk⟩
abbrev QJ:Stmt:=(top 42)
theorem aBa:bT ["trial","rule","way","came"] ["trial","rule","way"] (bB QJ):=⟨rfl,rfl,rfl,Kk,rfl,Kk,Kk⟩
abbrev QE:Stmt:=(top 44)
theorem aCM:bT ["trial","rule","way","costs"] ["trial","rule","way","costs"] (bB QE):=⟨rfl,rfl,rfl,Kk,rfl,Kk,Kk⟩
def HI(F:Nat)(es:List bN)(s:List Fr)(e:bN):Fr:=cO (aS F es e.1*wq s e.1)
def came(F:Nat)(es:List bN)(s:List Fr):List (bN × Fr):=es.map λe=>(e,HI F es s e)
def BB(K:PySem.W.Frag)(H:Hp)(x:bN × Fr)(v:V):Prop:=∃b cu z y,v=.ref b/\H b=some (.tup [.ref cu,z,y])/\H cu=some (.tup (x.1.1.map EX))/\OR K H x.1.2 z/\cA H (fB x.2) y
theorem BB.t{K:PySem.W.Frag}{H H':Hp}{x:bN × Fr}{v:V}(s:eF H H')(h:BB K H x v):BB K H' x v:=by
 obtain ⟨b,cu,z,y,h1,h2,h3,h4,h5⟩:=h;exact ⟨b,cu,z,y,h1,s _ _ h2,s _ _ h3,h4.t s,h5.flat s (dN _)⟩
theorem NY{K:PySem.W.Frag}{H H':Hp}(s:eF H H'){l:List (bN × Fr)}{zs:List V}(h:Paired (BB K H) l zs):Paired (BB K H') l zs:=Paired.imp' (λ_ _ h=>h.t s) h
theorem DB{K:PySem.W.Frag}{H:Hp}:∀{l:List (bN × Fr)}{zs:List V}{x:bN × Fr}{v:V},Paired (BB K H) l zs->BB K H x v->Paired (BB K H) (l++[x]) (zs++[v])
 | _,_,_,_,.nil,h=>.cons h .nil
 | _,_,_,_,.cons r t,h=>.cons r (DB t h)
section
variable{F W M N B Ns:Nat}{es:List bN}{s:List Fr}
theorem fY.aq(R:fY F W M N B Ns es)(hs:∀f∈s,Fn Ns 1 f){e:bN}(h:e∈es):Qn (N*Ns^M) B (aS F es e.1*wq s e.1):=by
 have:=(R.fl e h).mul (KN (M:=M) hs (R.sum e h))
 rwa [Nat.mul_one] at this
theorem fY.aqs(R:fY F W M N B Ns es)(hs:∀f∈s,Fn Ns 1 f){e:bN}(h:e∈es)(v:Nat):Qn (N*Ns^M) B (aS F es e.1*wq s e.1*gI e.2 v):=by
 have:=(R.fs e h v).mul (KN (M:=M) hs (R.sum e h));rw [Nat.mul_one] at this;rw [show aS F es e.1*wq s e.1*gI e.2 v=aS F es e.1*gI e.2 v*wq s e.1 by grind];exact this
theorem fY.wn(R:fY F W M N B Ns es):Ns^M<2^2500:=by
 have h2:1*Ns^M<=N*Ns^M:=cC _ R.n0;rw [Nat.one_mul] at h2;exact aQ h2 R.pz.2
end
theorem Qn.sumL{α:Type}{N B:Nat}{f:α->Rat}:∀{l:List α},(∀a∈l,Qn N B (f a))->Qn N (l.length*B) (dF l f)
 | [],_=>by rw [gM];exact Qn.zero _ _
 | a::l,h=>by
  rw [cW,cS,Nat.add_mul,Nat.one_mul,Nat.add_comm];exact (h a (aL ..)).add (Qn.sumL λx hx=>h x (aM _ hx))
theorem kZ{α:Type}{p:α->Bool}{f:α->Rat}:∀{l:List α},(∀a∈l,p a=false->f a=0)->dF (l.filter p) f=dF l f
 | [],_=>rfl
 | a::l,h=>by
  have ih:=kZ λx hx=>h x (aM a hx);cases q:p a with
  | true=>rw [List.filter_cons_of_pos q,cW,cW,ih]
  | false=>rw [List.filter_cons_of_neg (by rw [q];decide),cW,ih,h a (aL ..) q];grind
theorem uO{α:Type}{l:List α}{g:α->Fr}{f:α->Rat}(h:∀a∈l,dL (g a)/\rv (g a)=f a):pD (l.map g)=cO (dF l f):=by
 have hl:∀x∈l.map g,dL x:=λx hx=>by
  obtain ⟨a,ha,rfl⟩:=aD.mp hx;exact (h a ha).1
 refine fE (BG _ hl) (bG _) ?_;rw [XC _ hl,cQ,List.map_map];exact congrArg qF (dR λa ha=>(h a ha).2)
theorem AC(x y:Rat):jB (cO x) (cO y)=cO (x*y):=fE (iH (bG _) (bG _)) (bG _) (by rw [lE (bG _).pos (bG _).pos,cQ,cQ,cQ])
theorem FC(x y:Rat):nA (cO x) (cO y)=cO (x+y):=fE (rK (bG _) (bG _)) (bG _) (by rw [vA (bG _).pos (bG _).pos,cQ,cQ,cQ])
theorem DV(x y:Rat):nA (cO x) (AB (cO y))=cO (x-y):=fE (rK (bG _) (vG (bG _))) (bG _) (by
 rw [vA (bG _).pos (vG (bG _)).pos,show AB (cO y)=(-(cO y).1,(cO y).2) from rfl,XE,cQ,cQ,cQ,Rat.sub_eq_add_neg])
@[irreducible] def gO(K:PySem.W.Frag):Sp:=λvs H Q _=>∃(t r:V) (es:List bN) (F W M N B Ns:Nat) (fs:List Str) (ws:List (Str × List Fr)) (i:Nat) (x:Str × List Fr),vs=[t,r,.int (i:Int)]/\cA H (sX fs ws) t/\kH K H es r/\fY F W M N B Ns es/\1<=F/\F<=4/\ws[i]?=some x/\(∀f∈x.2,Fn Ns 1 f)/\FG 10 x.2/\∀D ys H',H D=none->H' D=some (.lst ys)->Paired (BB K H') (came F es x.2) ys->bE H H'->Q (.ref D) H'
theorem jW{K:PySem.W.Frag}{H:Hp}{Q:VK}{E:XK}{t r:V}{es:List bN}{F W M N B Ns:Nat}{fs:List Str}{ws:List (Str × List Fr)}{i:Nat}{x:Str × List Fr}(h1:cA H (sX fs ws) t)(h2:kH K H es r)(h3:fY F W M N B Ns es)(h4:1<=F)(h5:F<=4)(h7:ws[i]?=some x)(h8:∀f∈x.2,Fn Ns 1 f)(h9:FG 10 x.2)
  (k:∀D ys H',H D=none->H' D=some (.lst ys)->Paired (BB K H') (came F es x.2) ys->bE H H'->Q (.ref D) H'):gO K [t,r,.int (i:Int)] H Q E:=by
 unfold gO;exact ⟨t,r,es,F,W,M,N,B,Ns,fs,ws,i,x,rfl,h1,h2,h3,h4,h5,h7,h8,h9,k⟩
@[irreducible] def iX(K:PySem.W.Frag):Sp:=λvs H Q _=>∃(D:Addr) (ys:List V) (es:List bN) (F W M w N B Ns:Nat) (s:List Fr),vs=[.ref D,.int (w:Int)]/\H D=some (.lst ys)/\Paired (BB K H) (came F es s) ys/\fY F W M N B Ns es/\F<=4/\w<W/\(∀f∈s,Fn Ns 1 f)/\∀v H',bE H H'->cA H' (fB (cO (hV F es (wq s) w))) v->Q v H'
theorem qJ{K:PySem.W.Frag}{H:Hp}{Q:VK}{E:XK}{D:Addr}{ys:List V}{es:List bN}{F W M w N B Ns:Nat}{s:List Fr}(h1:H D=some (.lst ys))(h2:Paired (BB K H) (came F es s) ys)(h3:fY F W M N B Ns es)(h4:F<=4)(h6:w<W)(h7:∀f∈s,Fn Ns 1 f)(k:∀v H',bE H H'->cA H' (fB (cO (hV F es (wq s) w))) v->Q v H'):iX K [.ref D,.int (w:Int)] H Q E:=by
 unfold iX;exact ⟨D,ys,es,F,W,M,w,N,B,Ns,s,rfl,h1,h2,h3,h4,h6,h7,k⟩
abbrev EN(e:bN):Bool:=decide (s0 e≠0)
abbrev OY(x:Nat × Fr):PyData:=.tuple [.int (x.1:Int),fB x.2]
def onw(F:Nat)(es:List bN)(s:List Fr):List (Nat × Fr):=(es.filter EN).map λe=>(e.1.sum,cO (aS F es e.1*wq s e.1*s0 e))
@[irreducible] def iY(K:PySem.W.Frag):Sp:=λvs H Q _=>∃(t r:V) (es:List bN) (F W M N B Ns:Nat) (fs:List Str) (ws:List (Str × List Fr)) (i:Nat) (x:Str × List Fr),vs=[t,r,.int (i:Int)]/\cA H (sX fs ws) t/\kH K H es r/\fY F W M N B Ns es/\1<=F/\F<=4/\ws[i]?=some x/\(∀f∈x.2,Fn Ns 1 f)/\FG 10 x.2/\∀D ys H',H D=none->H' D=some (.lst ys)->bD H' ((onw F es x.2).map OY) ys->bE H H'->Q (.ref D) H'
theorem qL{K:PySem.W.Frag}{H:Hp}{Q:VK}{E:XK}{t r:V}{es:List bN}{F W M N B Ns:Nat}{fs:List Str}{ws:List (Str × List Fr)}{i:Nat}{x:Str × List Fr}(h1:cA H (sX fs ws) t)(h2:kH K H es r)(h3:fY F W M N B Ns es)(h4:1<=F)(h5:F<=4)(h7:ws[i]?=some x)(h8:∀f∈x.2,Fn Ns 1 f)(h9:FG 10 x.2)
  (k:∀D ys H',H D=none->H' D=some (.lst ys)->bD H' ((onw F es x.2).map OY) ys->bE H H'->Q (.ref D) H'):iY K [t,r,.int (i:Int)] H Q E:=by
 unfold iY;exact ⟨t,r,es,F,W,M,N,B,Ns,fs,ws,i,x,rfl,h1,h2,h3,h4,h5,h7,h8,h9,k⟩
structure VQ(Nc:Nat)(es:List bN)(cs:List Fr):Prop where
 c0:0<Nc
 c1:Nc<=1000000000000000
 at_:∀f∈cs,Fn Nc 1000 f
 len:∀e∈es,s0 e≠0->e.1.sum<cs.length
theorem VQ.qn{Nc:Nat}{es:List bN}{cs:List Fr}(h:VQ Nc es cs){e:bN}(he:e∈es)(hs:s0 e≠0):Qn Nc 1000 (gI cs e.1.sum):=(h.at_ _ (sJ (a:=(0,1)) (h.len e he hs))).q
@[irreducible] def nR(K:PySem.W.Frag):Sp:=λvs H Q _=>∃(t r cv:V) (es:List bN) (F W M Nc N B Ns:Nat) (fs:List Str) (ws:List (Str × List Fr)) (i:Nat) (x:Str × List Fr) (cs:List Fr),vs=[t,r,.int (i:Int),cv]/\cA H (sX fs ws) t/\kH K H es r/\fY F W M N B Ns es/\1<=F/\F<=4/\ws[i]?=some x/\(∀f∈x.2,Fn Ns 1 f)/\FG 10 x.2/\cA H (pX cs) cv/\VQ Nc es cs/\∀v H',bE H H'->cA H' (fB (cO (jR F es (wq x.2) (gI cs)))) v->Q v H'
theorem DY{K:PySem.W.Frag}{H:Hp}{Q:VK}{E:XK}{t r cv:V}{es:List bN}{F W M Nc N B Ns:Nat}{fs:List Str}{ws:List (Str × List Fr)}{i:Nat}{x:Str × List Fr}{cs:List Fr}(h1:cA H (sX fs ws) t)(h2:kH K H es r)(h3:fY F W M N B Ns es)(h4:1<=F)(h5:F<=4)(h7:ws[i]?=some x)(h8:∀f∈x.2,Fn Ns 1 f)(h9:FG 10 x.2)(h10:cA H (pX cs) cv)(h11:VQ Nc es cs)
  (k:∀v H',bE H H'->cA H' (fB (cO (jR F es (wq x.2) (gI cs)))) v->Q v H'):nR K [t,r,.int (i:Int),cv] H Q E:=by
 unfold nR;exact ⟨t,r,cv,es,F,W,M,Nc,N,B,Ns,fs,ws,i,x,cs,rfl,h1,h2,h3,h4,h5,h7,h8,h9,h10,h11,k⟩
section
theorem aCp(F:iQ K "comings" "comings" WW f fd)(T:jS K mg c)(FQ16:eZ dG P w K mg base 3 "amounts" ["rule"] (iM K))(FQ43:eZ dG P w K mg base 2 "times" ["one","other"] (fP K))(FQ47:eZ dG P w K mg base 3 "weight" ["trial","way","counts"] (lT K)):eA P w K mg base dG 4 f fd ["trial","rule","way"] (gO K):=by
 refine F.oky TN λvs H Q E h=>?_;unfold gO at h;obtain ⟨t,r,es,F,W,M,N,B,Ns,fs,ws,iw,x,rfl,rt,rr,RO,f1,f4,hx,hsh,hbo,k⟩:=h;refine ⟨rfl,λcdv A outer s hr=>?_⟩;obtain ⟨a,xs,rfl,ha,lx,rxs⟩:=id rr;have few:=RO.few;refine ⟨_,(aK (bQ (i:=3) TN.nd rfl (Or.inl rfl) (eB aE))
  (aK (gK PassesOwn.never rfl (uF true true rfl T.b_zip (aF (aG 1) (aF (bK FQ16 (hr.mono Dd) (aF (aG 1) aE)) aE))) (lC rfl (dM (dD (i:=4) TN.nd rfl (Or.inl rfl)) (dM (dD (i:=5) TN.nd rfl (Or.inl rfl)) jF))) (bF (kU (qA PySem.F.plainAttrs_list PySem.F.slot_list_append PySem.F.type_list_append vI (aG 3) (aF (cY (aF (bV bR (aG 4) aI (λ_ _=>rfl)) (aF (bV bR (aG 4) aI (λ_ _=>rfl)) (aF (bK FQ43 (hr.mono Dd) (aF (bV bR (aG 5) aI (λ_ _=>rfl)) (aF (bK FQ47 (hr.mono Dd) (aF (aG 0) (aF (aG 2) (aF (bV bR (aG 4) aI (λ_ _=>rfl)) aE)))) aE))) aE)))) aE)))))
  (bF (bZ (aG 3))))),?_⟩
 refine qU (by show 0<=64;decide) λL H1 hL e1 s1=>?_;refine ⟨_,rfl,_,rfl,?_⟩;refine iS (rr.t s1.t) RO f1 f4 λam ys H2 s2 e2 ly k2=>?_;refine ⟨a,am,xs,ys,rfl,s2 _ _ (s1 _ _ ha),e2,?_⟩;refine tZ (xs:=xs) (ys:=ys) (λi σ H'=>∃(o4 o5:Option V) (zs:List V),σ=[some t,some (.ref a),some (.int (iw:Int)),some (.ref L),o4,o5]/\aR L H2 H'/\H' L=some (.lst zs)/\Paired (BB K H') ((came F es x.2).take i) zs) ⟨_,_,[],rfl,(bE.refl _).but,s2 _ _ e1,.nil⟩ (λi σ H' ⟨_,_,_,_,b',_⟩=>?_) ?_ ?_
 ·have na:a≠L:=λz=>by rw [z,hL] at ha;cases ha
  have nam:am≠L:=λz=>by rw [z,s2 _ _ e1] at e2;cases e2
  exact ⟨b'.at na (s2 _ _ (s1 _ _ ha)),b'.at nam e2⟩
 ·rintro i y z q3 σ H3 H4 hy hz ⟨o4,o5,zs,rfl,b3,e3,r3⟩ hq3 e4 s4;obtain ⟨e,he,re⟩:=rxs i y hy;have hee:=aZ he;have t23:=b3.t (s2 _ _ e1);have t24:=t23.trans s4.t;have t04:=(s1.trans s2).t.trans t24;obtain ⟨b,cu,v,rfl,hb,hcu,rv'⟩:=re.t t04;have ru:cA H4 (iC e.1) (.ref cu):=wE hcu;obtain ⟨bz,cz,va,hbz,hbz2,_,fva⟩:=k2 i e he;rw [hz] at hbz;cases hbz;have e4L:H4 L=some (.lst zs):=s4 _ _ e3;have lz:zs.length<=64:=by
   rw [<-r3.length,cH];unfold came;rw [aA];omega
  refine ⟨q3,_,rfl,fF.of e4,rfl,_,_,rfl,_,_,rfl,rfl,?_⟩;refine ⟨_,rfl,PZ e4L,_,rfl,?_⟩;refine pE hb rfl ?_;refine ⟨_,rfl,?_⟩;refine pE hb rfl ?_;refine ⟨_,rfl,?_⟩;refine pE (t24 _ _ hbz2) rfl ?_;refine ⟨_,rfl,_,rfl,_,rfl,?_⟩;refine pE hb rfl ?_;have hsM:=RO.sum e hee;have m6:=RO.m;refine BM (rt.flat t04 (uN fs ws)) hx ru hbo Oo λxw H5 s5 fw=>?_;have lw':dL (pZ (x.2.zip e.1)):=uH _ λz hz=>(hsh z.1 (List.of_mem_zip (a:=z.1) (b:=z.2) hz).1).low;refine fJ ((fva.t t24).same s5).v fw.v (bG _) lw' (fV (RO.fl e hee) RO.n0 RO.nz RO.b2) (lL (Qn.f lw' (KN (M:=M) hsh hsM)) (Nat.pow_pos RO.s1) (aV RO.wn (aO Dd Dd)) Nat.one_le_two_pow) λq6 H6 hq6 e6 s6=>?_;have em:jB (cO (aS F es e.1)) (pZ (x.2.zip e.1))=HI F es x.2 e:=fE (iH (bG _) lw') (bG _) (by rw [lE (bG _).pos lw'.pos,cQ];unfold HI;rw [cQ];rfl);rw [em] at e6;refine mC (by show 3<=64;decide) λq7 H7 hq7 e7 s7=>?_;have s47:=(s5.trans s6).trans s7;refine ON (s47 _ _ e4L) Oo λH8 e8 b8=>?_;have t78:=b8.t (s47 _ _ e4L);refine ⟨_,_,zs++[.ref q7],rfl,(b3.trans (s4.trans s47).but).trans b8,e8,?_⟩;have ec:(came F es x.2)[i]?=some (e,HI F es x.2 e):=by unfold came;rw [aH,he];rfl
  rw [eW ec];refine DB (NY ((s4.trans s47).t.trans t78) r3) ?_;exact (show BB K H7 (e,HI F es x.2 e) (.ref q7) from ⟨q7,cu,v,_,rfl,e7,s47 _ _ hcu,rv'.t s47.t,dB (s7 _ _ e6)⟩).t t78
 ·rintro σ H3 ⟨o4,o5,zs,rfl,b3,e3,r3⟩;refine ⟨_,rfl,?_⟩;have hc:(came F es x.2).take (min xs.length ys.length)=came F es x.2:=List.take_of_length_le (by unfold came;rw [aA];omega);rw [hc] at r3;exact k L zs H3 hL e3 r3 (bE.thru hL (s1.trans s2) b3)
theorem aB3(F:iQ K "said_of" "said_of" QF f fd)(T:jS K mg c)(FQ44:eZ dG P w K mg base 3 "total" ["some"] (jL K))(FQ43:eZ dG P w K mg base 2 "times" ["one","other"] (fP K)):eA P w K mg base dG 4 f fd ["came","way"] (iX K):=by
 refine F.oky aCN λvs H Q E h=>?_;unfold iX at h;obtain ⟨D,ys,es,F,W,M,iw,N,B,Ns,s,rfl,hD,rys,RO,f4,hw,hsh,k⟩:=h;refine ⟨rfl,λcdv A outer s9 hr=>?_⟩;have few:=RO.few;refine ⟨_,(bF (bZ (bK FQ44 (hr.mono Dd) (aF (rQ (eM.of (psc:=bB QF) (N:=["came","way"]) (xs:=["counts","says","share"]) (N':=["counts","says","share","way"]) (js:=[1]) Kk rfl rfl rfl) (fT (aG 0)) (λ_ _ _ _=>eJ) (λ_ _ _ _=>(bK FQ43 (hr.mono Dd) (aF (aG 2) (aF (bV (jI K) (aG 1) (cE fR aI (aG 3)) (λ_ _=>rfl)) aE))))) aE)))),?_⟩;refine ⟨_,rfl,D,rfl,⟨_,fM.of hD⟩,?_⟩;refine mG (as:=came F es s) (λ_=>true) (λx v=>BB K H x v) (λx y H'=>cA H' (fB (cO (aS F es x.1.1*wq s x.1.1*gI x.1.2 (1+iw)))) y) (λx y H1 H2 s r=>r.flat s (dN _)) (by unfold came;rw [aA];omega) hD rys (λv x H' hx rx s'=>?_) (λL zs H2 hL e2 s2 pr=>?_)
 ·obtain ⟨e,he,rfl⟩:=aD.mp hx;obtain ⟨b,cu,z,y,rfl,hb,hcu,rz,ry⟩:=rx.t s'.t;refine ⟨b,[.ref cu,z,y],rfl,fF.of hb,rfl,λQ' h=>h H' (bE.refl _),λH5 Q' s5 _ k'=>?_⟩;obtain ⟨az,vz,rfl,haz,rvz⟩:=rz.t s5.t;have hsy:=RO.sy e he;obtain ⟨g,hg⟩:∃g,e.2[1+iw]?=some g:=⟨_,aC (by rw [hsy.len];omega)⟩;obtain ⟨vg,hvg,rvg⟩:=rvz.get hg;have gn:=hsy.at_ g (aZ hg);refine ⟨_,rfl,_,rfl,_,rfl,_,_,rfl,rfl,?_⟩;refine pE haz (by have:=eI hvg;rwa [show ((1+iw:Nat):Int)=1+(iw:Int) by omega] at this) ?_;refine fJ (fS.of (ry.same s5)) rvg.v (bG _) gn.1 (fV (RO.aq hsh he) RO.pz.1 RO.pz.2 RO.b2) (gn.2.2.up Dd) λq6 H6 hq6 e6 s6=>?_;refine k' _ H6 s6 (dB ?_);have em:jB (HI F es s e) g=cO (aS F es e.1*wq s e.1*gI e.2 (1+iw)):=fE (iH (bG _) gn.1) (bG _) (by rw [lE (f:=HI F es s e) (bG _).pos gn.1.pos,DN hg];unfold HI;rw [cQ,cQ]);rw [<-em];exact e6
 ·rw [pT] at pr;have r2:=mQ (g:=λx:bN × Fr=>cO (aS F es x.1.1*wq s x.1.1*gI x.1.2 (1+iw))) pr;have e3:(came F es s).map (λx:bN × Fr=>cO (aS F es x.1.1*wq s x.1.1*gI x.1.2 (1+iw)))=es.map λe=>cO (aS F es e.1*wq s e.1*gI e.2 (1+iw)):=by unfold came;rw [List.map_map];rfl
  rw [e3] at r2;have fl:∀f∈es.map (λe=>cO (aS F es e.1*wq s e.1*gI e.2 (1+iw))),Fn (N*Ns^M) B f:=λf hf=>by
   obtain ⟨e,he,rfl⟩:=aD.mp hf;exact (RO.aqs hsh he _).fq
  refine mK e2 (wJ.of r2) (oR fl RO.pz.1 (aV RO.pz.2 (aO Dd Dd)) (by rw [aA];exact few) (aW RO.b2 (aO Dd Dd))) λv H3 s3 r3=>?_;rw [uO (f:=λe:bN=>aS F es e.1*wq s e.1*gI e.2 (1+iw)) λe _=>⟨bG _,cQ _⟩] at r3;exact k v H3 (s2.trans s3) r3
theorem aCb(F:iQ K "onwards" "onwards" QJ f fd)(T:jS K mg c)(FQ18:eZ dG P w K mg base 4 "comings" ["trial","rule","way"] (gO K))(FQ43:eZ dG P w K mg base 2 "times" ["one","other"] (fP K))(FQ26:eZ dG P w K mg base 1 "looks_on" ["says"] (jA K)):eA P w K mg base dG 5 f fd ["trial","rule","way"] (iY K):=by
 refine F.oky aBa λvs H Q E h=>?_;unfold iY at h;obtain ⟨t,r,es,F,W,M,N,B,Ns,fs,ws,iw,x,rfl,rt,rr,RO,f1,f4,hx,hsh,hbo,k⟩:=h;refine ⟨rfl,λcdv A outer s hr=>?_⟩;have few:=RO.few;refine ⟨_,(aK (bQ (i:=3) aBa.nd rfl (Or.inl rfl) (bK FQ18 (hr.mono Dd) (aF (aG 0) (aF (aG 1) (aF (aG 2) aE)))))
  (bF (bZ (rQ (eM.of (psc:=bB QJ) (N:=["trial","rule","way","came"]) (xs:=["counts","says","share"]) (N':=["counts","says","share"]) (js:=[]) Kk rfl rfl rfl) (fT (aG 3)) (λ_ _ _ _=>yP (pO (bK FQ26 (hr.mono Dd) (aF (aG 1) aE)))) (λ_ _ _ _=>(cY (aF (gL (uB K rfl) (by rfl) T.b_sum Kk (aF (aG 0) aE)) (aF (bK FQ43 (hr.mono Dd) (aF (aG 2) (aF (bV (jI K) (aG 1) aI (λ_ _=>rfl)) aE))) aE)))))))),?_⟩
 refine ⟨_,rfl,_,rfl,_,rfl,?_⟩;refine jW rt rr RO f1 f4 hx hsh hbo λD ys H1 hD e1 r1 s1=>?_;refine ⟨_,rfl,D,rfl,⟨_,fM.of e1⟩,?_⟩;refine mG (as:=came F es x.2) (λy=>EN y.1) (λy v=>BB K H1 y v) (λy v H'=>cA H' (OY (y.1.1.sum,cO (aS F es y.1.1*wq x.2 y.1.1*s0 y.1))) v) (λx y H1 H2 s r=>r.flat s rfl) (by unfold came;rw [aA];omega) e1 r1 (λv y H' hy ry s'=>?_) (λL zs H2 hL e2 s2 pr=>?_)
 ·obtain ⟨e,he,rfl⟩:=aD.mp hy;obtain ⟨b,cu,z,y,rfl,hb,hcu,rz,ry⟩:=ry.t s'.t;obtain ⟨f0,fr,ef,l0,z0,nn0,v0,on0⟩:=(RO.sy e he).hd;have es0:s0 e=rv f0:=v0;refine ⟨b,[.ref cu,z,y],rfl,fF.of hb,rfl,λQ' h=>?_,λH5 Q' s5 hp k'=>?_⟩
  ·refine ⟨_,rfl,?_⟩;refine oC (f:=f0) (fs:=fr) (by rw [<-ef];exact rz) ?_;refine ⟨_,rfl,?_⟩;have e1:decide (0<f0.1)=EN e:=by
    by_cases q:0<f0.1
    ·rw [cV q];exact (cV (on0.mp q)).symm
    ·rw [cI q];exact (cI λz=>q (on0.mpr z)).symm
   rw [e1];exact h H' (bE.refl _)
  ·have hcu:=s5 _ _ hcu;obtain ⟨az,vz,rfl,haz,rvz⟩:=rz.t s5.t;rw [ef] at rvz;obtain ⟨y0,hy0,ry0⟩:=rvz.get (i:=0) rfl;refine ⟨_,rfl,?_⟩;refine rsT (ns:=ci e.1) (by rw [gG];exact fF.of hcu) ?_;rw [AV];refine ⟨_,rfl,_,rfl,?_⟩;refine pE haz (eI (j:=0) hy0) ?_;refine fJ (fS.of (ry.same s5)) ry0.v (bG _) l0 (fV (RO.aq hsh he) RO.pz.1 RO.pz.2 RO.b2) (z0.up Dd) λq6 H6 hq6 e6 s6=>?_;have em:jB (HI F es x.2 e) f0=cO (aS F es e.1*wq x.2 e.1*s0 e):=fE (iH (bG _) l0) (bG _) (by rw [lE (f:=HI F es x.2 e) (bG _).pos l0.pos,es0];unfold HI;rw [cQ,cQ]);have e6:H6 q6=some (.tup [.int (jB (HI F es x.2 e) f0).1,.int (jB (HI F es x.2 e) f0).2]):=e6;rw [em] at e6;refine mC (by show 2<=64;decide) λq7 H7 hq7 e7 s7=>?_;exact k' _ H7 (s6.trans s7) (cA.tup e7 (bD.cons (cA.int _) (bD.cons (dB (s7 _ _ e6)) bD.nil)))
 ·refine k L zs H2 (s1.free hL) e2 ?_ (s1.trans s2);have r2:bD H2 (((came F es x.2).filter λy=>EN y.1).map λy=>OY (y.1.1.sum,cO (aS F es y.1.1*wq x.2 y.1.1*s0 y.1))) zs:=Paired.toRepL pr;have e3:((came F es x.2).filter λy=>EN y.1).map (λy=>OY (y.1.1.sum,cO (aS F es y.1.1*wq x.2 y.1.1*s0 y.1)))=(onw F es x.2).map OY:=by
   unfold came onw;rw [List.filter_map,List.map_map,List.map_map];rfl
  rw [e3] at r2;exact r2
theorem aB1(F:iQ K "spent" "spent" QE f fd)(T:jS K mg c)(FQ44:eZ dG P w K mg base 3 "total" ["some"] (jL K))(FQ43:eZ dG P w K mg base 2 "times" ["one","other"] (fP K))(FQ32:eZ dG P w K mg base 5 "onwards" ["trial","rule","way"] (iY K)):eA P w K mg base dG 6 f fd ["trial","rule","way","costs"] (nR K):=by
 refine F.oky aCM λvs H Q E h=>?_;unfold nR at h;obtain ⟨t,r,cv,es,F,W,M,Nc,N,B,Ns,fs,ws,iw,x,cs,rfl,rt,rr,RO,f1,f4,hx,hsh,hbo,rcv,co,k⟩:=h;refine ⟨rfl,λcdv A outer s hr=>?_⟩;have few:=RO.few;have cz:0<Nc*(N*Ns^M)/\Nc*(N*Ns^M)<2^2500:=by
  refine ⟨kR co.c0 RO.pz.1,?_⟩;have h1:=Nat.mul_le_mul co.c1 (Nat.le_of_lt RO.z);have h2:1000000000000000*2^2000<2^2500:=Kk;exact aQ h1 h2
 obtain ⟨ac,vc,rfl,hac,rvc⟩:=sB rcv;refine ⟨_,(bF (bZ (bK FQ44 (hr.mono Dd) (aF (rR (eM.of (psc:=bB QE) (N:=["trial","rule","way","costs"]) (xs:=["looks","share"]) (N':=["looks","share","costs"]) (js:=[3]) Kk rfl rfl rfl) (fT (bK FQ32 (hr.mono Dd) (aF (aG 0) (aF (aG 1) (aF (aG 2) aE))))) (λ_ _ _ _=>eJ) (λ_ _ _ _=>(bK FQ43 (hr.mono Dd) (aF (bV (jI K) (aG 2) (aG 0) (λ_ _=>rfl)) (aF (aG 1) aE))))) aE)))),?_⟩;refine ⟨_,rfl,_,rfl,_,rfl,?_⟩;refine qL rt rr RO f1 f4 hx hsh hbo λD ys H1 hD e1 r1 s1=>?_;refine ⟨D,rfl,⟨_,fM.of e1⟩,?_⟩;have r1':bD H1 ((es.filter EN).map λe=>OY (e.1.sum,cO (aS F es e.1*wq x.2 e.1*s0 e))) ys:=by unfold onw at r1;rw [List.map_map] at r1;exact r1
 have fl0:=List.length_filter_le EN es;refine mG (as:=es.filter EN) (λ_=>true) (λe v=>cA H1 (OY (e.1.sum,cO (aS F es e.1*wq x.2 e.1*s0 e))) v) (λe v H'=>cA H' (fB (cO (gI cs e.1.sum*(aS F es e.1*wq x.2 e.1*s0 e)))) v) (λx y H1 H2 s r=>r.flat s (dN _)) Oo e1 (Paired.ofRepL r1') (λv e H' he re s'=>?_) (λL zs H2 hL e2 s2 pr=>?_)
 ·obtain ⟨he1,he2⟩:=dY.mp he;have hs0:s0 e≠0:=of_decide_eq_true he2;obtain ⟨b,us,rfl,hb,rus⟩:=kI (re.same s');obtain ⟨u,y,rfl,ru,ry⟩:=oQ rus;cases (show u=V.int (e.1.sum:Nat) from ru);refine ⟨b,_,rfl,fF.of hb,rfl,λQ' h=>h H' (bE.refl _),λH5 Q' s5 _ k'=>?_⟩;have hlen:=co.len e he1 hs0;obtain ⟨g,hg⟩:∃g,cs[e.1.sum]?=some g:=⟨_,aC hlen⟩;obtain ⟨vg,hvg,rvg⟩:=xM rvc hg;have gn:=co.at_ g (aZ hg);refine ⟨_,rfl,_,rfl,?_⟩;refine pE ((s1.trans s').trans s5 _ _ hac) (eI hvg) ?_;refine ⟨_,rfl,?_⟩;refine fJ (fS.of (rvg.same ((s1.trans s').trans s5))) (fS.of (ry.same s5)) gn.low (bG _) (lL (Qn.f gn.low (gn.q.dvd (Nat.dvd_mul_right _ (N*Ns^M)))) cz.1 (aV cz.2 (aO Dd Dd)) (aW (show 1000<=2^10 by decide) (aO Dd Dd))) (fV (show Qn (N*Ns^M) B (aS F es e.1*wq x.2 e.1*s0 e) from RO.aqs hsh he1 0) RO.pz.1 RO.pz.2 RO.b2) λq6 H6 hq6 e6 s6=>?_;refine k' _ H6 s6 (dB ?_);have em:jB g (cO (aS F es e.1*wq x.2 e.1*s0 e))=cO (gI cs e.1.sum*(aS F es e.1*wq x.2 e.1*s0 e)):=fE (iH gn.low (bG _)) (bG _) (by rw [lE gn.low.pos (bG _).pos,cQ,cQ,DN hg]);rw [e6,em]
 ·rw [pT] at pr;have r2:=mQ (g:=λe:bN=>cO (gI cs e.1.sum*(aS F es e.1*wq x.2 e.1*s0 e))) pr;have fl:∀f∈(es.filter EN).map (λe=>cO (gI cs e.1.sum*(aS F es e.1*wq x.2 e.1*s0 e))),Fn (Nc*(N*Ns^M)) (1000*B) f:=λf hf=>by
   obtain ⟨e,he,rfl⟩:=aD.mp hf;obtain ⟨he1,he2⟩:=dY.mp he;have h:=(co.qn he1 (of_decide_eq_true he2)).mul (RO.aqs hsh he1 0);exact h.fq
  refine mK e2 (wJ.of r2) (oR fl cz.1 (aV cz.2 (aO Dd Dd)) (by rw [aA];omega) (aW (dQ 1000 RO.b) (show 1000*2^100<=2^490 by decide +kernel))) λv H3 s3 r3=>?_;rw [uO (f:=λe:bN=>gI cs e.1.sum*(aS F es e.1*wq x.2 e.1*s0 e)) λe _=>⟨bG _,cQ _⟩] at r3;have ef:dF (es.filter EN) (λe:bN=>gI cs e.1.sum*(aS F es e.1*wq x.2 e.1*s0 e))=jR F es (wq x.2) (gI cs):=by
   unfold jR;exact kZ λe _ he=>by rw [Classical.not_not.mp (of_decide_eq_false he)];grind
  rw [ef] at r3;exact k v H3 ((s1.trans s2).trans s3) r3
end
abbrev WE:Stmt:=(top 45)
theorem ZM:bT ["trial","rule","found","way"] ["trial","rule"] (bB WE):=⟨rfl,rfl,rfl,Kk,rfl,Kk,Kk⟩
abbrev WP:Stmt:=(top 28)
theorem aCU:bT ["rule"] ["rule"] (bB WP):=⟨rfl,rfl,rfl,Kk,rfl,Kk,Kk⟩
abbrev QG:Stmt:=(top 38)
theorem aA9:bT ["trial","rule","way","came"] ["trial","rule","way"] (bB QG):=⟨rfl,rfl,rfl,Kk,rfl,Kk,Kk⟩
abbrev QM:Stmt:=(top 41)
theorem aCX:bT ["came","looks"] ["came","looks"] (bB QM):=⟨rfl,rfl,rfl,Kk,rfl,Kk,Kk⟩
abbrev QN:Stmt:=(top 40)
theorem aBb:bT ["trial","rule","way","came"] ["trial","rule","way"] (bB QN):=⟨rfl,rfl,rfl,Kk,rfl,Kk,Kk⟩
abbrev QO:Stmt:=(top 43)
theorem aCY:bT ["trial","rule","way"] ["trial","rule","way"] (bB QO):=⟨rfl,rfl,rfl,Kk,rfl,Kk,Kk⟩
def tK(F:Nat)(es:List bN)(q:List Nat->Rat):Rat:=dF es λe=>aS F es e.1*q e.1*s0 e
def sM(F:Nat)(es:List bN)(q:List Nat->Rat)(n:Nat):Rat:=dF (es.filter λe=>decide (e.1.sum=n)) λe=>aS F es e.1*q e.1*(1-s0 e)
structure TrG(W Ns:Nat)(ws:List (Str × List Fr)):Prop where
 w:ws.length=W
 sh:∀x∈ws,∀f∈x.2,Fn Ns 1 f
 b:∀x∈ws,FG 10 x.2
theorem ME{ws:List (Str × List Fr)}{i:Nat}{x:Str × List Fr}(h:ws[i]?=some x):qOf (UH ws) i=wq x.2:=by
 funext c
 unfold qOf;rw [GT (show (UH ws)[i]?=some x.2 by rw [aH,h];rfl)]
def UG(F W:Nat)(es:List bN)(ss:List (List Fr))(w:Nat):Fr:=cO (1-hV F es (qOf ss w) w)
@[irreducible] def nP(K:PySem.W.Frag):Sp:=λvs H Q _=>∃(t r:V) (es:List bN) (F W M N B Ns:Nat) (fs:List Str) (ws:List (Str × List Fr)),vs=[t,r]/\cA H (sX fs ws) t/\kH K H es r/\fY F W M N B Ns es/\1<=F/\F<=4/\W<=4/\TrG W Ns ws/\∀v H',bE H H'->cA H' (pX ((List.range W).map (UG F W es (UH ws)))) v->Q v H'
theorem DW{K:PySem.W.Frag}{H:Hp}{Q:VK}{E:XK}{t r:V}{es:List bN}{F W M N B Ns:Nat}{fs:List Str}{ws:List (Str × List Fr)}(h1:cA H (sX fs ws) t)(h2:kH K H es r)(h3:fY F W M N B Ns es)(h4:1<=F)(h5:F<=4)(h6:W<=4)(h7:TrG W Ns ws)(k:∀v H',bE H H'->cA H' (pX ((List.range W).map (UG F W es (UH ws)))) v->Q v H'):nP K [t,r] H Q E:=by unfold nP;exact ⟨t,r,es,F,W,M,N,B,Ns,fs,ws,rfl,h1,h2,h3,h4,h5,h6,h7,k⟩
@[irreducible] def kJ(K:PySem.W.Frag):Sp:=λvs H Q _=>∃(x:V) (es:List bN) (e:bN),vs=[x]/\kH K H es x/\es.getLast?=some e/\Q (.int (e.1.sum:Nat)) H
theorem zJ{K:PySem.W.Frag}{H:Hp}{Q:VK}{E:XK}{x:V}{es:List bN}{e:bN}(h1:kH K H es x)(h2:es.getLast?=some e)(k:Q (.int (e.1.sum:Nat)) H):kJ K [x] H Q E:=by unfold kJ;exact ⟨x,es,e,rfl,h1,h2,k⟩
@[irreducible] def qK(K:PySem.W.Frag):Sp:=λvs H Q _=>∃(t r:V) (es:List bN) (F W M N B Ns:Nat) (fs:List Str) (ws:List (Str × List Fr)) (i:Nat) (x:Str × List Fr),vs=[t,r,.int (i:Int)]/\cA H (sX fs ws) t/\kH K H es r/\fY F W M N B Ns es/\1<=F/\F<=4/\ws[i]?=some x/\(∀f∈x.2,Fn Ns 1 f)/\FG 10 x.2/\W<=4/\ws.length=W/\∀v H',bE H H'->cA H' (pX ((List.range W).map λw=>cO (hV F es (wq x.2) w))) v->Q v H'
theorem II{K:PySem.W.Frag}{H:Hp}{Q:VK}{E:XK}{t r:V}{es:List bN}{F W M N B Ns:Nat}{fs:List Str}{ws:List (Str × List Fr)}{i:Nat}{x:Str × List Fr}(h1:cA H (sX fs ws) t)(h2:kH K H es r)(h3:fY F W M N B Ns es)(h4:1<=F)(h5:F<=4)(h6:ws[i]?=some x)(h7:(∀f∈x.2,Fn Ns 1 f))(h8:FG 10 x.2)(h9:W<=4)(h10:ws.length=W)(k:∀v H',bE H H'->cA H' (pX ((List.range W).map λw=>cO (hV F es (wq x.2) w))) v->Q v H'):qK K [t,r,.int (i:Int)] H Q E:=by unfold qK;exact ⟨t,r,es,F,W,M,N,B,Ns,fs,ws,i,x,rfl,h1,h2,h3,h4,h5,h6,h7,h8,h9,h10,k⟩
@[irreducible] def gB(K:PySem.W.Frag):Sp:=λvs H Q _=>∃(D:Addr) (ys:List V) (es:List bN) (F W M N B Ns n:Nat) (s:List Fr),vs=[.ref D,.int (n:Int)]/\H D=some (.lst ys)/\Paired (BB K H) (came F es s) ys/\fY F W M N B Ns es/\(∀f∈s,Fn Ns 1 f)/\∀v H',bE H H'->cA H' (fB (cO (sM F es (wq s) n))) v->Q v H'
theorem qO{K:PySem.W.Frag}{H:Hp}{Q:VK}{E:XK}{D:Addr}{ys:List V}{es:List bN}{F W M N B Ns n:Nat}{s:List Fr}(h1:H D=some (.lst ys))(h2:Paired (BB K H) (came F es s) ys)(h3:fY F W M N B Ns es)(h4:(∀f∈s,Fn Ns 1 f))(k:∀v H',bE H H'->cA H' (fB (cO (sM F es (wq s) n))) v->Q v H'):gB K [.ref D,.int (n:Int)] H Q E:=by unfold gB;exact ⟨D,ys,es,F,W,M,N,B,Ns,n,s,rfl,h1,h2,h3,h4,k⟩
@[irreducible] def oD(K:PySem.W.Frag):Sp:=λvs H Q _=>∃(t r:V) (es:List bN) (F W M N B Ns:Nat) (fs:List Str) (ws:List (Str × List Fr)) (i L:Nat) (x:Str × List Fr) (e:bN),vs=[t,r,.int (i:Int)]/\cA H (sX fs ws) t/\kH K H es r/\fY F W M N B Ns es/\1<=F/\F<=4/\ws[i]?=some x/\(∀f∈x.2,Fn Ns 1 f)/\FG 10 x.2/\es.getLast?=some e/\e.1.sum=L/\L<=6/\∀v H',bE H H'->cA H' (pX ((List.range (L+1)).map λn=>cO (sM F es (wq x.2) n))) v->Q v H'
theorem EC{K:PySem.W.Frag}{H:Hp}{Q:VK}{E:XK}{t r:V}{es:List bN}{F W M N B Ns:Nat}{fs:List Str}{ws:List (Str × List Fr)}{i L:Nat}{x:Str × List Fr}{e:bN}(h1:cA H (sX fs ws) t)(h2:kH K H es r)(h3:fY F W M N B Ns es)(h4:1<=F)(h5:F<=4)(h6:ws[i]?=some x)(h7:(∀f∈x.2,Fn Ns 1 f))(h8:FG 10 x.2)(h9:es.getLast?=some e)(h10:e.1.sum=L)(h11:L<=6)(k:∀v H',bE H H'->cA H' (pX ((List.range (L+1)).map λn=>cO (sM F es (wq x.2) n))) v->Q v H'):oD K [t,r,.int (i:Int)] H Q E:=by unfold oD;exact ⟨t,r,es,F,W,M,N,B,Ns,fs,ws,i,L,x,e,rfl,h1,h2,h3,h4,h5,h6,h7,h8,h9,h10,h11,k⟩
@[irreducible] def kM(K:PySem.W.Frag):Sp:=λvs H Q _=>∃(t r:V) (es:List bN) (F W M N B Ns:Nat) (fs:List Str) (ws:List (Str × List Fr)) (i:Nat) (x:Str × List Fr),vs=[t,r,.int (i:Int)]/\cA H (sX fs ws) t/\kH K H es r/\fY F W M N B Ns es/\1<=F/\F<=4/\ws[i]?=some x/\(∀f∈x.2,Fn Ns 1 f)/\FG 10 x.2/\∀v H',bE H H'->cA H' (fB (cO (tK F es (wq x.2)))) v->Q v H'
theorem zK{K:PySem.W.Frag}{H:Hp}{Q:VK}{E:XK}{t r:V}{es:List bN}{F W M N B Ns:Nat}{fs:List Str}{ws:List (Str × List Fr)}{i:Nat}{x:Str × List Fr}(h1:cA H (sX fs ws) t)(h2:kH K H es r)(h3:fY F W M N B Ns es)(h4:1<=F)(h5:F<=4)(h6:ws[i]?=some x)(h7:(∀f∈x.2,Fn Ns 1 f))(h8:FG 10 x.2)(k:∀v H',bE H H'->cA H' (fB (cO (tK F es (wq x.2)))) v->Q v H'):kM K [t,r,.int (i:Int)] H Q E:=by unfold kM;exact ⟨t,r,es,F,W,M,N,B,Ns,fs,ws,i,x,rfl,h1,h2,h3,h4,h5,h6,h7,h8,k⟩
section
variable{F W M N B Ns:Nat}{es:List bN}{s:List Fr}
theorem fY.said(R:fY F W M N B Ns es)(hs:∀f∈s,Fn Ns 1 f)(w:Nat):Qn (N*Ns^M) (64*B) (hV F es (wq s) w):=(Qn.sumL (λe he=>R.aqs hs he (1+w))).le (cC _ R.few)
theorem fY.avg(R:fY F W M N B Ns es)(hs:∀f∈s,Fn Ns 1 f):Qn (N*Ns^M) (64*B) (tK F es (wq s)):=(Qn.sumL (f:=λe=>aS F es e.1*wq s e.1*s0 e) λe he=>R.aqs hs he 0).le (cC _ R.few)
theorem fY.ends(R:fY F W M N B Ns es)(hs:∀f∈s,Fn Ns 1 f){e:bN}(he:e∈es):Qn (N*Ns^M) (2*B) (aS F es e.1*wq s e.1*(1-s0 e)):=by
 have h:=(R.aq hs he).sub (show Qn (N*Ns^M) B (aS F es e.1*wq s e.1*s0 e) from R.aqs hs he 0);rw [show aS F es e.1*wq s e.1*(1-s0 e)=aS F es e.1*wq s e.1-aS F es e.1*wq s e.1*s0 e by grind];exact h.le Oo
theorem fY.b64(R:fY F W M N B Ns es):64*B<=2^200:=aW (dQ 64 R.b) Kk
end
section
theorem aBV(F:iQ K "wrong" "wrong" WE f fd)(T:jS K mg c)(FQ46:eZ dG P w K mg base 1 "ways_of" ["trial"] kD)(FQ25:eZ dG P w K mg base 3 "less" ["one","other"] (kL K))(FQ40:eZ dG P w K mg base 4 "said_of" ["came","way"] (iX K))(FQ18:eZ dG P w K mg base 4 "comings" ["trial","rule","way"] (gO K)):eA P w K mg base dG 5 f fd ["trial","rule"] (nP K):=by
 refine F.oky ZM λvs H Q E h=>?_;unfold nP at h;obtain ⟨t,r,es,F,W,M,N,B,Ns,fs,ws,rfl,rt,rr,RO,f1,f4,w4,TQ,k⟩:=h;refine ⟨rfl,λcdv A outer s hr=>?_⟩;refine ⟨_,(aK (bQ (i:=2) ZM.nd rfl (Or.inl rfl) (eB aE))
  (aK (gK PassesOwn.never rfl (eV rfl T.b_range (aF (bK FQ46 (hr.mono Dd) (aF (aG 0) aE)) aE)) (dD (i:=3) ZM.nd rfl (Or.inl rfl)) (bF (kU (qA PySem.F.plainAttrs_list PySem.F.slot_list_append PySem.F.type_list_append vI (aG 2) (aF (bK FQ25 (hr.mono Dd) (aF (kY (v:=.ref c.ONE) rfl T.g_ONE rfl) (aF (bK FQ40 (hr.mono Dd) (aF (bK FQ18 (hr.mono Dd) (aF (aG 0) (aF (aG 1) (aF (aG 3) aE)))) (aF (aG 3) aE))) aE))) aE)))))
  (bF (bZ (hU dA (by rfl) T.b_tuple Kk (aF (aG 2) aE)))))),?_⟩
 refine qU (by show 0<=64;decide) λL H1 hL e1 s1=>?_;refine ⟨_,rfl,?_⟩;refine sY (rt.same s1) ?_;rw [TQ.w];refine ⟨_,rfl,Oo,Oo,?_⟩;rw [Int.toNat_natCast];refine oZ (λi σ H'=>∃(o3:Option V) (zs:List V),σ=[some t,some r,some (.ref L),o3]/\aR L H1 H'/\H' L=some (.lst zs)/\bD H' (((List.range i).map (UG F W es (UH ws))).map fB) zs) ⟨_,[],rfl,(bE.refl _).but,e1,bD.nil⟩ ?_ ?_
 ·rintro i σ H2 hi ⟨o3,zs,rfl,b2,e2,r2⟩;obtain ⟨x,hx⟩:∃x,ws[i]?=some x:=⟨_,aC (by rw [TQ.w];exact hi)⟩;have hxm:=aZ hx;have t2:eF H1 H2:=b2.t e1;rw [show (0:Int)+(i:Int)=(i:Int) by omega];refine ⟨_,rfl,PZ e2,_,rfl,_,rfl,_,rfl,?_⟩;refine jW ((rt.same s1).flat t2 (uN _ _)) ((rr.t s1.t).t t2) RO f1 f4 hx (TQ.sh x hxm) (TQ.b x hxm) λD ys H3 hD e3 r3 s3=>?_;refine ⟨_,rfl,?_⟩;refine qJ e3 r3 RO f4 hi (TQ.sh x hxm) λv4 H4 s4 r4=>?_;have hoc:fS K H4 (1,1) (.ref c.ONE):=⟨c.ONE,rfl,lS T.o_ONE⟩;refine pR hoc (fS.of r4) NB (bG _) (lL (Fn.one 1) Dd Kk Nat.one_le_two_pow) (fV (RO.said (TQ.sh x hxm) i) RO.pz.1 RO.pz.2 RO.b64) λq5 H5 hq5 e5 s5=>?_;have ew:nA (1,1) (AB (cO (hV F es (wq x.2) i)))=UG F W es (UH ws) i:=by
   unfold UG;rw [ME hx,<-tY,DV]
  rw [ew] at e5;have S5:=(s3.trans s4).trans s5;have lz:zs.length=i:=by rw [r2.len,aA,aA,bH]
  refine ON (S5 _ _ e2) Oo λH6 e6 b6=>?_;have t6:=b6.t (S5 _ _ e2);refine ⟨_,_,rfl,(b2.trans S5.but).trans b6,e6,?_⟩;rw [List.range_succ,bO,bO];exact bD.snoc (bD.flat (S5.t.trans t6) (qZ _) r2) (cA.flat t6 (dN _) (dB e5))
 ·rintro σ H2 ⟨o3,zs,rfl,b2,e2,r2⟩;refine ⟨_,rfl,L,zs,rfl,.inl ⟨fM.of e2,λl hl=>?_⟩⟩;have sl:=bE.upd (o:=.tup zs) hl;have el:(upd H2 l (.tup zs)) l=some (.tup zs):=bI;generalize upd H2 l (.tup zs)=H3 at sl el;exact k _ H3 ((bE.thru hL s1 b2).trans sl) (cA.tup el (r2.same sl))
theorem aCf(F:iQ K "most_of" "most_of" WP f fd)(T:jS K mg c):eA P w K mg base dG 1 f fd ["rule"] (kJ K):=by
 refine F.oky aCU λvs H Q E h=>?_;unfold kJ at h;obtain ⟨x,es,e,rfl,rx,he,k⟩:=h;refine ⟨rfl,λcdv A outer s hr=>?_⟩;obtain ⟨a,xs,rfl,ha,lx,rxs⟩:=rx;have he':es[es.length-1]?=some e:=by rw [<-List.getLast?_eq_getElem?];exact he
 have hl:0<es.length:=by
  rcases Nat.eq_zero_or_pos es.length with h | h
  ·rw [List.length_eq_zero_iff.mp h] at he;cases he
  ·exact h
 have hz:xs[es.length-1]?=some (xs[es.length-1]'Oo):=aC _;obtain ⟨e2,h2,b,cu,z,eb,hb,hcu,_⟩:=rxs _ _ hz;rw [he'] at h2;cases h2;rw [eb] at hz;refine ⟨_,(bF (bZ (gL (uB K rfl) (by rfl) T.b_sum Kk (aF (bV bR (bV bR (aG 0) (FL yW aI) (λ_ _=>rfl)) aI (λ_ _=>rfl)) aE)))),?_⟩;refine ⟨_,rfl,_,rfl,?_⟩;refine pE ha (v:=.ref b) ?_ ?_
 ·have hix:JA xs.length (-1)=some (es.length-1):=by
   unfold JA;rw [if_neg Dd];rw [if_pos Oo];congr 1;omega
  unfold DG;rw [hix];exact hz
 refine pE hb rfl ?_;refine rsT (ns:=ci e.1) (by rw [gG];exact fF.of hcu) ?_;rw [AV];exact k
theorem aB4(F:iQ K "said" "said" QG f fd)(T:jS K mg c)(FQ18:eZ dG P w K mg base 4 "comings" ["trial","rule","way"] (gO K))(FQ40:eZ dG P w K mg base 4 "said_of" ["came","way"] (iX K))(FQ46:eZ dG P w K mg base 1 "ways_of" ["trial"] kD):eA P w K mg base dG 5 f fd ["trial","rule","way"] (qK K):=by
 refine F.oky aA9 λvs H Q E h=>?_;unfold qK at h;obtain ⟨t,r,es,F,W,M,N,B,Ns,fs,ws,i,x,rfl,rt,rr,RO,f1,f4,hx,hsh,hbo,w4,lw',k⟩:=h;refine ⟨rfl,λcdv A outer s hr=>?_⟩;refine ⟨_,(aK (bQ (i:=3) aA9.nd rfl (Or.inr rfl) (bK FQ18 (hr.mono Dd) (aF (aG 0) (aF (aG 1) (aF (aG 2) aE)))))
  (bF (bZ (hU dA (by rfl) T.b_tuple Kk (aF (fU (eC.of (psc:=bB QG) (N:=["trial","rule","way","came"]) (N':=["other","came"]) (js:=[3]) Kk rfl rfl rfl) (eV rfl T.b_range (aF (bK FQ46 (hr.mono Dd) (aF (aG 0) aE)) aE)) (λ_ _ _ _=>eJ) (λ_ _ _ _=>(bK FQ40 (hr.mono Dd) (aF (aG 1) (aF (aG 0) aE))))) aE))))),?_⟩
 refine ⟨_,rfl,_,rfl,_,rfl,?_⟩;refine jW rt rr RO f1 f4 hx hsh hbo λD xs H1 hD e1 r1 s1=>?_;refine ⟨_,rfl,?_⟩;refine sY (rt.same s1) ?_;refine ⟨_,rfl,Oo,Oo,?_⟩;refine kG (λj y H'=>j<W/\cA H' (fB (cO (hV F es (wq x.2) j))) y) (λj y H1 H2 s ⟨h1,h2⟩=>⟨h1,h2.flat s (dN _)⟩) Oo (λj H' Q' hj s' k'=>?_) (λL ys H2 hL e2 s2 hy hr2=>?_)
 ·rw [show (0:Int)+(j:Int)=(j:Int) by omega];refine ⟨_,rfl,_,rfl,?_⟩;refine qJ (s' _ _ e1) (NY s'.t r1) RO f4 Oo hsh λv H3 s3 r3=>?_;exact k' _ H3 s3 ⟨Oo,r3⟩
 ·refine ⟨L,ys,rfl,.inl ⟨fM.of e2,λl hl=>?_⟩⟩;have sl:=bE.upd (o:=.tup ys) hl;refine k _ _ ((s1.trans s2).trans sl) (cA.tup bI (bD.ofIdx (by rw [hy,aA,aA,bH];omega) λj y hj=>?_));obtain ⟨h1,h2⟩:=hr2 j y hj;exact ⟨_,by rw [aH,aH,bP h1];rfl,h2.same sl⟩
theorem aCk(F:iQ K "ended_behind" "ended_behind" QM f fd)(T:jS K mg c)(FQ44:eZ dG P w K mg base 3 "total" ["some"] (jL K))(FQ43:eZ dG P w K mg base 2 "times" ["one","other"] (fP K))(FQ25:eZ dG P w K mg base 3 "less" ["one","other"] (kL K)):eA P w K mg base dG 4 f fd ["came","looks"] (gB K):=by
 refine F.oky aCX λvs H Q E h=>?_;unfold gB at h;obtain ⟨D,ys,es,F,W,M,N,B,Ns,n,s,rfl,hD,rx,RO,hsh,k⟩:=h;refine ⟨rfl,λcdv A outer s9 hr=>?_⟩;have few:=RO.few;refine ⟨_,(bF (bZ (bK FQ44 (hr.mono Dd) (aF (rQ (eM.of (psc:=bB QM) (N:=["came","looks"]) (xs:=["counts","says","share"]) (N':=["counts","says","share","looks"]) (js:=[1]) Kk rfl rfl rfl) (fT (aG 0)) (λ_ _ _ _=>yP (eS pK (gL (uB K rfl) (by rfl) T.b_sum Kk (aF (aG 0) aE)) (aG 3) (nomark _))) (λ_ _ _ _=>(bK FQ43 (hr.mono Dd) (aF (aG 2) (aF (bK FQ25 (hr.mono Dd) (aF (kY (v:=.ref c.ONE) rfl T.g_ONE rfl) (aF (bV (jI K) (aG 1) aI (λ_ _=>rfl)) aE))) aE))))) aE)))),?_⟩;refine ⟨_,rfl,D,rfl,⟨_,fM.of hD⟩,?_⟩;refine mG (as:=came F es s) (λq=>decide (q.1.1.sum=n)) (λq x=>BB K H q x) (λq y H'=>cA H' (fB (cO (aS F es q.1.1*wq s q.1.1*(1-s0 q.1)))) y) (λq y H1 H2 s r=>r.flat s (dN _)) (by unfold came;rw [aA];omega) hD rx (λx q H' hq rq s'=>?_) (λL ys H1 hL e1 s1 pr=>?_)
 ·obtain ⟨e,he,rfl⟩:=aD.mp hq;obtain ⟨b,cu,z,y,rfl,hb,hcu,rz,ry⟩:=rq.t s'.t;refine ⟨b,[.ref cu,z,y],rfl,fF.of hb,rfl,λQ' h=>?_,λH5 Q' s5 _ k'=>?_⟩
  ·refine ⟨_,rfl,?_⟩;refine rsT (ns:=ci e.1) (by rw [gG];exact fF.of hcu) ?_;rw [AV];refine ⟨_,rfl,rfl,_,rfl,?_⟩;have:=h H' (bE.refl _);have e2:decide (V.int ((e.1.sum:Nat):Int)=V.int (n:Int))=decide (e.1.sum=n):=by
    rw [decide_eq_decide];exact ⟨λh=>by injection h with h;omega,λh=>by rw [h]⟩
   rw [e2];exact this
  ·obtain ⟨f0,fr,ef,l0,z0,nn0,v0,on0⟩:=(RO.sy e he).hd;have es0:s0 e=rv f0:=v0;obtain ⟨az,vz,rfl,haz,rvz⟩:=rz.t s5.t;rw [ef] at rvz;obtain ⟨y0,hy0,ry0⟩:=rvz.get (i:=0) rfl;have hone:fS K H5 (1,1) (.ref c.ONE):=⟨c.ONE,rfl,lS T.o_ONE⟩;refine ⟨_,rfl,_,rfl,?_⟩;refine pE haz (eI (j:=0) hy0) ?_;refine pR hone ry0.v NB l0 (lL (Fn.one 1) Dd Kk Nat.one_le_two_pow) (z0.up Dd) λq6 H6 hq6 e6 s6=>?_;have ef0:nA (1,1) (AB f0)=cO (1-s0 e):=by
    have:=DV 1 (s0 e);rw [tY,es0,NL l0] at this;rw [es0];exact this
   have zf:jQ 4000 (cO (1-s0 e)):=by
    have e1:rv (cO (1-s0 e))=rv (f0.2-f0.1,f0.2):=by
     rw [cQ,es0];have:=iI l0.pos;have h1:=jU l0.pos;have h2:rv (f0.2-f0.1,f0.2)*((f0.2:Int):Rat)=((f0.2-f0.1:Int):Rat):=jU (f:=(f0.2-f0.1,f0.2)) l0.pos;rw [Rat.intCast_sub] at h2;grind
    have l1:dL (f0.2-f0.1,f0.2):=⟨l0.pos,by
     show Int.gcd (f0.2-f0.1) f0.2=1;have h1:((Int.gcd (f0.2-f0.1) f0.2:Nat):Int) ∣ f0.2-f0.1:=Int.gcd_dvd_left ..;have h2:((Int.gcd (f0.2-f0.1) f0.2:Nat):Int) ∣ f0.2:=Int.gcd_dvd_right ..;have h3:((Int.gcd (f0.2-f0.1) f0.2:Nat):Int) ∣ f0.1:=by
      have:=Int.dvd_sub h2 h1
      rwa [show f0.2-(f0.2-f0.1)=f0.1 by omega] at this
     have h4:=Int.dvd_coe_gcd h3 h2;rw [l0.low] at h4;exact Nat.dvd_one.mp (Int.ofNat_dvd.mp h4)⟩
    rw [fE (bG _) l1 e1];exact ⟨by
     show (f0.2-f0.1).natAbs<2^4000;have h1:=z0.1;have h2:=z0.2;have h3:2^3000+2^3000<=2^4000:=Kk;omega,(z0.up (k:=4000) Dd).2⟩
   rw [ef0] at e6;refine fJ (fS.of ((ry.same s5).same s6)) (fS.new e6) (bG _) (bG _) (fV (RO.aq hsh he) RO.pz.1 RO.pz.2 RO.b2) zf λq7 H7 hq7 e7 s7=>?_;refine k' _ H7 (s6.trans s7) (dB ?_);have em:jB (HI F es s e) (cO (1-s0 e))=cO (aS F es e.1*wq s e.1*(1-s0 e)):=AC _ _;rw [<-em];exact e7
 ·have e3:((came F es s).filter λq=>decide (q.1.1.sum=n)).map (λq:bN × Fr=>cO (aS F es q.1.1*wq s q.1.1*(1-s0 q.1)))=(es.filter λe=>decide (e.1.sum=n)).map λe=>cO (aS F es e.1*wq s e.1*(1-s0 e)):=by unfold came;rw [List.filter_map,List.map_map];rfl
  have r2:=mQ (g:=λq:bN × Fr=>cO (aS F es q.1.1*wq s q.1.1*(1-s0 q.1))) pr;rw [e3] at r2;have fl:∀f∈(es.filter λe=>decide (e.1.sum=n)).map (λe=>cO (aS F es e.1*wq s e.1*(1-s0 e))),Fn (N*Ns^M) (2*B) f:=λf hf=>by
   obtain ⟨e,he,rfl⟩:=aD.mp hf;exact (RO.ends hsh (dY.mp he).1).fq
  refine mK e1 (wJ.of r2) (oR fl RO.pz.1 (aV RO.pz.2 (aO Dd Dd)) (by rw [aA];exact aW (List.length_filter_le ..) few) (aW (dQ 2 RO.b) Kk)) λv H2 s2 r2=>?_;rw [uO (f:=λe:bN=>aS F es e.1*wq s e.1*(1-s0 e)) λe _=>⟨bG _,cQ _⟩] at r2;exact k v H2 (s1.trans s2) r2
theorem aCl(F:iQ K "ended" "ended" QN f fd)(T:jS K mg c)(FQ18:eZ dG P w K mg base 4 "comings" ["trial","rule","way"] (gO K))(FQ23:eZ dG P w K mg base 4 "ended_behind" ["came","looks"] (gB K))(FQ28:eZ dG P w K mg base 1 "most_of" ["rule"] (kJ K)):eA P w K mg base dG 5 f fd ["trial","rule","way"] (oD K):=by
 refine F.oky aBb λvs H Q E h=>?_;unfold oD at h;obtain ⟨t,r,es,F,W,M,N,B,Ns,fs,ws,i,L,x,e,rfl,rt,rr,RO,f1,f4,hx,hsh,hbo,he,hL,hL4,k⟩:=h;refine ⟨rfl,λcdv A outer s hr=>?_⟩;refine ⟨_,(aK (bQ (i:=3) aBb.nd rfl (Or.inr rfl) (bK FQ18 (hr.mono Dd) (aF (aG 0) (aF (aG 1) (aF (aG 2) aE)))))
  (bF (bZ (hU dA (by rfl) T.b_tuple Kk (aF (fU (eC.of (psc:=bB QN) (N:=["trial","rule","way","came"]) (N':=["looks","came"]) (js:=[3]) Kk rfl rfl rfl) (eV rfl T.b_range (aF (cE fR (bK FQ28 (hr.mono Dd) (aF (aG 1) aE)) aI) aE)) (λ_ _ _ _=>eJ) (λ_ _ _ _=>(bK FQ23 (hr.mono Dd) (aF (aG 1) (aF (aG 0) aE))))) aE))))),?_⟩
 refine ⟨_,rfl,_,rfl,_,rfl,?_⟩;refine jW rt rr RO f1 f4 hx hsh hbo λD xs H1 hD e1 r1 s1=>?_;refine ⟨_,rfl,?_⟩;refine zJ (rr.t s1.t) he ?_;rw [hL];refine ⟨_,_,rfl,rfl,_,rfl,Oo,Oo,?_⟩;refine kG (λj y H'=>j<L+1/\cA H' (fB (cO (sM F es (wq x.2) j))) y) (λj y H1 H2 s ⟨h1,h2⟩=>⟨h1,h2.flat s (dN _)⟩) Oo (λj H' Q' hj s' k'=>?_) (λLL ys H2 hL e2 s2 hy hr2=>?_)
 ·rw [show (0:Int)+(j:Int)=(j:Int) by omega];refine ⟨_,rfl,_,rfl,?_⟩;refine qO (s' _ _ e1) (NY s'.t r1) RO hsh λv H3 s3 r3=>?_;exact k' _ H3 s3 ⟨Oo,r3⟩
 ·refine ⟨LL,ys,rfl,.inl ⟨fM.of e2,λl hl=>?_⟩⟩;have sl:=bE.upd (o:=.tup ys) hl;refine k _ _ ((s1.trans s2).trans sl) (cA.tup bI (bD.ofIdx (by rw [hy,aA,aA,bH];omega) λj y hj=>?_));obtain ⟨h1,h2⟩:=hr2 j y hj;exact ⟨_,by rw [aH,aH,bP h1];rfl,h2.same sl⟩
theorem aCq(F:iQ K "average" "average" QO f fd)(T:jS K mg c)(FQ44:eZ dG P w K mg base 3 "total" ["some"] (jL K))(FQ32:eZ dG P w K mg base 5 "onwards" ["trial","rule","way"] (iY K)):eA P w K mg base dG 6 f fd ["trial","rule","way"] (kM K):=by
 refine F.oky aCY λvs H Q E h=>?_;unfold kM at h;obtain ⟨t,r,es,F,W,M,N,B,Ns,fs,ws,i,x,rfl,rt,rr,RO,f1,f4,hx,hsh,hbo,k⟩:=h;refine ⟨rfl,λcdv A outer s hr=>?_⟩;have few:=RO.few;refine ⟨_,(bF (bZ (bK FQ44 (hr.mono Dd) (aF (rR (eM.of (psc:=bB QO) (N:=["trial","rule","way"]) (xs:=["looks","share"]) (N':=["looks","share"]) (js:=[]) Kk rfl rfl rfl) (fT (bK FQ32 (hr.mono Dd) (aF (aG 0) (aF (aG 1) (aF (aG 2) aE))))) (λ_ _ _ _=>eJ) (λ_ _ _ _=>(aG 1))) aE)))),?_⟩;refine ⟨_,rfl,_,rfl,_,rfl,?_⟩;refine qL rt rr RO f1 f4 hx hsh hbo λD xs H1 hD e1 r1 s1=>?_;refine ⟨D,rfl,⟨_,fM.of e1⟩,?_⟩;have r1':bD H1 ((es.filter EN).map λe=>OY (e.1.sum,cO (aS F es e.1*wq x.2 e.1*s0 e))) xs:=by unfold onw at r1;rw [List.map_map] at r1;exact r1
 have fl0:=List.length_filter_le EN es;refine mG (as:=es.filter EN) (λ_=>true) (λe v=>cA H1 (OY (e.1.sum,cO (aS F es e.1*wq x.2 e.1*s0 e))) v) (λe v H'=>cA H' (fB (cO (aS F es e.1*wq x.2 e.1*s0 e))) v) (λx y H1 H2 s r=>r.flat s (dN _)) Oo e1 (Paired.ofRepL r1') (λv e H' he re s'=>?_) (λL zs H2 hL e2 s2 pr=>?_)
 ·obtain ⟨a,us,rfl,ha,rus⟩:=kI (re.same s');obtain ⟨u,z,rfl,ru,rz⟩:=oQ rus;refine ⟨a,[u,z],rfl,fF.of ha,rfl,λQ' h=>h H' (bE.refl _),λH5 Q' s5 _ k'=>?_⟩;exact ⟨_,rfl,k' _ H5 (bE.refl _) (rz.same s5)⟩
 ·rw [pT] at pr;have r2:=mQ (g:=λe:bN=>cO (aS F es e.1*wq x.2 e.1*s0 e)) pr;have fl:∀f∈(es.filter EN).map (λe=>cO (aS F es e.1*wq x.2 e.1*s0 e)),Fn (N*Ns^M) B f:=λf hf=>by
   obtain ⟨e,he,rfl⟩:=aD.mp hf;exact (show Qn (N*Ns^M) B (aS F es e.1*wq x.2 e.1*s0 e) from RO.aqs hsh (dY.mp he).1 0).fq
  refine mK e2 (wJ.of r2) (oR fl RO.pz.1 (aV RO.pz.2 (aO Dd Dd)) (by rw [aA];omega) (aW RO.b2 (aO Dd Dd))) λv H3 s3 r3=>?_;rw [uO (f:=λe:bN=>aS F es e.1*wq x.2 e.1*s0 e) λe _=>⟨bG _,cQ _⟩] at r3;have ef:dF (es.filter EN) (λe:bN=>aS F es e.1*wq x.2 e.1*s0 e)=tK F es (wq x.2):=by
   unfold tK;exact kZ λe _ he=>by rw [Classical.not_not.mp (of_decide_eq_false he)];grind
  rw [ef] at r3;exact k v H3 ((s1.trans s2).trans s3) r3
end
section
variable{F W M N B Ns:Nat}{es fs:List bN}
theorem zQ(R:nJ F es)(d:List Nat):aS F es d=(if d=List.replicate F 0 then 1 else 0)+dF es λe=>aS F es e.1*s0 e*gE F e.1 d:=by
 have all:∀n,n<=es.length->aS F (es.take n) d=(if d=List.replicate F 0 then 1 else 0)+dF (es.take n) λe=>aS F es e.1*s0 e*gE F e.1 d:=λn=>by
  induction n with
  | zero=>intro _;rw [List.take_zero,kF,gM];grind
  | succ n ih =>
   intro hn;have he:=aC (show n<es.length by omega);rw [eW he,gS,R.at he,ih Oo,xD];grind
 have:=all es.length (aJ _)
 rwa [cP] at this
theorem oH(R:nJ F es){d:List Nat}(h:d ∉ es.map (·.1)):aS F es d=0:=by
 rw [zQ R d];obtain ⟨e0,r,h1,h2⟩:=R.root;rw [if_neg λq=>h (by rw [q,h1,aP,h2];exact aL ..)];rw [dJ (g:=λ_=>0) λe he=>?_,oU]
 ·grind
 ·by_cases z:s0 e=0
  ·rw [z];grind
  ·have:gE F e.1 d=0:=by
    unfold gE;rw [fA (g:=λ_=>0) λf hf=>if_neg λq=>h (by rw [<-q];exact R.fwd e he z f hf),lQ]
   rw [this];grind
def lkE(es:List bN)(c:List Nat):Option bN:=es.find? λe=>decide (e.1=c)
theorem YM(nd:(es.map (·.1)).Nodup){e:bN}(he:e∈es):lkE es e.1=some e:=by
 unfold lkE
 induction es with
 | nil=>cases he
 | cons x es ih =>
  rw [aP,List.nodup_cons] at nd;rcases bA.mp he with rfl | he
  ·rw [List.find?_cons_of_pos (by simp)]
  ·have:x.1≠e.1:=λq=>nd.1 (by rw [q];exact aD.mpr ⟨e,he,rfl⟩);rw [List.find?_cons_of_neg (by simpa using this),ih nd.2 he]
theorem SI{c:List Nat}(h:c ∉ es.map (·.1)):lkE es c=none:=by
 unfold lkE;rw [List.find?_eq_none];intro e he q;exact h (aD.mpr ⟨e,he,by simpa using q⟩)
def xF(F:Nat)(es:List bN)(c:List Nat)(j:Nat):Rat:=((lkE es c).map λe=>aS F es c*gI e.2 j).getD 0
theorem pI(R:nJ F es){e:bN}(he:e∈es)(j:Nat):xF F es e.1 j=aS F es e.1*gI e.2 j:=by unfold xF;rw [YM R.nd he];rfl
theorem lB{c:List Nat}(h:c ∉ es.map (·.1))(j:Nat):xF F es c j=0:=by unfold xF;rw [SI h];rfl
theorem IE{α:Type}{l m:List α}(h:l.Perm m)(f:α->Rat):dF l f=dF m f:=by
 induction h with
 | nil=>rfl
 | cons x _ ih=>rw [cW,cW,ih]
 | swap x y l=>rw [cW,cW,cW,cW];grind
 | trans _ _ h1 h2=>exact h1.trans h2
theorem uR{α:Type}[DecidableEq α]{f:α->Rat}:∀{l m:List α},l.Nodup->(∀x∈l,x∈m)->m.Nodup->(∀x∈m,x ∉ l->f x=0)->dF m f=dF l f
 | [],m,_,_,_,h=>by
  rw [dJ (g:=λ_=>0) λx hx=>h x hx (by simp),oU,gM]
 | a::l,m,nd,hs,ndm,h=>by
  rw [List.nodup_cons] at nd;have ha:=hs a (aL ..);rw [IE (List.perm_cons_erase ha),cW,cW];have:dF (m.erase a) f=dF l f:=uR nd.2 (λx hx=>(List.mem_erase_of_ne λq=>nd.1 (by rw [<-q];exact hx)).mpr (hs x (aM _ hx))) (ndm.erase a) λx hx hn=>h x (List.mem_of_mem_erase hx) λq=>by
   rcases bA.mp q with rfl | q
   ·exact (List.Nodup.not_mem_erase ndm) hx
   ·exact hn q
  rw [this]
theorem rW(g:List Nat->Rat):dF es (λe=>g e.1)=dF (es.map (·.1)) g:=by unfold dF;rw [List.map_map];rfl
theorem oX(R:nJ F es){m:List (List Nat)}(ndm:m.Nodup)(hs:∀c∈es.map (·.1),c∈m)(q:List Nat->Rat)(j:Nat):dF es (λe=>aS F es e.1*gI e.2 j*q e.1)=dF m λc=>xF F es c j*q c:=by
 rw [uR (l:=es.map (·.1)) (f:=λc=>xF F es c j*q c) R.nd hs ndm λc _ hn=>by rw [lB hn];grind,<-rW];exact dJ λe he=>by rw [pI R he]
theorem LY(R:nJ F es){m:List (List Nat)}(ndm:m.Nodup)(hs:∀c∈es.map (·.1),c∈m)(q:List Nat->Rat):dF es (λe=>aS F es e.1*q e.1)=dF m λc=>aS F es c*q c:=by
 rw [uR (l:=es.map (·.1)) (f:=λc=>aS F es c*q c) R.nd hs ndm λc _ hn=>by rw [oH R hn];grind,<-rW]
theorem JD(R:nJ F es){g:List Nat->Rat}(h:∀d,g d=(if d=List.replicate F 0 then 1 else 0)+dF es λe=>g e.1*s0 e*gE F e.1 d):∀(n:Nat) (d:List Nat),d.sum<=n->aS F es d=g d:=by
 have step:∀(n:Nat) (d:List Nat),(∀e∈es,e.1.sum+1=d.sum->aS F es e.1=g e.1)->aS F es d=g d:=λn d hd=>by
  rw [zQ R d,h d];congr 1;refine dJ λe he=>?_;by_cases z:d.sum=e.1.sum+1
  ·rw [hd e he z.symm]
  ·rw [vT (R.len e he) z];grind
 intro n
 induction n with
 | zero=>intro d hd;exact step 0 d λe _ q=>Oo
 | succ n ih=>intro d hd;exact step (n+1) d λe _ q=>ih e.1 Oo
def mA(F:Nat)(es fs:List bN)(s:Rat)(c:List Nat):Rat:=s*aS F es c+(1-s)*aS F fs c
def mX(F:Nat)(es fs:List bN)(s:Rat)(c:List Nat)(j:Nat):Rat:=s*xF F es c j+(1-s)*xF F fs c j
noncomputable def mS (F W:Nat) (es fs:List bN) (s:Rat) (c:List Nat):List Fr:=(List.range (1+W)).map λj=>cO (mX F es fs s c j/mA F es fs s c)
open Classical in
noncomputable def mB (F:Nat) (es fs:List bN) (s:Rat) (c:List Nat):Nat:=if mX F es fs s c 0=0 then 1 else 0
def mR(F:Nat)(es fs:List bN)(s:Rat)(c:List Nat):Prop:=mA F es fs s c≠0
noncomputable def mE (F W M:Nat) (es fs:List bN) (s:Rat):List bN:=OW F M (mB F es fs s) (mS F W es fs s)
structure eR(F W M:Nat)(es fs:List bN)(s:Rat):Prop where
 ra:nJ F es
 rb:nJ F fs
 f1:1<=F
 f4:F<=4
 m5:M<=5
 sa:∀e∈es,KG (1+W) e.2
 sb:∀e∈fs,KG (1+W) e.2
 oa:∀e∈es,e.1.sum<=M/\(s0 e≠0->e.1.sum<M)
 ob:∀e∈fs,e.1.sum<=M/\(s0 e≠0->e.1.sum<M)
 s0':0<=s
 s1:s<=1
theorem KG.sum1{n:Nat}{gs:List Fr}(h:KG n gs):gH n (gI gs)=1:=by
 have:=h.one
 rwa [FR,h.len] at this
theorem FI(R:nJ F es)(hs:∀e∈es,KG (1+W) e.2)(c:List Nat)(j:Nat):0<=xF F es c j:=by
 by_cases h:c∈es.map (·.1)
 ·obtain ⟨e,he,rfl⟩:=aD.mp h;rw [pI R he];exact cL (R.nnf _) ((hs e he).nn j)
 ·rw [lB h];exact Rat.le_refl
theorem KJ(R:nJ F es)(hs:∀e∈es,KG (1+W) e.2)(c:List Nat):gH (1+W) (xF F es c)=aS F es c:=by
 by_cases h:c∈es.map (·.1)
 ·obtain ⟨e,he,rfl⟩:=aD.mp h;rw [fA (g:=λj=>aS F es e.1*gI e.2 j) λj _=>pI R he j,nK,(hs e he).sum1];grind
 ·rw [fA (g:=λ_=>0) λj _=>lB h j,lQ,oH R h]
end
section
variable{F W M:Nat}{es fs:List bN}{s:Rat}
theorem eR.ann(I:eR F W M es fs s)(c:List Nat):0<=mA F es fs s c:=by
 have h1:=cL I.s0' (I.ra.nnf c);have h2:=cL (show (0:Rat)<=1-s by have:=I.s1;grind) (I.rb.nnf c);unfold mA;grind
theorem eR.xnn(I:eR F W M es fs s)(c:List Nat)(j:Nat):0<=mX F es fs s c j:=by
 have h1:=cL I.s0' (FI I.ra I.sa c j);have h2:=cL (show (0:Rat)<=1-s by have:=I.s1;grind) (FI I.rb I.sb c j);unfold mX;grind
theorem eR.xsum(I:eR F W M es fs s)(c:List Nat):gH (1+W) (mX F es fs s c)=mA F es fs s c:=by
 unfold mX mA;rw [BI,nK,nK,KJ I.ra I.sa,KJ I.rb I.sb]
theorem eR.keyA(I:eR F W M es fs s)(hs:s≠0){c:List Nat}(h:c∈es.map (·.1)):mR F es fs s c:=by
 obtain ⟨e,he,rfl⟩:=aD.mp h;have h1:=I.ra.posf he;have h2:=cL (show (0:Rat)<=1-s by have:=I.s1;grind) (I.rb.nnf e.1);have h3:0<s:=by have:=I.s0';grind
 have h4:=Rat.mul_pos h3 h1;unfold mR mA;grind
theorem eR.keyB(I:eR F W M es fs s)(hs:s≠1){c:List Nat}(h:c∈fs.map (·.1)):mR F es fs s c:=by
 obtain ⟨e,he,rfl⟩:=aD.mp h;have h1:=I.rb.posf he;have h2:=cL I.s0' (I.ra.nnf e.1);have h3:0<1-s:=by have:=I.s1;grind
 have h4:=Rat.mul_pos h3 h1;unfold mR mA;grind
theorem eR.keys(I:eR F W M es fs s){c:List Nat}(h:mR F es fs s c):(s≠0/\c∈es.map (·.1))\/(s≠1/\c∈fs.map (·.1)):=by
 refine cB λq=>h ?_;unfold mA;have h1:s*aS F es c=0:=by
  by_cases z:s=0
  ·rw [z];grind
  ·rw [oH I.ra λhc=>q (.inl ⟨z,hc⟩)];grind
 have h2:(1-s)*aS F fs c=0:=by
  by_cases z:s=1
  ·rw [z];grind
  ·rw [oH I.rb λhc=>q (.inr ⟨z,hc⟩)];grind
 rw [h1,h2];grind
theorem eR.onA(I:eR F W M es fs s)(hs:s≠0){e:bN}(he:e∈es)(h0:s0 e≠0):mB F es fs s e.1=0:=by
 unfold mB;rw [if_neg];have h1:=I.ra.posf he;have h2:0<s0 e:=by have:=I.ra.nn e he;grind
 have h3:0<s:=by have:=I.s0';grind
 have h4:=Rat.mul_pos h3 (Rat.mul_pos h1 h2);have h5:=cL (show (0:Rat)<=1-s by have:=I.s1;grind) (FI I.rb I.sb e.1 0);have e1:xF F es e.1 0=aS F es e.1*s0 e:=pI I.ra he 0;unfold mX;rw [e1];grind
theorem eR.onB(I:eR F W M es fs s)(hs:s≠1){e:bN}(he:e∈fs)(h0:s0 e≠0):mB F es fs s e.1=0:=by
 unfold mB;rw [if_neg];have h1:=I.rb.posf he;have h2:0<s0 e:=by have:=I.rb.nn e he;grind
 have h3:0<1-s:=by have:=I.s1;grind
 have h4:=Rat.mul_pos h3 (Rat.mul_pos h1 h2);have h5:=cL I.s0' (FI I.ra I.sa e.1 0);have e1:xF F fs e.1 0=aS F fs e.1*s0 e:=pI I.rb he 0;unfold mX;rw [e1];grind
theorem eR.off(I:eR F W M es fs s){c:List Nat}(h:mB F es fs s c=0):(s≠0/\∃e∈es,e.1=c/\s0 e≠0)\/(s≠1/\∃e∈fs,e.1=c/\s0 e≠0):=by
 refine cB λq=>?_;have:mX F es fs s c 0=0:=by
  unfold mX;have h1:s*xF F es c 0=0:=by
   by_cases z:s=0
   ·rw [z];grind
   ·by_cases hc:c∈es.map (·.1)
    ·obtain ⟨e,he,rfl⟩:=aD.mp hc;have:s0 e=0:=cB λy=>q (.inl ⟨z,e,he,rfl,y⟩);rw [pI I.ra he,show gI e.2 0=s0 e from rfl,this];grind
    ·rw [lB hc];grind
  have h2:(1-s)*xF F fs c 0=0:=by
   by_cases z:s=1
   ·rw [z];grind
   ·by_cases hc:c∈fs.map (·.1)
    ·obtain ⟨e,he,rfl⟩:=aD.mp hc;have:s0 e=0:=cB λy=>q (.inr ⟨z,e,he,rfl,y⟩);rw [pI I.rb he,show gI e.2 0=s0 e from rfl,this];grind
    ·rw [lB hc];grind
  rw [h1,h2];grind
 unfold mB at h;rw [if_pos this] at h;cases h
theorem eR.vS(I:eR F W M es fs s)(c:List Nat){j:Nat}(hj:j<1+W):gI (mS F W es fs s c) j=mX F es fs s c j/mA F es fs s c:=by
 unfold gI mS;rw [aT,aH,bP hj];exact cQ _
theorem eR.mul(I:eR F W M es fs s){c:List Nat}(h:mR F es fs s c){j:Nat}(hj:j<1+W):mA F es fs s c*gI (mS F W es fs s c) j=mX F es fs s c j:=by
 rw [I.vS c hj,Rat.div_def];have:mA F es fs s c≠0:=h;grind
theorem eR.tg(I:eR F W M es fs s)(r:(rise F M).length<=400):nB F M (mB F es fs s) (mS F W es fs s) (mR F es fs s) where
 f1:=I.f1
 f4:=I.f4
 m5:=I.m5
 on:=λc h=>by
  rcases I.off h with ⟨_,e,he,rfl,h0⟩ | ⟨_,e,he,rfl,h0⟩
  ·exact (I.oa e he).2 h0
  ·exact (I.ob e he).2 h0
 r:=r
 hd:=λc hc=>by
  refine ⟨cO (mX F es fs s c 0/mA F es fs s c),(List.range W).map λj=>cO (mX F es fs s c (j+1)/mA F es fs s c),?_,?_⟩
  ·unfold mS;rw [Nat.add_comm,List.range_succ_eq_map,aP,List.map_map];rfl
  ·have ha:0<mA F es fs s c:=by
    have h1:=I.ann c;have h2:mA F es fs s c≠0:=hc;grind
   have hx:=I.xnn c 0;have e:mX F es fs s c 0=mA F es fs s c*rv (cO (mX F es fs s c 0/mA F es fs s c)):=by
    rw [cQ,Rat.div_def];grind
   have low:=bG (mX F es fs s c 0/mA F es fs s c);have e2:=jU low.pos;have e3:=iI low.pos;unfold mB;constructor
   ·intro hp;rw [if_neg];intro z;rw [z] at e;have h5:rv (cO (mX F es fs s c 0/mA F es fs s c))=0:=by grind
    have:=fE low NA (by rw [h5,jX]);rw [this] at hp;exact absurd hp Dd
   ·intro h;split at h
    ·cases h
    ·rename_i hn
     refine cB λq=>hn ?_;have nn:0<=rv (cO (mX F es fs s c 0/mA F es fs s c)):=by
      rw [cQ,Rat.div_def];exact cL hx (Rat.le_of_lt (Rat.inv_pos.mpr ha))
     have hp0:0<=(cO (mX F es fs s c 0/mA F es fs s c)).1:=by
      have:0<=(mX F es fs s c 0/mA F es fs s c).num:=Rat.num_nonneg.mpr (by rw [<-cQ (mX F es fs s c 0/mA F es fs s c)];exact nn);exact this
     have z1:(cO (mX F es fs s c 0/mA F es fs s c)).1=0:=Oo;rw [z1] at e2;have:rv (cO (mX F es fs s c 0/mA F es fs s c))=0:=by grind
     rw [e,this];grind
 root:=by
  obtain ⟨e0,r0,h1,h2⟩:=I.ra.root;obtain ⟨g0,q0,h3,h4⟩:=I.rb.root;by_cases z:s=0
  ·exact I.keyB (by rw [z];decide) (by rw [h3,aP,h4];exact aL ..)
  ·exact I.keyA z (by rw [h1,aP,h2];exact aL ..)
 fwd:=λc hc h0 f hf=>by
  rcases I.off h0 with ⟨z,e,he,rfl,hs⟩ | ⟨z,e,he,rfl,hs⟩
  ·exact I.keyA z (I.ra.fwd e he hs f hf)
  ·exact I.keyB z (I.rb.fwd e he hs f hf)
end
section
variable{F W M N B Ns Ds:Nat}{es fs:List bN}{s:Rat}
theorem eR.zero(I:eR F W M es fs s){c:List Nat}(h:¬mR F es fs s c)(j:Nat):mX F es fs s c j=0:=by
 unfold mX;have h1:s*xF F es c j=0:=by
  by_cases z:s=0
  ·rw [z];grind
  ·rw [lB (es:=es) λhc=>h (I.keyA z hc)];grind
 have h2:(1-s)*xF F fs c j=0:=by
  by_cases z:s=1
  ·rw [z];grind
  ·rw [lB (es:=fs) λhc=>h (I.keyB z hc)];grind
 rw [h1,h2];grind
theorem eR.s0m(I:eR F W M es fs s)(c:List Nat):s0 (c,mS F W es fs s c)=mX F es fs s c 0/mA F es fs s c:=I.vS c Oo
theorem eR.onm(I:eR F W M es fs s){c:List Nat}(h:mR F es fs s c):s0 (c,mS F W es fs s c)≠0↔mB F es fs s c=0:=by
 have e:=I.mul h (j:=0) Oo;have e:mA F es fs s c*s0 (c,mS F W es fs s c)=mX F es fs s c 0:=e;have hA:mA F es fs s c≠0:=h;unfold mB;constructor
 ·intro hn;rw [if_neg];intro z;rw [z] at e;exact hn (by grind)
 ·intro hb z;rw [z] at e;rw [if_pos (by grind)] at hb;cases hb
theorem eR.all(I:eR F W M es fs s)(T:nB F M (mB F es fs s) (mS F W es fs s) (mR F es fs s)):∀(n:Nat) {c:List Nat},c.sum<=n->mR F es fs s c->c∈qQ F M (mB F es fs s):=by
 have step:∀(n:Nat) {c:List Nat},(∀d:List Nat,d.sum+1=c.sum->mR F es fs s d->d∈qQ F M (mB F es fs s))->mR F es fs s c->c∈qQ F M (mB F es fs s):=λn c ih hc=>by
  by_cases z:c=List.replicate F 0
  ·obtain ⟨r,hr⟩:=BT (F:=F) (M:=M) (best:=mB F es fs s);rw [z,hr];exact aL ..
  ·rcases I.keys hc with ⟨hs,hk⟩ | ⟨hs,hk⟩
   ·obtain ⟨e,he,h0,f,hf,rfl⟩:=I.ra.bwd c hk z;have hl:=I.ra.len e he;have hd:=ih e.1 (by rw [jO Oo]) (I.keyA hs (aD.mpr ⟨e,he,rfl⟩));exact vB I.f1 T.on hd (I.onA hs he h0) hf
   ·obtain ⟨e,he,h0,f,hf,rfl⟩:=I.rb.bwd c hk z;have hl:=I.rb.len e he;have hd:=ih e.1 (by rw [jO Oo]) (I.keyB hs (aD.mpr ⟨e,he,rfl⟩));exact vB I.f1 T.on hd (I.onB hs he h0) hf
 intro n
 induction n with
 | zero=>intro c hc h;exact step 0 (λd q=>Oo) h
 | succ n ih=>intro c hc h;exact step (n+1) (λd q hd=>ih Oo hd) h
theorem sH:(mE F W M es fs s).map (·.1)=qQ F M (mB F es fs s):=by unfold mE OW;rw [List.map_map];exact List.map_id' _
theorem eR.mem(I:eR F W M es fs s)(T:nB F M (mB F es fs s) (mS F W es fs s) (mR F es fs s)){c:List Nat}:c∈(mE F W M es fs s).map (·.1)↔mR F es fs s c:=by
 rw [sH];exact ⟨T.ruC,I.all T _ (aJ _)⟩
theorem eR.ent(I:eR F W M es fs s){e:bN}(he:e∈mE F W M es fs s):e=(e.1,mS F W es fs s e.1):=by
 obtain ⟨c,_,rfl⟩:=aD.mp he
 rfl
theorem eR.rl(I:eR F W M es fs s)(T:nB F M (mB F es fs s) (mS F W es fs s) (mR F es fs s)):nJ F (mE F W M es fs s) where
 root:=by
  obtain ⟨r,hr⟩:=BT (F:=F) (M:=M) (best:=mB F es fs s);exact ⟨_,_,by unfold mE OW;rw [hr,aP],rfl⟩
 len:=λe he=>by
  obtain ⟨c,hc,rfl⟩:=aD.mp he;exact (FU I.f1 hc).1
 nd:=by rw [sH];exact (zR F I.f4 M I.m5).sublist (mO I.f1)
 srt:=by
  unfold mE OW;rw [List.pairwise_map];exact (sZ F M).sublist (mO I.f1)
 fwd:=λe he h0 f hf=>by
  obtain ⟨c,hc,rfl⟩:=aD.mp he;rw [sH];exact vB I.f1 T.on hc ((I.onm (T.ruC hc)).mp h0) hf
 bwd:=λd hd hn=>by
  rw [sH] at hd;obtain ⟨c,hc,hb,j,hj,e⟩:=LX I.f1 hd hn;exact ⟨(c,mS F W es fs s c),aD.mpr ⟨c,hc,rfl⟩,(I.onm (T.ruC hc)).mpr hb,j,hj,e⟩
 nn:=λe he=>by
  obtain ⟨c,hc,rfl⟩:=aD.mp he;rw [I.s0m,Rat.div_def];have ha:0<mA F es fs s c:=by
   have h1:=I.ann c;have h2:mA F es fs s c≠0:=T.ruC hc;grind
  exact cL (I.xnn c 0) (Rat.le_of_lt (Rat.inv_pos.mpr ha))
theorem eR.flow(I:eR F W M es fs s)(T:nB F M (mB F es fs s) (mS F W es fs s) (mR F es fs s))(d:List Nat):aS F (mE F W M es fs s) d=mA F es fs s d:=by
 refine JD (I.rl T) (λd=>?_) _ d (aJ _);have nd:(qQ F M (mB F es fs s)).Nodup:=(zR F I.f4 M I.m5).sublist (mO I.f1);have e1:dF (mE F W M es fs s) (λe=>mA F es fs s e.1*s0 e*gE F e.1 d)=dF (qQ F M (mB F es fs s)) λc=>mX F es fs s c 0*gE F c d:=by
  rw [<-sH (W:=W),<-rW (es:=mE F W M es fs s) λc=>mX F es fs s c 0*gE F c d];refine dJ λe he=>?_;have hR:=(I.mem T).mp (aD.mpr ⟨e,he,rfl⟩);have:=I.mul hR (j:=0) Oo;rw [I.ent he];show mA F es fs s e.1*gI (mS F W es fs s e.1) 0*gE F e.1 d=_;rw [this]
 rw [e1];have e2:dF (qQ F M (mB F es fs s)) (λc=>mX F es fs s c 0*gE F c d)=s*dF (qQ F M (mB F es fs s)) (λc=>xF F es c 0*gE F c d)+(1-s)*dF (qQ F M (mB F es fs s)) (λc=>xF F fs c 0*gE F c d):=by
  rw [<-nN,<-nN,<-qG];exact dJ λc _=>by unfold mX;grind
 rw [e2];have ea:s*dF (qQ F M (mB F es fs s)) (λc=>xF F es c 0*gE F c d)=s*(aS F es d-if d=List.replicate F 0 then 1 else 0):=by
  by_cases z:s=0
  ·rw [z];grind
  ·have h:=oX I.ra nd (λc hc=>I.all T _ (aJ _) (I.keyA z hc)) (λc=>gE F c d) 0;have h2:=zQ I.ra d;rw [<-h,h2];have:dF es (λe=>aS F es e.1*gI e.2 0*gE F e.1 d)=dF es λe=>aS F es e.1*s0 e*gE F e.1 d:=rfl;rw [this];grind
 have eb:(1-s)*dF (qQ F M (mB F es fs s)) (λc=>xF F fs c 0*gE F c d)=(1-s)*(aS F fs d-if d=List.replicate F 0 then 1 else 0):=by
  by_cases z:s=1
  ·rw [z];grind
  ·have h:=oX I.rb nd (λc hc=>I.all T _ (aJ _) (I.keyB z hc)) (λc=>gE F c d) 0;have h2:=zQ I.rb d;rw [<-h,h2];have:dF fs (λe=>aS F fs e.1*gI e.2 0*gE F e.1 d)=dF fs λe=>aS F fs e.1*s0 e*gE F e.1 d:=rfl;rw [this];grind
 rw [ea,eb];unfold mA;grind
theorem eR.x(I:eR F W M es fs s)(T:nB F M (mB F es fs s) (mS F W es fs s) (mR F es fs s))(c:List Nat){j:Nat}(hj:j<1+W):xF F (mE F W M es fs s) c j=mX F es fs s c j:=by
 by_cases h:mR F es fs s c
 ·have hm:=(I.mem T).mpr h;obtain ⟨e,he,rfl⟩:=aD.mp hm;rw [pI (I.rl T) he,I.flow T];have:=I.mul h hj;have e1:=I.ent he;rw [show e.2=mS F W es fs s e.1 from congrArg Prod.snd e1,this]
 ·rw [lB λq=>h ((I.mem T).mp q),I.zero h]
theorem MA{P C:Nat}{x y:Rat}(hx:Qn P C x)(hy:Qn P C y)(hp:0<P)(h0:0<=x)(hxy:x<=y)(hy0:0<y)(hz:C*P<2^3000):jQ 3000 (cO (x/y)):=by
 obtain ⟨X,eX,bX⟩:=hx;obtain ⟨Y,eY,bY⟩:=hy;have pp:(0:Rat)<(P:Rat):=by exact_mod_cast hp
 have Yp:0<Y:=by
  have:(0:Rat)<(Y:Rat):=by rw [<-eY];exact Rat.mul_pos hy0 pp
  exact_mod_cast this
 have X0:0<=X:=by
  have:(0:Rat)<=(X:Rat):=by rw [<-eX];exact cL h0 (Rat.le_of_lt pp)
  exact_mod_cast this
 have XY:X<=Y:=by
  have:(X:Rat)<=(Y:Rat):=by rw [<-eX,<-eY];exact Rat.mul_le_mul_of_nonneg_right hxy (Rat.le_of_lt pp)
  exact_mod_cast this
 have f:Fn Y.toNat 1 (cO (x/y)):=by
  refine Qn.fq ⟨X,?_,Oo⟩;have e1:((Y.toNat:Nat):Rat)=(Y:Rat):=by
   have:((Y.toNat:Nat):Int)=Y:=Oo;rw [<-lF,this]
  rw [e1,<-eX,<-eY,Rat.div_def];grind
 obtain ⟨h1,h2⟩:=f.num Oo;exact ⟨Oo,Oo⟩
theorem eR.ru(I:eR F W M es fs s)(T:nB F M (mB F es fs s) (mS F W es fs s) (mR F es fs s))(RA:fY F W M N B Ns es)(RB:fY F W M N B Ns fs)(hs:Qn Ds 1 s)(ds:0<Ds)(few:(rise F M).length<=64)(hz:Ds*N*Ns^M<2^2000)(hb:2*B<=2^100):fY F W M (Ds*N) (2*B) Ns (mE F W M es fs s):=by
 have hs':Qn Ds 1 (1-s):=by
  obtain ⟨X,eX,bX⟩:=hs;have dp:(0:Rat)<(Ds:Rat):=by exact_mod_cast ds
  have X0:0<=X:=by
   have:(0:Rat)<=(X:Rat):=by rw [<-eX];exact cL I.s0' (Rat.le_of_lt dp)
   exact_mod_cast this
  refine ⟨(Ds:Int)-X,?_,Oo⟩;rw [Rat.intCast_sub,lF,<-eX];grind
 have qa:∀{es:List bN},fY F W M N B Ns es->∀c,Qn N B (aS F es c):=λR c=>by
  rename_i es'
  by_cases h:c∈es'.map (·.1)
  ·obtain ⟨e,he,rfl⟩:=aD.mp h;exact R.fl e he
  ·rw [oH R.rl h];exact Qn.zero _ _
 have qx:∀{es:List bN},fY F W M N B Ns es->∀c j,Qn N B (xF F es c j):=λR c j=>by
  rename_i es'
  by_cases h:c∈es'.map (·.1)
  ·obtain ⟨e,he,rfl⟩:=aD.mp h;rw [pI R.rl he];exact R.fs e he j
  ·rw [lB h];exact Qn.zero _ _
 have mq:∀c,Qn (Ds*N) (2*B) (mA F es fs s c):=λc=>((hs.mul (qa RA c)).add (hs'.mul (qa RB c))).le Oo;have xq:∀c j,Qn (Ds*N) (2*B) (mX F es fs s c j):=λc j=>((hs.mul (qx RA c j)).add (hs'.mul (qx RB c j))).le Oo;have n0:0<Ds*N:=kR ds RA.n0;have nz:2*B*(Ds*N)<2^3000:=by
  have h1:Ds*N*1<=Ds*N*Ns^M:=dQ _ (Nat.pow_pos RA.s1);rw [Nat.mul_one] at h1;have h2:=Nat.mul_le_mul hb (Nat.le_of_lt (aQ h1 hz));have h3:2^100*2^2000<2^3000:=Kk;omega
 have inv:∀e∈mE F W M es fs s,mR F es fs s e.1:=λe he=>(I.mem T).mp (aD.mpr ⟨e,he,rfl⟩);have apos:∀c,mR F es fs s c->0<mA F es fs s c:=λc h=>by
  have h1:=I.ann c;have h2:mA F es fs s c≠0:=h;grind
 refine ⟨I.rl T,λe he=>?_,λe he=>?_,?_,λe he h0=>?_,λe he=>?_,λe he v=>?_,n0,RA.s1,hz,hb,RA.m⟩
 ·obtain ⟨c,hc,rfl⟩:=aD.mp he;exact (FU I.f1 hc).2
 ·have hR:=inv e he;rw [show e.2=mS F W es fs s e.1 from congrArg Prod.snd (I.ent he)];have xle:∀j,j<1+W->mX F es fs s e.1 j<=mA F es fs s e.1:=λj hj=>by
   rw [<-I.xsum e.1];have h1:=BH (mX F es fs s e.1) hj;have h2:0<=gH (1+W) (λi=>if i=j then 0 else mX F es fs s e.1 i):=FS λi _=>by
    split
    ·exact Rat.le_refl
    ·exact I.xnn _ _
   grind
  refine ⟨by unfold mS;rw [aA,bH],λf hf=>?_,?_⟩
  ·obtain ⟨j,hj,rfl⟩:=aD.mp hf;have hj:=dC.mp hj;refine ⟨bG _,?_,MA (xq _ _) (mq _) n0 (I.xnn _ _) (xle j hj) (apos _ hR) nz⟩;have:0<=mX F es fs s e.1 j/mA F es fs s e.1:=by
    rw [Rat.div_def];exact cL (I.xnn _ _) (Rat.le_of_lt (Rat.inv_pos.mpr (apos _ hR)))
   exact Rat.num_nonneg.mpr this
  ·rw [FR,show (mS F W es fs s e.1).length=1+W by unfold mS;rw [aA,bH]];rw [fA (g:=λj=>(mA F es fs s e.1)⁻¹*mX F es fs s e.1 j) λj hj=>by rw [I.vS _ hj,Rat.div_def];grind,nK,I.xsum];have:=apos _ hR;grind
 ·unfold mE OW;rw [aA];exact aW (mO I.f1).length_le few
 ·have:=(I.onm (inv e he)).mp (by rw [<-I.ent he];exact h0);exact T.on e.1 this
 ·rw [I.flow T];exact mq _
 ·rw [I.flow T];by_cases hv:v<1+W
  ·rw [show e.2=mS F W es fs s e.1 from congrArg Prod.snd (I.ent he),I.mul (inv e he) hv];exact xq _ _
  ·rw [show gI e.2 v=0 from yV (by rw [show e.2=mS F W es fs s e.1 from congrArg Prod.snd (I.ent he)];unfold mS;rw [aA,bH];omega)];rw [show mA F es fs s e.1*0=0 by grind];exact Qn.zero _ _
end
abbrev WN:Stmt:=(top 9)
theorem aCQ:bT ["one","other"] ["one","other"] (bB WN):=⟨rfl,rfl,rfl,Kk,rfl,Kk,Kk⟩
abbrev QI:Stmt:=(top 34)
theorem OF:bT ["rule","share","parts","entry","amount","part"] ["rule","share"] (bB QI):=⟨rfl,rfl,rfl,Kk,rfl,Kk,Kk⟩
@[irreducible] def nX(K:PySem.W.Frag):Sp:=λvs H Q _=>∃(x y:V) (p q:Rat),vs=[x,y]/\fS K H (cO p) x/\fS K H (cO q) y/\0<q/\jQ 4000 (cO p)/\jQ 4000 (cO q)/\nC H Q (cO (p/q))
theorem uV{K:PySem.W.Frag}{H:Hp}{Q:VK}{E:XK}{x y:V}{p q:Rat}(h1:fS K H (cO p) x)(h2:fS K H (cO q) y)(h3:0<q)(z1:jQ 4000 (cO p))(z2:jQ 4000 (cO q))(k:nC H Q (cO (p/q))):nX K [x,y] H Q E:=by unfold nX;exact ⟨x,y,p,q,rfl,h1,h2,h3,z1,z2,k⟩
theorem aAm{q:Rat}(h:0<q):0<(cO q).1/\dL ((cO q).2,(cO q).1)/\rv ((cO q).2,(cO q).1)=q⁻¹:=by
 have low:=bG q;have hp:0<(cO q).1:=by
  have e1:=jU low.pos;rw [cQ] at e1;have:(0:Rat)<(((cO q).1:Int):Rat):=by rw [<-e1];exact Rat.mul_pos h (vR low.pos)
  exact_mod_cast this
 have l2:dL ((cO q).2,(cO q).1):=⟨hp,by show Int.gcd (cO q).2 (cO q).1=1;rw [Int.gcd_comm];exact low.low⟩;refine ⟨hp,l2,?_⟩;have e1:=jU low.pos;rw [cQ] at e1;have e2:=jU l2.pos;have e2:rv ((cO q).2,(cO q).1)*(((cO q).1:Int):Rat)=(((cO q).2:Int):Rat):=e2;have n1:=iI low.pos;have n2:=iI hp;grind
def mJ(H:Hp)(q:Rat)(xs:List Rat)(v:V):Prop:=∃b pv L vs,v=.ref b/\H b=some (.tup [pv,.ref L])/\cA H (fB (cO q)) pv/\H L=some (.lst vs)/\bD H (xs.map λx=>fB (cO x)) vs
theorem xU(xs:List Rat):eQ (xs.map λx=>fB (cO x))=true:=by
 have:=qZ (xs.map cO)
 rwa [List.map_map] at this
theorem mJ.same{H H':Hp}{q:Rat}{xs:List Rat}{v:V}(s:bE H H')(h:mJ H q xs v):mJ H' q xs v:=by
 obtain ⟨b,pv,L,vs,h1,h2,h3,h4,h5⟩:=h;exact ⟨b,pv,L,vs,h1,s _ _ h2,h3.same s,s _ _ h4,h5.same s⟩
theorem mJ.but{H H':Hp}{p:Addr}{kvs:List (List dS × V)}{q:Rat}{xs:List Rat}{v:V}(s:aR p H H')(hp:H p=some (.dT kvs))(h:mJ H q xs v):mJ H' q xs v:=by
 obtain ⟨b,pv,L,vs,h1,h2,h3,h4,h5⟩:=h;have t:=aR.tT s hp;exact ⟨b,pv,L,vs,h1,t _ _ h2,h3.flat t (dN _),s.at (λz=>by rw [z,hp] at h4;cases h4) h4,bD.flat t (xU _) h5⟩
def OX(F:Nat)(es:List bN)(W:Nat)(s:Rat)(e:bN):List Rat:=(List.range (1+W)).map λj=>aS F es e.1*s*gI e.2 j
def wU(H:Hp)(F W:Nat)(es ds:List bN)(s:Rat)(kvs:List (List dS × V)):Prop:=(s=0/\kvs=[])\/(s≠0/\Paired (λ(e:bN) (p:List dS × V)=>p.1=kT (ci e.1)/\mJ H (aS F es e.1*s) (OX F es W s e) p.2) ds kvs)
theorem wU.mono{H H':Hp}{F W:Nat}{es ds:List bN}{s:Rat}{kvs:List (List dS × V)}(f:∀q xs v,mJ H q xs v->mJ H' q xs v)(h:wU H F W es ds s kvs):wU H' F W es ds s kvs:=by
 rcases h with h | ⟨h1,h2⟩
 ·exact .inl h
 ·exact .inr ⟨h1,Paired.imp' (λe p r=>⟨r.1,f _ _ _ r.2⟩) h2⟩
@[irreducible] def nV(K:PySem.W.Frag):Sp:=λvs H Q _=>∃(r sv:V) (es:List bN) (F W M N B Ns Ds:Nat) (s:Rat),vs=[r,sv]/\kH K H es r/\fY F W M N B Ns es/\1<=F/\F<=4/\nE K H (cO s) sv/\Qn Ds 1 s/\0<Ds/\N*Ds<2^2500/\W<=4/\∀d kvs H',H d=none->bE H H'->H' d=some (.dT kvs)->wU H' F W es es s kvs->Q (.ref d) H'
theorem uU{K:PySem.W.Frag}{H:Hp}{Q:VK}{E:XK}{r sv:V}{es:List bN}{F W M N B Ns Ds:Nat}{s:Rat}(h1:kH K H es r)(h2:fY F W M N B Ns es)(h3:1<=F)(h4:F<=4)(h5:nE K H (cO s) sv)(h6:Qn Ds 1 s)(h7:0<Ds)(h8:N*Ds<2^2500)(h9:W<=4)(k:∀d kvs H',H d=none->bE H H'->H' d=some (.dT kvs)->wU H' F W es es s kvs->Q (.ref d) H'):nV K [r,sv] H Q E:=by unfold nV;exact ⟨r,sv,es,F,W,M,N,B,Ns,Ds,s,rfl,h1,h2,h3,h4,h5,h6,h7,h8,h9,k⟩
theorem qR{R:bN->List dS × V->Prop}:∀{ds:List bN}{kvs:List (List dS × V)},Paired (λ(e:bN) (p:List dS × V)=>p.1=kT (ci e.1)/\R e p) ds kvs->kvs.map (·.1)=ds.map λe=>kT (ci e.1)
 | _,_,.nil=>rfl
 | _,_,.cons r t=>by rw [aP,aP,qR t,r.1]
theorem vD{α β:Type}{R:α->β->Prop}:∀{l:List α}{zs:List β}{x:α}{v:β},Paired R l zs->R x v->Paired R (l++[x]) (zs++[v])
 | _,_,_,_,.nil,h=>.cons h .nil
 | _,_,_,_,.cons r t,h=>.cons r (vD t h)
theorem GV(f:Fr):SeqAt.shaped (fB f)=true:=(lM.tup (n:=1) (λd hd'=>by
 rcases bA.mp hd' with rfl | hd'
 ·exact lM.int _
 ·rw [bM.mp hd'];exact lM.int _)).ok
theorem ST(f g:Fr):PyData.eqv (fB f) (fB g)=decide (f=g):=by
 obtain ⟨a,b⟩:=f;obtain ⟨c,d⟩:=g;show ((a == c)&&((b == d)&&true))=_;rw [Bool.eq_iff_iff];simp
section
theorem aCa(F:iQ K "over" "over" WN f fd)(T:jS K mg c)(FQ43:eZ dG P w K mg base 2 "times" ["one","other"] (fP K)):eA P w K mg base dG 3 f fd ["one","other"] (nX K):=by
 refine F.oky aCQ λvs H Q E h=>?_;unfold nX at h;obtain ⟨x,y,p,q,rfl,h1,h2,q0,z1,z2,k⟩:=h;refine ⟨rfl,λcdv A outer s hr=>?_⟩;obtain ⟨hp,l2,e2⟩:=aAm q0;obtain ⟨p2,rfl,e⟩:=h2;refine ⟨_,(aK (iO (eS pK (bV bR (aG 1) aI (λ_ _=>rfl)) aI (nomark _)) (bF PN) eK)
  (aK (iO (eS aAS (bV bR (aG 1) aI (λ_ _=>rfl)) aI (nomark _)) (bF (bZ (bK FQ43 (hr.mono Dd) (aF (aG 0) (aF (cY (aF (FL yW (bV bR (aG 1) aI (λ_ _=>rfl))) (aF (FL yW (bV bR (aG 1) aI (λ_ _=>rfl))) aE))) aE))))) eK)
  (bF (bZ (bK FQ43 (hr.mono Dd) (aF (aG 0) (aF (cY (aF (bV bR (aG 1) aI (λ_ _=>rfl)) (aF (bV bR (aG 1) aI (λ_ _=>rfl)) aE))) aE))))))),?_⟩
 refine ⟨_,rfl,?_⟩;refine nH e rfl ?_;refine ⟨rfl,_,rfl,?_⟩;refine pM (cI λz=>by injection z with z;omega) ?_;refine ⟨_,rfl,?_⟩;refine nH e rfl ?_;refine ⟨_,_,rfl,rfl,_,rfl,?_⟩;refine pM (cI Oo) ?_;refine ⟨_,rfl,_,rfl,?_⟩;refine nH e rfl ?_;refine ⟨_,rfl,?_⟩;refine nH e rfl ?_;refine mC (by show 2<=64;decide) λp3 H3 hp3 e3 s3=>?_;refine fJ (fS.same s3 h1) (fS.new (f:=((cO q).2,(cO q).1)) e3) (bG _) l2 z1 ⟨z2.2,z2.1⟩ ?_;have em:jB (cO p) ((cO q).2,(cO q).1)=cO (p/q):=fE (iH (bG _) l2) (bG _) (by rw [lE (bG _).pos l2.pos,e2,cQ,cQ,Rat.div_def]);rw [em];exact k.of s3
theorem aB9(F:iQ K "parts_of" "parts_of" QI f fd)(T:jS K mg c)(FQ16:eZ dG P w K mg base 3 "amounts" ["rule"] (iM K))(FQ43:eZ dG P w K mg base 2 "times" ["one","other"] (fP K)):eA P w K mg base dG 4 f fd ["rule","share"] (nV K):=by
 refine F.oky OF λvs H Q E h=>?_;unfold nV at h;obtain ⟨r,sv,es,F,W,M,N,B,Ns,Ds,sh,rfl,rr,RO,f1,f4,rs,sq,d0,nd,w4,k⟩:=h;refine ⟨rfl,λcdv A outer s hr=>?_⟩;obtain ⟨a,xs,rfl,ha,lx,rxs⟩:=id rr;have few:=RO.few;have nd0:0<N*Ds:=kR RO.n0 d0;refine ⟨_,(aK (bQ (i:=2) OF.nd rfl (Or.inl rfl) uI)
  (aK (gK PassesOwn.never rfl (uF true true rfl T.b_zip (aF (aG 0) (aF (bK FQ16 (hr.mono Dd) (aF (aG 0) aE)) aE))) (lC rfl (dM (dD (i:=3) OF.nd rfl (Or.inl rfl)) (dM (dD (i:=4) OF.nd rfl (Or.inl rfl)) jF))) (aK (bQ (i:=5) OF.nd rfl (Or.inr rfl) (bK FQ43 (hr.mono Dd) (aF (bV bR (aG 4) aI (λ_ _=>rfl)) (aF (aG 1) aE))))
  (bF (iO (eS (MR K hr.units) (aG 5) (kY (v:=.ref c.NOUGHT) rfl T.g_NOUGHT rfl) (nomark _)) (bF (oS hr.u1 (aG 2) (bV bR (aG 3) aI (λ_ _=>rfl)) (cY (aF (aG 5) (aF (fU (eC.of (psc:=bB QI) (N:=["rule","share","parts","entry","amount","part"]) (N':=["one","part"]) (js:=[5]) Kk rfl rfl rfl) (rM (bV bR (aG 3) aI (λ_ _=>rfl))) (λ_ _ _ _=>eJ) (λ_ _ _ _=>(bK FQ43 (hr.mono Dd) (aF (aG 1) (aF (aG 0) aE))))) aE))))) eK))))
  (bF (bZ (aG 2))))),?_⟩
 intro p hp;have s0':=bE.upd (o:=.dT []) hp;have e0p:(upd H p (.dT [])) p=some (.dT []):=bI;generalize upd H p (.dT [])=H0 at s0' e0p;refine ⟨_,rfl,_,rfl,?_⟩;refine iS (rr.t s0'.t) RO f1 f4 λam ys H2 s2 e2 ly k2=>?_;have s02:=s0'.trans s2;have e2p:=s2 _ _ e0p;refine ⟨a,am,xs,ys,rfl,s02 _ _ ha,e2,?_⟩;have na:a≠p:=λz=>by rw [z,hp] at ha;cases ha
 have nam:am≠p:=λz=>by rw [z,e2p] at e2;cases e2
 refine tZ (xs:=xs) (ys:=ys) (λi σ H'=>∃(o3 o4 o5:Option V) (kvs:List (List dS × V)),σ=[some (.ref a),some sv,some (.ref p),o3,o4,o5]/\aR p H2 H'/\H' p=some (.dT kvs)/\wU H' F W es (es.take i) sh kvs) ⟨_,_,_,[],rfl,(bE.refl _).but,e2p,by by_cases z:sh=0;exact .inl ⟨z,rfl⟩;exact .inr ⟨z,.nil⟩⟩ (λi σ H' ⟨_,_,_,_,_,b',_⟩=>⟨b'.at na (s02 _ _ ha),b'.at nam e2⟩) ?_ ?_
 ·rintro i y z q3 σ H3 H4 hy hz ⟨o3,o4,o5,kvs,rfl,b3,e3,r3⟩ hq3 e4 s4;obtain ⟨e,he,re⟩:=rxs i y hy;have hee:=aZ he;have hi:i<es.length:=(aN.mp he).1;have t23:=aR.tT b3 e2p;have t24:=t23.trans s4.t;have t04:=s02.t.trans t24;obtain ⟨b,cu,v,rfl,hb,hcu,rv'⟩:=re.t t04;obtain ⟨bz,cz,va,hbz,hbz2,_,fva⟩:=k2 i e he;rw [hz] at hbz;cases hbz;have e4p:H4 p=some (.dT kvs):=s4 _ _ e3;refine ⟨q3,_,rfl,fF.of e4,rfl,_,_,rfl,_,_,rfl,rfl,?_⟩;refine ⟨_,rfl,?_⟩;refine pE (t24 _ _ hbz2) rfl ?_;refine ⟨_,rfl,?_⟩;have dz:Ds<2^3000:=by
   have h1:1*Ds<=N*Ds:=cC _ RO.n0;rw [Nat.one_mul] at h1;exact aQ h1 (aV nd (aO Dd Dd))
  refine fJ (fva.t t24).v (rs.t t04).v (bG _) (bG _) (fV (RO.fl e hee) RO.n0 RO.nz RO.b2) (lL sq.fq d0 dz Nat.one_le_two_pow) λq5 H5 hq5 e5 s5=>?_;rw [AC] at e5;have pq:Qn (N*Ds) B (aS F es e.1*sh):=by have:=(RO.fl e hee).mul sq;rwa [Nat.mul_one] at this
  have hnz:fS K H5 (0,1) (.ref c.NOUGHT):=⟨c.NOUGHT,rfl,lS T.o_NOUGHT⟩;refine ⟨_,rfl,?_⟩;refine reK (fS.new e5).k hnz.k (GV _) (GV _) ?_;rw [ST];refine ⟨_,rfl,?_⟩;have fpos:=RO.rl.posf hee;by_cases z:sh=0
  ·have ez:cO (aS F es e.1*sh)=(0,1):=by rw [z,show aS F es e.1*0=0 by grind,rA]
   rw [ez];refine pM Dd ?_;refine ⟨_,_,_,kvs,rfl,b3.trans (s4.trans s5).but,s5 _ _ e4p,?_⟩;rcases r3 with ⟨_,rfl⟩ | ⟨h,_⟩
   ·exact .inl ⟨z,rfl⟩
   ·exact absurd z h
  ·have en:¬cO (aS F es e.1*sh)=(0,1):=λq=>by
    have h1:=congrArg rv q;rw [cQ,show rv (0,1)=0 from jX] at h1;have:aS F es e.1≠0:=by grind
    rcases Rat.mul_eq_zero.mp h1 with h | h
    ·exact this h
    ·exact z h
   rw [cI en];refine GN Dd ?_;rcases r3 with ⟨h,_⟩ | ⟨_,r3⟩
   ·exact absurd h z
   obtain ⟨sa,sx,rfl,hsa,rsx⟩:=rv';have ls:e.2.length=1+W:=(RO.sy e hee).len;refine ⟨_,rfl,_,rfl,?_⟩;refine pE (s5 _ _ hb) rfl ?_;refine ⟨sa,rfl,⟨_,fF.of (s5 _ _ hsa)⟩,?_⟩;refine xY (λj y H'=>cA H' (fB (cO (aS F es e.1*sh*gI e.2 j))) y) (λj y H1 H2 s r=>r.flat s (dN _)) (by rw [rsx.len,ls];omega) (s5 _ _ hsa) (λj x H' Q' hx s' k'=>?_) (λD zs H6 hD e6 s6 hy6 hr6=>?_)
   ·obtain ⟨g,hg,rg⟩:=rsx.at_ j x hx;obtain ⟨lg,_,zg⟩:=(RO.sy e hee).at_ g (aZ hg);refine ⟨_,rfl,_,rfl,?_⟩;refine fJ (fS.new (s' _ _ e5)) ((rg.t s5.t).t s'.t).v (bG _) lg (fV pq nd0 nd RO.b2) (zg.up Dd) λq7 H7 hq7 e7 s7=>?_;refine k' _ H7 s7 (dB ?_);have em:jB (cO (aS F es e.1*sh)) g=cO (aS F es e.1*sh*gI e.2 j):=fE (iH (bG _) lg) (bG _) (by rw [lE (bG _).pos lg.pos,cQ,cQ,DN hg]);rw [<-em];exact e7
   ·refine mC (by show 2<=64;decide) λq7 H7 hq7 e7 s7=>?_;have s47:=(s5.trans s6).trans s7;refine ⟨_,rfl,_,rfl,?_⟩;refine pE (s47 _ _ hb) rfl ?_;have lk:kvs.length=(es.take i).length:=r3.length.symm;refine dpT (s47 _ _ e4p) (c:=ci e.1) (by rw [gG];exact s47 _ _ hcu) (by rw [lk,cH];omega) λH8 e8 b8=>?_;have keys:=qR r3;have new:eN kvs (kT (ci e.1))=none:=by
     cases q:eN kvs (kT (ci e.1)) with
     | none=>rfl
     | some u =>
      exfalso;have h1:=qB q;rw [keys] at h1;obtain ⟨e',h2,h3⟩:=aD.mp h1;have h4:e'.1=e.1:=lK (lH h3);have h5:=RO.rl.nd;rw [<-List.take_append_drop i es,bO] at h5;have h6:e.1∈(es.drop i).map (·.1):=by
       rw [List.drop_eq_getElem_cons hi,aP];have:es[i]=e:=by rw [aC hi] at he;exact dX he
       rw [this];exact aL ..
      exact (List.nodup_append.mp h5).2.2 _ (aD.mpr ⟨e',h2,h4⟩) _ h6 rfl
    rw [vC _ new] at e8;refine ⟨_,_,_,_,rfl,(b3.trans (s4.trans s47).but).trans b8,e8,.inr ⟨z,?_⟩⟩;rw [eW he];have e7p:=s47 _ _ e4p;have lst:H7 D=some (.lst zs):=s7 _ _ e6;have pt:mJ H7 (aS F es e.1*sh) (OX F es W sh e) (.ref q7):=by
     refine ⟨q7,_,D,zs,rfl,e7,dB (s7 _ _ (s6 _ _ e5)),lst,?_⟩;refine bD.ofIdx (by unfold OX;rw [hy6,aA,aA,bH,rsx.len,ls]) λj y hj=>?_;have hj':j<1+W:=by
      have:=(aN.mp hj).1;rw [hy6,rsx.len,ls] at this;exact this
     exact ⟨_,by unfold OX;rw [aH,aH,bP hj'];rfl,(hr6 j y hj).same s7⟩
    exact vD (Paired.imp' (λe p r=>⟨r.1,((r.2.same (s4.trans s47)).but b8 e7p)⟩) r3) ⟨rfl,pt.but b8 e7p⟩
 ·rintro σ H3 ⟨o3,o4,o5,kvs,rfl,b3,e3,r3⟩;refine ⟨_,rfl,?_⟩;rw [show es.take (min xs.length ys.length)=es from List.take_of_length_le Oo] at r3;exact k p kvs H3 hp (bE.thru hp s02 b3) e3 r3
end
abbrev IM:Stmt:=(top 35)
theorem ZO:bT ["one","other","whole"] ["one","other"] (bB IM):=⟨rfl,rfl,rfl,Kk,rfl,Kk,Kk⟩
abbrev Po:=Option (Rat × List Rat)
def PtO(H:Hp)(o:Po)(v:V):Prop:=match o with
 | none=>v=.non
 | some p=>mJ H p.1 p.2 v
def xH(o:Po):Rat:=(o.map (·.1)).getD 0
def xB(o:Po)(j:Nat):Rat:=(o.map λp=>p.2.getD j 0).getD 0
structure JX(m P C:Nat)(o:Po):Prop where
 pos:∀p,o=some p->0<p.1/\Qn P C p.1/\p.2.length=m/\∀x∈p.2,Qn P C x
@[irreducible] def lD(K:PySem.W.Frag)(n:Nat):Sp:=λvs H Q _=>∃(x y:V) (a b:Po) (m P C:Nat),vs=[x,y]/\PtO H a x/\PtO H b y/\1<=n/\(a≠none\/(2<=n/\b≠none))/\JX m P C a/\JX m P C b/\0<P/\P<2^2500/\C<=2^190/\m<=5/\∀v H',bE H H'->cA H' (pX ((List.range m).map λj=>cO ((xB a j+xB b j)/(xH a+xH b)))) v->Q v H'
theorem BN{K:PySem.W.Frag}{n:Nat}{H:Hp}{Q:VK}{E:XK}{x y:V}{a b:Po}{m P C:Nat}(h1:PtO H a x)(h2:PtO H b y)(h3:1<=n)(h4:a≠none\/(2<=n/\b≠none))(h5:JX m P C a)(h6:JX m P C b)(h7:0<P)(h8:P<2^2500)(h9:C<=2^190)(h10:m<=5)(k:∀v H',bE H H'->cA H' (pX ((List.range m).map λj=>cO ((xB a j+xB b j)/(xH a+xH b)))) v->Q v H'):lD K n [x,y] H Q E:=by
 unfold lD;exact ⟨x,y,a,b,m,P,C,rfl,h1,h2,h3,h4,h5,h6,h7,h8,h9,h10,k⟩
theorem vW{H:Hp}{xs:List Rat}{vs:List V}(r:bD H (xs.map λx=>fB (cO x)) vs){i:Nat}{v:V}(h:vs[i]?=some v):∃x,xs[i]?=some x/\cA H (fB (cO x)) v:=by
 have r':bD H ((xs.map cO).map fB) vs:=by rw [List.map_map];exact r
 obtain ⟨f,h1,h2⟩:=gQ r' h;rw [aH] at h1;cases hx:xs[i]? with
 | none=>rw [hx] at h1;cases h1
 | some x=>rw [hx] at h1;cases h1;exact ⟨x,rfl,h2⟩
section
theorem aBA(F:iQ K "says_of_parts" "says_of_parts" IM f fd)(T:jS K mg c):eA P w K mg base dG 4 f fd ["one","other"] (lD K 0):=by
 refine F.okw ZO (λvs H Q E h=>?_) (λcdv A outer s H vs Q E hr h=>?_)
 ·unfold lD at h;obtain ⟨x,y,a,b,m,P,C,_,_,_,h,_⟩:=h;omega
 ·unfold lD at h;obtain ⟨x,y,a,b,m,P,C,_,_,_,h,_⟩:=h;omega
theorem aB2(n:Nat)(F:iQ K "says_of_parts" "says_of_parts" IM f fd)(T:jS K mg c)(FQ33:eZ dG P w K mg base 3 "over" ["one","other"] (nX K))(FQ35:eZ dG P w K mg base 2 "plus" ["one","other"] (lA K))(FQ41:eZ dG P w K mg base (4+n) "says_of_parts" ["one","other"] (lD K n)):eA P w K mg base dG (4+n+1) f fd ["one","other"] (lD K (n+1)):=by
 refine F.oky ZO λvs H Q E h=>?_;unfold lD at h;obtain ⟨x,y,a,b,m,Pn,C,rfl,pa,pb,n1,hor,oa,ob,p0,p1,c1,m5,k⟩:=h;refine ⟨rfl,λcdv A outer s hr=>?_⟩;refine ⟨_,(aK (iO (eS MS (aG 0) KP (nomark _)) (bF (bZ (bK FQ41 (hr.mono Oo) (aF (aG 1) (aF (aG 0) aE))))) eK)
  (aK (iO (eS MS (aG 1) KP (nomark _)) (bF (bZ (hU dA (by rfl) T.b_tuple Kk (aF (fU (eC.of (psc:=bB IM) (N:=["one","other","whole"]) (N':=["part","one"]) (js:=[0]) Kk rfl rfl rfl) (fT (bV bR (aG 0) aI (λ_ _=>rfl))) (λ_ _ _ _=>eJ) (λ_ _ _ _=>(bK FQ33 (hr.mono Oo) (aF (aG 0) (aF (bV (jI K) (aG 1) aI (λ_ _=>rfl)) aE))))) aE)))) eK)
  (aK (bQ (i:=2) ZO.nd rfl (Or.inr rfl) (bK FQ35 (hr.mono Oo) (aF (bV bR (aG 0) aI (λ_ _=>rfl)) (aF (bV bR (aG 1) aI (λ_ _=>rfl)) aE))))
  (bF (bZ (hU dA (by rfl) T.b_tuple Kk (aF (rR (eM.of (psc:=bB IM) (N:=["one","other","whole"]) (xs:=["first","second"]) (N':=["first","second","whole"]) (js:=[2]) Kk rfl rfl rfl) (uF false false rfl T.b_zip (aF (bV bR (aG 0) aI (λ_ _=>rfl)) (aF (bV bR (aG 1) aI (λ_ _=>rfl)) aE))) (λ_ _ _ _=>eJ) (λ_ _ _ _=>(bK FQ33 (hr.mono Oo) (aF (bK FQ35 (hr.mono Oo) (aF (aG 0) (aF (aG 1) aE))) (aF (aG 2) aE))))) aE))))))),?_⟩
 refine ⟨_,rfl,rfl,_,rfl,?_⟩;cases a with
 | none =>
  have hx:x=.non:=pa;subst hx;refine GN (cV rfl) ?_;have hb:2<=n+1/\b≠none:=hor.resolve_left λq=>q rfl;refine ⟨_,rfl,_,rfl,?_⟩;refine BN pb pa Oo (.inl hb.2) ob oa p0 p1 c1 m5 λv H' s' r'=>?_;refine k v H' s' ?_;have e1:∀j,xB b j+xB none j=xB none j+xB b j:=λj=>Rat.add_comm _ _;have e2:xH b+xH none=xH none+xH b:=Rat.add_comm _ _;rw [e2] at r';simp only [e1] at r';exact r'
 | some pr =>
  obtain ⟨q1,xs1⟩:=pr;obtain ⟨hq1,nq1,lx1,nx1⟩:=oa.pos _ rfl;have lx1:xs1.length=m:=lx1;obtain ⟨b1,pv1,L1,vs1,rfl,hb1,rp1,hL1,rv1⟩:=(show mJ H q1 xs1 x from pa);refine pM (cI λz=>by cases z) ?_;refine ⟨_,rfl,rfl,_,rfl,?_⟩;have lv1:vs1.length=m:=by have:=bD.len rv1;rw [aA] at this;omega
  cases b with
  | none =>
   have hy:y=.non:=pb;subst hy;refine GN (cV rfl) ?_;refine ⟨_,rfl,?_⟩;refine pE hb1 rfl ?_;refine ⟨L1,rfl,⟨_,fM.of hL1⟩,?_⟩;refine sP (λj y H'=>∃x,xs1[j]?=some x/\cA H' (fB (cO (x/q1))) y) (λj y H1 H2 s ⟨x,h1,h2⟩=>⟨x,h1,h2.flat s (dN _)⟩) Oo hL1 (λj v H' Q' hv s' k'=>?_) (λD zs H1 hD e1 s1 hz hr1=>?_)
   ·obtain ⟨x,hx,rx⟩:=vW rv1 hv;refine ⟨_,rfl,_,rfl,?_⟩;refine pE (s' _ _ hb1) rfl ?_;refine uV (fS.of (rx.same s')) (fS.of (rp1.same s')) hq1 (fV (nx1 x (aZ hx)) p0 p1 (aW c1 (aO Dd Dd))) (fV nq1 p0 p1 (aW c1 (aO Dd Dd))) λq2 H2 hq2 e2 s2=>?_;exact k' _ H2 s2 ⟨x,hx,dB e2⟩
   ·refine ⟨D,zs,rfl,.inl ⟨fM.of e1,λl hl=>?_⟩⟩;have sl:=bE.upd (o:=.tup zs) hl;refine k _ _ (s1.trans sl) (cA.tup bI (bD.ofIdx (by rw [hz,aA,aA,bH];omega) λj y hj=>?_));obtain ⟨x,hx,rx⟩:=hr1 j y hj;have hj':j<m:=by have:=(aN.mp hj).1;omega
    refine ⟨_,by rw [aH,aH,bP hj'];rfl,?_⟩;have e2:xB (some (q1,xs1)) j=x:=by show xs1.getD j 0=x;rw [aT,hx];rfl
    show cA _ (fB (cO ((xB (some (q1,xs1)) j+xB none j)/(xH (some (q1,xs1))+xH none)))) y;rw [e2,show xB none j=0 from rfl,show xH (some (q1,xs1))=q1 from rfl,show xH none=0 from rfl,show x+0=x by grind,show q1+0=q1 by grind];exact rx.same sl
  | some pr2 =>
   obtain ⟨q2,xs2⟩:=pr2;obtain ⟨hq2,nq2,lx2,nx2⟩:=ob.pos _ rfl;have lx2:xs2.length=m:=lx2;obtain ⟨b2,pv2,Lb,vs2,rfl,hb2,rp2,hL2,rv2⟩:=(show mJ H q2 xs2 y from pb);have lv2:vs2.length=m:=by have:=bD.len rv2;rw [aA] at this;omega
   have c2:C<=2^200:=aW c1 (aO Dd Dd);have c3:C+C<=2^200:=by
    have:(2:Nat)^190+2^190<=2^200:=Kk;omega
   refine pM (cI λz=>by cases z) ?_;refine ⟨_,rfl,?_⟩;refine pE hb1 rfl ?_;refine ⟨_,rfl,?_⟩;refine pE hb2 rfl ?_;refine lU (fS.of rp1) (fS.of rp2) (bG _) (bG _) (fV nq1 p0 p1 c2) (fV nq2 p0 p1 c2) λq3 H3 hq3 e3 s3=>?_;rw [FC] at e3;have wq':Qn Pn (C+C) (q1+q2):=nq1.add nq2;have w0:0<q1+q2:=by grind
   refine ⟨_,rfl,?_⟩;refine pE (s3 _ _ hb1) rfl ?_;refine ⟨_,rfl,?_⟩;refine pE (s3 _ _ hb2) rfl ?_;refine ⟨L1,Lb,vs1,vs2,rfl,s3 _ _ hL1,s3 _ _ hL2,?_⟩;refine JN (b1:=false) (b2:=false) (xs:=vs1) (ys:=vs2) (λj y H'=>∃x1 x2,xs1[j]?=some x1/\xs2[j]?=some x2/\cA H' (fB (cO ((x1+x2)/(q1+q2)))) y) (λj y H1 H2 s ⟨x1,x2,h1,h2,h3⟩=>⟨x1,x2,h1,h2,h3.flat s (dN _)⟩) Oo (s3 _ _ hL1) (s3 _ _ hL2) Oo (λj v1 v2 H' Q' hv1 hv2 s' k'=>?_) (λD zs H4 hD e4 s4 hz hr4=>?_)
   ·obtain ⟨x1,hx1,rx1⟩:=vW rv1 hv1;obtain ⟨x2,hx2,rx2⟩:=vW rv2 hv2;have n1:=nx1 x1 (aZ hx1);have n2:=nx2 x2 (aZ hx2);have s03:=s3.trans s';refine ⟨_,rfl,_,rfl,?_⟩;refine lU (fS.of (rx1.same s03)) (fS.of (rx2.same s03)) (bG _) (bG _) (fV n1 p0 p1 c2) (fV n2 p0 p1 c2) λq5 H5 hq5 e5 s5=>?_;rw [FC] at e5;refine ⟨_,rfl,?_⟩;refine uV (fS.of (dB e5)) (fS.of (dB ((s'.trans s5) _ _ e3))) w0 (fV (n1.add n2) p0 p1 c3) (fV wq' p0 p1 c3) λq6 H6 hq6 e6 s6=>?_;exact k' _ H6 (s5.trans s6) ⟨x1,x2,hx1,hx2,dB e6⟩
   ·refine ⟨D,zs,rfl,.inl ⟨fM.of e4,λl hl=>?_⟩⟩;have sl:=bE.upd (o:=.tup zs) hl;refine k _ _ ((s3.trans s4).trans sl) (cA.tup bI (bD.ofIdx (by rw [hz,aA,aA,bH];omega) λj y hj=>?_));obtain ⟨x1,x2,hx1,hx2,rx⟩:=hr4 j y hj;have hj':j<m:=by have:=(aN.mp hj).1;omega
    refine ⟨_,by rw [aH,aH,bP hj'];rfl,?_⟩;show cA _ (fB (cO ((xB (some (q1,xs1)) j+xB (some (q2,xs2)) j)/(xH (some (q1,xs1))+xH (some (q2,xs2)))))) y;have e5:xB (some (q1,xs1)) j=x1:=by show xs1.getD j 0=x1;rw [aT,hx1];rfl
    have e6:xB (some (q2,xs2)) j=x2:=by show xs2.getD j 0=x2;rw [aT,hx2];rfl
    rw [e5,e6,show xH (some (q1,xs1))=q1 from rfl,show xH (some (q2,xs2))=q2 from rfl];exact rx.same sl
end
abbrev WQ:Stmt:=(top 33)
theorem OG:bT ["one","other","share","one_parts","other_parts","table","counts"] ["one","other","share"] (bB WQ):=⟨rfl,rfl,rfl,Kk,rfl,Kk,Kk⟩
theorem SD{Ds:Nat}{s:Rat}(hs:Qn Ds 1 s)(ds:0<Ds)(h0:0<=s)(h1:s<=1):Qn Ds 1 (1-s):=by
 obtain ⟨X,eX,bX⟩:=hs;have dp:(0:Rat)<(Ds:Rat):=by exact_mod_cast ds
 have X0:0<=X:=by
  have:(0:Rat)<=(X:Rat):=by rw [<-eX];exact cL h0 (Rat.le_of_lt dp)
  exact_mod_cast this
 refine ⟨(Ds:Int)-X,?_,Oo⟩;rw [Rat.intCast_sub,lF,<-eX];grind
theorem MH{H:Hp}{F W:Nat}{es:List bN}{s:Rat}:∀{ds:List bN}{kvs:List (List dS × V)},Paired (λ(e:bN) (p:List dS × V)=>p.1=kT (ci e.1)/\mJ H (aS F es e.1*s) (OX F es W s e) p.2) ds kvs->(ds.map (·.1)).Nodup->∀e∈ds,∃v,eN kvs (kT (ci e.1))=some v/\mJ H (aS F es e.1*s) (OX F es W s e) v
 | _,_,.nil,_,e,he=>by cases he
 | d::ds,p::kvs,.cons r t,nd,e,he=>by
  rw [aP,List.nodup_cons] at nd;rcases bA.mp he with rfl | he
  ·exact ⟨p.2,fN (by rw [r.1]),r.2⟩
  ·obtain ⟨v,h1,h2⟩:=MH t nd.2 e he;refine ⟨v,?_,h2⟩;have:¬p.1=kT (ci e.1):=λz=>nd.1 (by
    rw [r.1] at z;rw [show d.1=e.1 from lK (lH z)];exact aD.mpr ⟨e,he,rfl⟩)
   rw [fO this];exact h1
theorem wU.po{H:Hp}{F W M N B Ns Ds:Nat}{es:List bN}{s:Rat}{kvs:List (List dS × V)}(h:wU H F W es es s kvs)(R:fY F W M N B Ns es)(hs:Qn Ds 1 s)(s0':0<=s)(c:List Nat) :
  ∃a:Po,PtO H a ((eN kvs (kT (ci c))).getD .non)/\xH a=s*aS F es c/\(∀j,j<1+W->xB a j=s*xF F es c j)/\JX (1+W) (N*Ds) B a/\((s≠0/\c∈es.map (·.1))->a≠none):=by
 have none_:(¬(s≠0/\c∈es.map (·.1)))->eN kvs (kT (ci c))=none->∃a:Po,PtO H a ((eN kvs (kT (ci c))).getD .non)/\xH a=s*aS F es c/\(∀j,j<1+W->xB a j=s*xF F es c j)/\JX (1+W) (N*Ds) B a/\((s≠0/\c∈es.map (·.1))->a≠none):=λhn hv=>by
  refine ⟨none,by rw [hv];rfl,?_,λj _=>?_,⟨λp q=>by cases q⟩,λq=>absurd q hn⟩
  ·by_cases z:s=0
   ·rw [z];show (0:Rat)=_;grind
   ·rw [oH R.rl λhc=>hn ⟨z,hc⟩];show (0:Rat)=_;grind
  ·by_cases z:s=0
   ·rw [z];show (0:Rat)=_;grind
   ·rw [lB λhc=>hn ⟨z,hc⟩];show (0:Rat)=_;grind
 rcases h with ⟨z,rfl⟩ | ⟨z,h⟩
 ·exact none_ (λq=>q.1 z) rfl
 ·by_cases hc:c∈es.map (·.1)
  ·obtain ⟨e,he,rfl⟩:=aD.mp hc;obtain ⟨v,h1,h2⟩:=MH h R.rl.nd e he;refine ⟨some (aS F es e.1*s,OX F es W s e),by rw [h1];exact h2,?_,λj hj=>?_,⟨λp q=>?_⟩,λ_ q=>by cases q⟩
   ·show aS F es e.1*s=_;grind
   ·show (OX F es W s e).getD j 0=_;unfold OX;rw [aT,aH,bP hj,pI R.rl he];show aS F es e.1*s*gI e.2 j=_;grind
   ·cases q;refine ⟨Rat.mul_pos (R.rl.posf he) (by grind),?_,by unfold OX;rw [aA,bH],λx hx=>?_⟩
    ·have:=(R.fl e he).mul hs;rwa [Nat.mul_one] at this
    ·obtain ⟨j,_,rfl⟩:=aD.mp hx;have:=(R.fs e he j).mul hs;rw [Nat.mul_one] at this;rw [show aS F es e.1*s*gI e.2 j=aS F es e.1*gI e.2 j*s by grind];exact this
  ·refine none_ (λq=>hc q.2) ?_;cases q:eN kvs (kT (ci c)) with
   | none=>rfl
   | some u =>
    exfalso;have h1:=qB q;rw [qR h] at h1;obtain ⟨e,he,h3⟩:=aD.mp h1;exact hc (by rw [<-lK (lH h3)];exact aD.mpr ⟨e,he,rfl⟩)
theorem LT{K:PySem.W.Frag}{H:Hp}{gs:List Fr}{v:V}(h:cA H (pX gs) v):OR K H gs v:=by
 obtain ⟨sa,sx,rfl,hsa,r⟩:=sB h;refine ⟨sa,sx,rfl,hsa,⟨gP r,λi x hx=>?_⟩⟩;obtain ⟨f,h1,h2⟩:=gQ r hx;exact ⟨f,h1,.inl h2⟩
theorem GK{H:Hp}{kvs:List (List dS × V)}{ys:List V}{cs:List (List Nat)}(h:wI H kvs ys)(e:kvs.map (·.1)=cs.map λc=>kT (ci c)){i:Nat}{v:V}(hv:ys[i]?=some v):∃c b,cs[i]?=some c/\v=.ref b/\H b=some (.tup ((ci c).map V.int)):=by
 have hi:i<kvs.length:=by rw [<-h.1];exact (aN.mp hv).1
 have hp:=aC hi;obtain ⟨b,h1,h2⟩:=h.2 i _ hp;rw [hv] at h1;cases h1;have e1:=congrArg (λl:List (List dS)=>l[i]?) e;have e1:(kvs.map (·.1))[i]?=(cs.map λc=>kT (ci c))[i]?:=e1;rw [aH,aH,hp] at e1;cases hc:cs[i]? with
 | none=>rw [hc] at e1;cases e1
 | some c =>
  rw [hc] at e1;have e2:kvs[i].1=kT (ci c):=dX e1;refine ⟨c,b,rfl,rfl,?_⟩;rw [h2,e2];congr 2;exact sI (ci c)
def OZ(s:Rat)(es:List bN):List (List Nat):=if s=0 then [] else es.map (·.1)
theorem wU.ks{H:Hp}{F W:Nat}{es:List bN}{s:Rat}{kvs:List (List dS × V)}(h:wU H F W es es s kvs):kvs.map (·.1)=(OZ s es).map λc=>kT (ci c):=by
 unfold OZ;rcases h with ⟨z,rfl⟩ | ⟨z,h⟩
 ·rw [if_pos z];rfl
 ·rw [if_neg z,qR h,List.map_map];rfl
@[irreducible] def nZ(K:PySem.W.Frag):Sp:=λvs H Q _=>∃(x y sv:V) (es fs:List bN) (F W M N B Ns Ds:Nat) (s:Rat),vs=[x,y,sv]/\kH K H es x/\kH K H fs y/\nE K H (cO s) sv/\eR F W M es fs s/\fY F W M N B Ns es/\fY F W M N B Ns fs/\Qn Ds 1 s/\0<Ds/\N*Ds<2^2500/\W<=4/\(rise F M).length<=64/\∀v H',bE H H'->kH K H' (mE F W M es fs s) v->Q v H'
theorem kK{K:PySem.W.Frag}{H:Hp}{Q:VK}{E:XK}{x y sv:V}{es fs:List bN}{F W M N B Ns Ds:Nat}{s:Rat}(h1:kH K H es x)(h2:kH K H fs y)(h3:nE K H (cO s) sv)(h4:eR F W M es fs s)(h5:fY F W M N B Ns es)(h6:fY F W M N B Ns fs)(h7:Qn Ds 1 s)(h8:0<Ds)(h9:N*Ds<2^2500)(h10:W<=4)(h11:(rise F M).length<=64)(k:∀v H',bE H H'->kH K H' (mE F W M es fs s) v->Q v H'):nZ K [x,y,sv] H Q E:=by
 unfold nZ;exact ⟨x,y,sv,es,fs,F,W,M,N,B,Ns,Ds,s,rfl,h1,h2,h3,h4,h5,h6,h7,h8,h9,h10,h11,k⟩
section
theorem aCg(F:iQ K "mixed" "mixed" WQ f fd)(T:jS K mg c)(FQ34:eZ dG P w K mg base 4 "parts_of" ["rule","share"] (nV K))(FQ25:eZ dG P w K mg base 3 "less" ["one","other"] (kL K))(FQ41:eZ dG P w K mg base 6 "says_of_parts" ["one","other"] (lD K 2))(FQ38:eZ dG P w K mg base 5 "rule_within" ["faces","table"] (nQ K))(FQ37:eZ dG P w K mg base 1 "rule_faces" ["rule"] (gF K)):eA P w K mg base dG 7 f fd ["one","other","share"] (nZ K):=by
 refine F.oky OG λvs H Q E h=>?_;unfold nZ at h;obtain ⟨x,y,sv,es,fs,F,W,M,N,B,Ns,Ds,sh,rfl,rx,ry,rs,I,RA,RB,sq,d0,nd,w4,few,k⟩:=h;refine ⟨rfl,λcdv A outer s hr=>?_⟩;have nd0:0<N*Ds:=kR RA.n0 d0;have dz:Ds<2^3000:=by
  have h1:1*Ds<=N*Ds:=cC _ RA.n0;rw [Nat.one_mul] at h1;exact aQ h1 (aV nd (aO Dd Dd))
 have sq':=SD sq d0 I.s0' I.s1;refine ⟨_,(aK (bQ (i:=3) OG.nd rfl (Or.inl rfl) (bK FQ34 (hr.mono Dd) (aF (aG 0) (aF (aG 2) aE))))
  (aK (bQ (i:=4) OG.nd rfl (Or.inl rfl) (bK FQ34 (hr.mono Dd) (aF (aG 1) (aF (bK FQ25 (hr.mono Dd) (aF (kY (v:=.ref c.ONE) rfl T.g_ONE rfl) (aF (aG 2) aE))) aE))))
  (aK (bQ (i:=5) OG.nd rfl (Or.inl rfl) uI)
  (aK (gK PassesOwn.never rfl (fT (cE vF (hU (DC rfl) (by rfl) T.b_list Kk (aF (aG 3) aE)) (hU (DC rfl) (by rfl) T.b_list Kk (aF (aG 4) aE)))) (dD (i:=6) OG.nd rfl (Or.inl rfl)) (bF (oS hr.u1 (aG 5) (aG 6) (bK FQ41 (hr.mono Dd) (aF (FM hr.u1 (aG 3) (aG 6)) (aF (FM hr.u1 (aG 4) (aG 6)) aE))))))
  (bF (bZ (bK FQ38 (hr.mono Dd) (aF (bK FQ37 (hr.mono Dd) (aF (aG 0) aE)) (aF (aG 5) aE))))))))),?_⟩
 refine ⟨_,rfl,_,rfl,?_⟩;refine uU rx RA I.f1 I.f4 rs sq d0 nd w4 λd1 kv1 H1 hd1 s1 e1 ps1=>?_;refine ⟨_,rfl,?_⟩;have hoc:fS K H1 (1,1) (.ref c.ONE):=⟨c.ONE,rfl,lS T.o_ONE⟩;refine ⟨_,rfl,?_⟩;refine pR hoc (rs.t s1.t).v NB (bG _) (lL (Fn.one 1) Dd Kk Nat.one_le_two_pow) (lL sq.fq d0 dz Nat.one_le_two_pow) λq2 H2 hq2 e2 s2=>?_;have ef0:nA (1,1) (AB (cO sh))=cO (1-sh):=by rw [<-tY,DV]
 rw [ef0] at e2;refine uU (ry.t (s1.trans s2).t) RB I.f1 I.f4 (.inl (dB e2)) sq' d0 nd w4 λd3 kv3 H3 hd3 s3 e3 ps3=>?_;have s13:=s2.trans s3;have ps1':=ps1.mono λ_ _ _ h=>mJ.same s13 h;have S3:=s1.trans s13;have l1:kv1.length<=64:=by
  have:=congrArg List.length ps1.ks;rw [aA,aA] at this;rw [this];unfold OZ;split
  ·exact cM _
  ·rw [aA];exact RA.few
 have l3:kv3.length<=64:=by
  have:=congrArg List.length ps3.ks;rw [aA,aA] at this;rw [this];unfold OZ;split
  ·exact cM _
  ·rw [aA];exact RB.few
 intro p hp;have s4:=bE.upd (o:=.dT []) hp;have e4:(upd H3 p (.dT [])) p=some (.dT []):=bI;generalize upd H3 p (.dT [])=H4 at s4 e4;have e1':H4 d1=some (.dT kv1):=(s13.trans s4) _ _ e1;have e3':H4 d3=some (.dT kv3):=s4 _ _ e3;refine ⟨_,rfl,?_⟩;refine rlst e1' Oo λD5 ys5 H5 hD5 e5 k5 s5=>?_;refine ⟨_,rfl,?_⟩;refine rlst (s5 _ _ e3') Oo λD6 ys6 H6 hD6 e6 k6 s6=>?_;refine OB (s6 _ _ e5) e6 (by rw [k5.1,k6.1];omega) λD7 H7 hD7 e7 s7=>?_;obtain ⟨cs,hcs⟩:∃cs,cs=OZ sh es++OZ (1-sh) fs:=⟨_,rfl⟩;have lks1:kv1.length=(OZ sh es).length:=by have:=congrArg List.length ps1.ks;rwa [aA,aA] at this
 have lks3:kv3.length=(OZ (1-sh) fs).length:=by have:=congrArg List.length ps3.ks;rwa [aA,aA] at this
 have s67:=s6.trans s7;have at_:∀(i:Nat) (v:V),(ys5++ys6)[i]?=some v->∃c b,cs[i]?=some c/\v=.ref b/\H7 b=some (.tup ((ci c).map V.int)):=λi v hv=>by
  by_cases hi:i<ys5.length
  ·rw [bJ hi] at hv;obtain ⟨c,b,h1,h2,h3⟩:=GK k5 ps1.ks hv;exact ⟨c,b,by rw [hcs,bJ (by rw [<-lks1,<-k5.1];exact hi)];exact h1,h2,s67 _ _ h3⟩
  ·rw [cN Oo] at hv;obtain ⟨c,b,h1,h2,h3⟩:=GK k6 ps3.ks hv;refine ⟨c,b,?_,h2,s7 _ _ h3⟩;rw [hcs,cN (by rw [<-lks1,<-k5.1];omega),<-lks1,<-k5.1];exact h1
 have lcs:cs.length=(ys5++ys6).length:=by rw [hcs,aX,aX,k5.1,k6.1,lks1,lks3]
 have lys:(ys5++ys6).length<=128:=by rw [aX,k5.1,k6.1];omega
 have S47:=(s5.trans s6).trans s7;have e7p:H7 p=some (.dT []):=S47 _ _ e4;have e7a:H7 d1=some (.dT kv1):=S47 _ _ e1';have e7b:H7 d3=some (.dT kv3):=S47 _ _ e3';have n1:d1≠p:=λz=>by rw [z] at e1;rw [(s13 _ _ e1)] at hp;cases hp
 have n3:d3≠p:=λz=>by rw [z] at e3;rw [e3] at hp;cases hp
 have nD:D7≠p:=λz=>by rw [z,(s5.trans s6) _ _ e4] at hD7;cases hD7
 have ps7:=ps1'.mono λ_ _ _ h=>mJ.same (s4.trans S47) h;have ps8:=ps3.mono λ_ _ _ h=>mJ.same (s4.trans S47) h;have cin:∀c∈cs,(sh≠0/\c∈es.map (·.1))\/(1-sh≠0/\c∈fs.map (·.1)):=λc hc=>by
  rw [hcs] at hc;unfold OZ at hc;rcases cT.mp hc with h | h
  ·split at h
   ·cases h
   ·rename_i z;exact .inl ⟨z,h⟩
  ·split at h
   ·cases h
   ·rename_i z;exact .inr ⟨z,h⟩
 refine ⟨D7,rfl,⟨_,fM.of e7⟩,?_⟩;refine mF (xs:=ys5++ys6) (λi σ H'=>∃(o6:Option V) (kvs:List (List dS × V)),σ=[some x,some y,some sv,some (.ref d1),some (.ref d3),some (.ref p),o6]/\aR p H7 H'/\H' p=some (.dT kvs)/\kvs.length<=i/\∀c∈cs.take i,∃v,eN kvs (kT (ci c))=some v/\OR K H' (mS F W es fs sh c) v) ⟨_,[],rfl,(bE.refl _).but,e7p,aJ _,λc hc=>by rw [List.take_zero] at hc;cases hc⟩ (λi σ H' _ ⟨_,_,_,b',_⟩=>fM.of (b'.at nD e7)) ?_ ?_
 ·rintro i v σ H8 hv ⟨o6,kvs,rfl,b8,e8,l8,hk8⟩;obtain ⟨cc,bb,hcc,rfl,hbb⟩:=at_ i v hv;have hi:i<(ys5++ys6).length:=(aN.mp hv).1;have t78:=aR.tT b8 e7p;have hbb8:=t78 _ _ hbb;have e8a:=b8.at n1 e7a;have e8b:=b8.at n3 e7b;obtain ⟨pa,pa1,pa2,pa3,pa4,pa5⟩:=(ps7.mono λ_ _ _ h=>mJ.but b8 e7p h).po RA sq I.s0' cc;obtain ⟨pb,pb1,pb2,pb3,pb4,pb5⟩:=(ps8.mono λ_ _ _ h=>mJ.but b8 e7p h).po RB sq' (by have:=I.s1;grind) cc;have hin:=cin cc (aZ hcc);refine ⟨_,rfl,d1,rfl,.inr ⟨kv1,.inl e8a⟩,_,rfl,_,jP.ct (c:=ci cc) e8a hbb8,?_⟩;refine ⟨_,rfl,d3,rfl,.inr ⟨kv3,.inl e8b⟩,_,rfl,_,jP.ct (c:=ci cc) e8b hbb8,?_⟩;refine BN pa1 pb1 Dd (hin.elim (λh=>.inl (pa5 h)) λh=>.inr ⟨Dd,pb5 h⟩) pa4 pb4 nd0 nd (aW RA.b (aO Dd Dd)) Oo λv9 H9 s9 r9=>?_;have em:((List.range (1+W)).map λj=>cO ((xB pa j+xB pb j)/(xH pa+xH pb)))=mS F W es fs sh cc:=by
   unfold mS;refine dR λj hj=>?_;have hj:=dC.mp hj;rw [pa2,pb2,pa3 j hj,pb3 j hj]
   rfl
  rw [em] at r9;refine ⟨_,rfl,_,rfl,?_⟩;refine dpT (s9 _ _ e8) (c:=ci cc) (s9 _ _ hbb8) Oo λH10 e10 b10=>?_;have t10:=aR.tT b10 (s9 _ _ e8);refine ⟨_,_,rfl,(b8.trans s9.but).trans b10,e10,?_,λc' hc'=>?_⟩
  ·have:=gR kvs (kT (ci cc)) v9;omega
  ·rw [uK];by_cases q:c'=cc
   ·subst q;rw [if_pos rfl];exact ⟨v9,rfl,(LT r9).t t10⟩
   ·rw [if_neg λz=>q (lK (lH z))];rw [eW hcc] at hc';rcases cT.mp hc' with h | h
    ·obtain ⟨u,h1,h2⟩:=hk8 c' h;exact ⟨u,h1,(h2.t s9.t).t t10⟩
    ·exact absurd (bM.mp h) q
 ·rintro σ H8 ⟨o6,kvs,rfl,b8,e8,l8,hk8⟩;rw [<-lcs,cP] at hk8;have S8:bE H H8:=bE.thru ((S3).free hp) ((S3.trans s4).trans S47) b8;have T':=I.tg (W:=W) (aW few Dd);obtain ⟨e0,er,ees,ez0⟩:=RA.rl.root;refine ⟨_,rfl,?_⟩;refine nG (e:=e0) (es:=er) (by rw [<-ees];exact rx.t S8.t) ?_;rw [ez0,bU];refine ⟨_,rfl,?_⟩;refine DX (R:=mR F es fs sh) (sy:=mS F W es fs sh) ⟨kvs,e8,λcc hcc=>hk8 cc ?_⟩ T' λv9 H9 s9 r9=>k v9 H9 (S8.trans s9) r9;rw [hcs];unfold OZ;rcases I.keys hcc with ⟨z,h⟩ | ⟨z,h⟩
  ·exact cJ _ (by rw [if_neg z];exact h)
  ·exact bL _ (by rw [if_neg (λq=>z (by grind))];exact h)
end
abbrev LN:Nat:=144403552893600
theorem aA5:∀s,s<=35->1<=s->s ∣ LN:=Kk
theorem xA{n:Nat}{fs:List Fr}(h:Kt.kP n fs)(hn:n<=5):∀f∈fs,Fn LN 1 f/\0<=f.1/\f.1.natAbs<=35/\f.2.natAbs<=35:=by
 obtain ⟨ns,l,h7,hp,rfl⟩:=h.ex;intro f hf;obtain ⟨x,hx,rfl⟩:=aD.mp hf;have h1:=Kt.oT h7;have h2:=h7 x hx;have hs:ns.sum.natAbs<=35:=Oo;have le:x<=ns.sum:=by
  have:∀{l:List Int},(∀y∈l,0<=y/\y<=7)->∀x∈l,x<=l.sum:=by
   intro l
   induction l with
   | nil=>intro _ x hx;cases hx
   | cons a l ih =>
    intro h x hx;have:=Kt.oT (ns:=l) λy hy=>h y (aM _ hy);have ha:=h a (aL ..);rw [List.sum_cons];rcases bA.mp hx with rfl | hx
    ·omega
    ·have:=ih (λy hy=>h y (aM _ hy)) x hx;omega
  exact this h7 x hx
 have hf:=Fn.of (n:=x) (B:=1) hp Oo;obtain ⟨n1,n2⟩:=hf.num Oo;refine ⟨hf.dvd (aA5 _ hs Oo),?_,Oo,Oo⟩;have:=Int.ediv_nonneg (a:=x) (b:=((Int.gcd x ns.sum:Nat):Int)) h2.1 (Int.natCast_nonneg _);exact this
theorem WA{n:Nat}{fs:List Fr}(h:Kt.kP n fs):qF (fs.map rv)=1:=by
 obtain ⟨ns,l,h7,hp,rfl⟩:=h.ex;have all:∀ms:List Int,qF ((ms.map λx=>lw x ns.sum).map rv)*((ns.sum:Int):Rat)=((ms.sum:Int):Rat):=by
  intro ms
  induction ms with
  | nil=>simp [qD]
  | cons a ms ih =>
   rw [aP,aP,lR,List.sum_cons,Rat.intCast_add,Rat.add_mul,ih,xL hp,Rat.div_def];have:=iI hp;grind
 have:=all ns;have hn:=iI hp;grind
theorem WB{n:Nat}{fs:List Fr}(h:Kt.kP n fs)(hn:n<=5):KG n fs where
 len:=h.len
 at_:=λf hf=>by
  obtain ⟨h1,h2,h3,h4⟩:=xA h hn f hf;have hb:(35:Nat)<2^3000:=Kk;exact ⟨h1.low,h2,Oo,Oo⟩
 one:=WA h
def cv(e:Kt.uC):bN:=(e.1.map Int.toNat,e.2)
theorem HG{c:List Int}(h:∀x∈c,0<=x):ci (c.map Int.toNat)=c:=by
 unfold ci;rw [List.map_map];refine (dR (g:=id) λx hx=>?_).trans (List.map_id _);have:=h x hx;show ((x.toNat:Nat):Int)=x;omega
theorem rS{c:List Int}(h:∀x∈c,0<=x):(((c.map Int.toNat).sum:Nat):Int)=c.sum:=by
 rw [<-AV,HG h]
theorem IA{c d:List Int}(h:∀x∈c,0<=x)(h':∀x∈d,0<=x)(e:c.map Int.toNat=d.map Int.toNat):c=d:=by
 rw [<-HG h,<-HG h',e]
theorem uP{c:List Int}(h:∀x∈c,0<=x){i:Nat}(hi:i<c.length):(Kt.bump c i).map Int.toNat=cX (c.map Int.toNat) i:=by
 rw [Kt.oO hi,List.map_set];unfold cX;have e1:c.getD i 0=c[i]:=by rw [aT,aC hi];rfl
 have e2:(c.map Int.toNat).getD i 0=c[i].toNat:=by rw [aT,aH,aC hi];rfl
 have:=h _ (List.getElem_mem hi);rw [e1,e2,show (c[i]+1).toNat=c[i].toNat+1 by omega]
theorem VD{n:Nat}{fs:List Fr}(h:Kt.kP (1+n) fs)(hn:n<=4):gI fs 0≠0↔Kt.hd fs≠(0,1):=by
 obtain ⟨f,r,rfl,l,_,_,e,_⟩:=(WB h Oo).hd;rw [e];show rv f≠0↔f≠(0,1);constructor
 ·intro h1 q;exact h1 (by rw [q];exact jX)
 ·intro h1 q;exact h1 (fE l NA (by rw [q];exact jX.symm))
section
variable{F W m M:Nat}{es:List Kt.uC}
theorem SF{c:List Int}(h:∀x∈c,0<=x)(hs:c.sum<=0):∀x∈c,x=0:=by
 induction c with
 | nil=>intro x hx;cases hx
 | cons a c ih =>
  have h1:=Kt.EO λy hy=>h y (aM _ hy);have h2:=h a (aL ..);rw [List.sum_cons] at hs;intro x hx;rcases bA.mp hx with rfl | hx
  ·omega
  ·exact ih (λy hy=>h y (aM _ hy)) Oo x hx
theorem UE:∀F:Nat,(List.replicate F (0:Int)).sum=0
 | 0=>rfl
 | n+1=>by rw [List.replicate_succ,List.sum_cons,UE n];rfl
theorem FH(F:Nat):(List.replicate F (0:Int)).map Int.toNat=List.replicate F 0:=by rw [List.map_replicate];rfl
theorem XH(R:Kt.tL F W m es)(w4:W<=4):nJ F (es.map cv):=by
 have nn:∀e∈es,∀x∈e.1,0<=x:=λe he=>(R.each e he).2.1;have keys:(es.map cv).map (·.1)=(es.map (·.1)).map λc=>c.map Int.toNat:=by rw [List.map_map,List.map_map];rfl
 have kin:∀{c:List Int},c∈es.map (·.1)->c.map Int.toNat∈(es.map cv).map (·.1):=λh=>by rw [keys];exact List.mem_map_of_mem h
 refine ⟨?_,?_,?_,?_,?_,?_,?_⟩
 ·obtain ⟨e,r,he⟩:∃e r,es=e::r:=by
   cases es with
   | nil=>exact absurd rfl R.ne
   | cons e r=>exact ⟨e,r,rfl⟩
  have hz:List.replicate F (0:Int)∈es.map (·.1):=R.clo.zero.elim id λh=>by cases h
  have hem:e∈es:=by rw [he];exact aL ..
  have hle:e.1.sum<=0:=by
   obtain ⟨z,hz1,hz2⟩:=aD.mp hz;have hzs:z.1.sum=0:=by rw [hz2];exact UE F
   rw [he] at hz1;rcases bA.mp hz1 with h | h
   ·rw [<-h,hzs];exact Int.le_refl _
   ·have a:=R.asc;rw [he,aP,List.pairwise_cons] at a;have:=a.1 _ (aD.mpr ⟨z,h,rfl⟩);rw [hzs] at this;exact this
  have h0:=SF (nn e hem) hle;refine ⟨cv e,r.map cv,by rw [he,aP],?_⟩;have:e.1=List.replicate F 0:=List.eq_replicate_iff.mpr ⟨(R.each e hem).1,h0⟩;show e.1.map Int.toNat=_;rw [this,FH]
 ·intro e he;obtain ⟨d,hd',rfl⟩:=aD.mp he;show (d.1.map Int.toNat).length=F;rw [aA];exact (R.each d hd').1
 ·rw [keys];refine Kt.iT R.nd λx hx y hy e=>?_;obtain ⟨a,ha,rfl⟩:=aD.mp hx;obtain ⟨b,hb,rfl⟩:=aD.mp hy;exact IA (nn a ha) (nn b hb) e
 ·rw [List.pairwise_map];have:=List.pairwise_map.mp R.asc;refine this.imp_of_mem λ{a b} ha hb h=>?_;have h1:=rS (nn a ha);have h2:=rS (nn b hb);show (a.1.map Int.toNat).sum<=(b.1.map Int.toNat).sum;omega
 ·intro e he h0 f hf;obtain ⟨d,hd',rfl⟩:=aD.mp he;obtain ⟨d1,d2,d3,d4⟩:=R.each d hd';have hn:Kt.hd d.2≠(0,1):=(VD d4 w4).mp h0;have hb:Kt.bump d.1 f∈Kt.nexts d.1 (Kt.hd d.2):=by
   unfold Kt.nexts;rw [if_neg hn];exact aD.mpr ⟨f,dC.mpr Oo,rfl⟩
  have:=(R.clo.fwd d hd' _ hb).elim id λh=>by cases h
  show cX (d.1.map Int.toNat) f∈_;rw [<-uP d2 Oo];exact kin this
 ·intro c hc hn;rw [keys] at hc;obtain ⟨c0,hc0,rfl⟩:=aD.mp hc;rcases R.clo.bwd c0 (.inl hc0) with rfl | ⟨d,hd',hc'⟩
  ·exact absurd (FH F) hn
  ·obtain ⟨d1,d2,d3,d4⟩:=R.each d hd';unfold Kt.nexts at hc';split at hc'
   ·cases hc'
   ·rename_i h0
    obtain ⟨f,hf,rfl⟩:=aD.mp hc';have hf:=dC.mp hf;exact ⟨cv d,aD.mpr ⟨d,hd',rfl⟩,(VD d4 w4).mpr h0,f,Oo,(uP d2 hf).symm⟩
 ·intro e he;obtain ⟨d,hd',rfl⟩:=aD.mp he;exact (WB (R.each d hd').2.2.2 Oo).nn 0
theorem XI(R:Kt.tL F W m es)(f1:1<=F)(f4:F<=4)(w4:W<=4)(hm:m<=M)(hM:M<=4)(few:(rise F M).length<=20):fY F W M (LN^5) (5^20) LN (es.map cv):=by
 have RL:=XH R w4;have sums:∀e∈es.map cv,e.1.sum<=M:=λe he=>by
  obtain ⟨d,hd',rfl⟩:=aD.mp he;obtain ⟨d1,d2,d3,d4⟩:=R.each d hd';have:=rS d2;show (d.1.map Int.toNat).sum<=M;omega
 have hl:(es.map cv).length<=20:=by
  refine aW ?_ few;have:=gZ RL.nd λc hc=>by
   obtain ⟨e,he,rfl⟩:=aD.mp hc;exact (mD (M:=M) f1).mpr ⟨RL.len e he,sums e he⟩
  rwa [aA] at this
 have sy:∀e∈es.map cv,Kt.kP (1+W) e.2:=λe he=>by
  obtain ⟨d,hd',rfl⟩:=aD.mp he;exact (R.each d hd').2.2.2
 have qv:∀e∈es.map cv,∀v,Qn LN 1 (gI e.2 v):=λe he v=>by
  by_cases hv:v<e.2.length
  ·exact (xA (sy e he) Oo _ (sJ (a:=(0,1)) hv)).1.q
  ·rw [yV Oo];exact Qn.zero _ _
 have b5:∀n,n<=20->5^n<=5^20:=λn h=>aO Dd h;have fl:∀e∈es.map cv,Qn (LN^e.1.sum) (5^20) (aS F (es.map cv) e.1):=λe he=>by
  have:=RL.qn (N:=LN) (λe he=>qv e he 0) f4 (es.map cv).length (aJ _) e.1;rw [cP] at this;exact this.le (b5 _ hl)
 refine ⟨RL,sums,λe he=>WB (sy e he) Oo,Oo,λe he h0=>?_,λe he=>?_,λe he v=>?_,Nat.pow_pos Dd,Dd,?_,Kk,Oo⟩
 ·have:=RL.fwd e he h0 0 Oo;obtain ⟨e',he',q⟩:=aD.mp this;have h1:=sums e' he';rw [q,jO (by rw [RL.len e he];omega)] at h1;omega
 ·exact (fl e he).dvd (Nat.pow_dvd_pow _ (by have:=sums e he;omega))
 ·have:=(fl e he).mul (qv e he v);rw [Nat.mul_one,<-Nat.pow_succ] at this;exact this.dvd (Nat.pow_dvd_pow _ (by have:=sums e he;omega))
 ·have:LN^M<=LN^4:=aO Dd hM;have h2:LN^5*LN^4<2^2000:=Kk;exact aQ (dQ _ this) h2
theorem XG{K:PySem.W.Frag}{H:Hp}{v:V}(R:Kt.tL F W m es)(h:cA H (Kt.KC es) v):kH K H (es.map cv) v:=by
 obtain ⟨a,xs,rfl,ha,r⟩:=kI h;refine ⟨a,xs,rfl,ha,by rw [gP r,aA],λi x hx=>?_⟩;obtain ⟨e,he,re⟩:=gQ r hx;obtain ⟨d1,d2,d3,d4⟩:=R.each e (aZ he);refine ⟨cv e,by rw [aH,he];rfl,?_⟩;obtain ⟨b,us,rfl,hb,rus⟩:=kI re;obtain ⟨u,z,rfl,ru,rz⟩:=oQ rus;obtain ⟨cu,rfl,hcu⟩:=Kt.EW ru;refine ⟨b,cu,z,rfl,hb,?_,LT rz⟩;rw [hcu];show some (HO.tup (e.1.map V.int))=some (.tup ((e.1.map Int.toNat).map EX));rw [<-gG,HG d2]
end
theorem fY.up{F W M N B Ns D C:Nat}{es:List bN}(R:fY F W M N B Ns es)(d0:0<D)(hC:B<=C)(hz:D*N*Ns^M<2^2000)(hc:C<=2^100):fY F W M (D*N) C Ns es :=
 ⟨R.rl,R.sum,R.sy,R.few,R.on,λe he=>((R.fl e he).dvd ⟨D,Nat.mul_comm ..⟩).le hC,λe he v=>((R.fs e he v).dvd ⟨D,Nat.mul_comm ..⟩).le hC,kR d0 R.n0,R.s1,hz,hc,R.m⟩
theorem fY.mx{F W M N B Ns:Nat}{es fs:List bN}{s:Rat}(A:fY F W M N B Ns es)(A':fY F W M N B Ns fs)(f1:1<=F)(f4:F<=4)(m5:M<=5)(h0:0<=s)(h1:s<=1):eR F W M es fs s :=
 ⟨A.rl,A'.rl,f1,f4,m5,A.sy,A'.sy,λe he=>⟨A.sum e he,A.on e he⟩,λe he=>⟨A'.sum e he,A'.on e he⟩,h0,h1⟩
theorem MY{F W M:Nat}{es fs es' fs':List bN}{s s':Rat}(ha:∀c,mA F es fs s c=mA F es' fs' s' c)(hx:∀c j,j<1+W->mX F es fs s c j=mX F es' fs' s' c j):mE F W M es fs s=mE F W M es' fs' s':=by
 have e1:mB F es fs s=mB F es' fs' s':=funext λc=>by unfold mB;rw [hx c 0 Oo]
 have e2:mS F W es fs s=mS F W es' fs' s':=funext λc=>by
  unfold mS;exact dR λj hj=>by rw [hx c j (dC.mp hj),ha c]
 unfold mE;rw [e1,e2]
end Kw
namespace L2
open PySem
abbrev jT(h:Heap)(z TI TO:Addr)(f0:Value)(fb:Bool):Prop :=
 h.get? z=some { cls:=.type "zip",dict:=none,data:=.fields #[f0,.bool fb,.bool false,.ref TI,.ref TO],slots:=#[] }
abbrev jD(h:Heap)(T:Addr)(a b c:Value):Prop:=h.get? T=some { cls:=.type "tuple",data:=.seq #[a,b,c] }
section
variable{prog:Program}{w:World}{A:Around}{E:Value->Shared->Prop}{s:Shared}
theorem uL{T:Addr}{a b c x:Value}{k:Nat}{Q:Unit->Shared->Prop}(hT:jD s.heap T a b c)
  (h:∀h',h'.get? T=some { cls:=.type "tuple",data:=.seq ((#[a,b,c]:Array Value).setIfInBounds k x) }->Heap.SameBut T s.heap h'->Q () { s with heap:=h' }) :
  wpAny (model prog w) A (updateSeq T (·.setIfInBounds k x)) Q E s:=by
 refine wpAny_updateSeq hT rfl (h _ ?_ (Heap.SameBut.update ..));rw [Heap.get?_update_self _ hT rfl];simp [Obj.mapSeq]
theorem zfree{z TI TO:Addr}{f0:Value}{fb:Bool}{Q:Bool->Shared->Prop}(hz:jT s.heap z TI TO f0 fb)(hf:f0=.none\/∃T:Nat,f0=rawInt T)
  (k:∀b fb' h',jT h' z TI TO f0 fb'->Heap.SameBut z s.heap h'->Q b { s with heap:=h' }):wpAny (model prog w) A (Builtin.SmallTypes.ownedTupleIsFree (.ref z)) Q E s:=by
 unfold Builtin.SmallTypes.ownedTupleIsFree;refine wpAny_bind (wpAny_field hz rfl (x:=f0) rfl ?_);rcases hf with rfl | ⟨T,rfl⟩
 ·exact wpAny_pure (k true fb s.heap hz (Heap.SameBut.refl _ _))
 ·show wpAny _ _ (loadIfAlive _ >>= _) _ _ _;refine wpAny_bind ?_;intro Γ p hΓ;unfold loadIfAlive;rw [Sem.wp_loadIfAlive]
  revert Γ p
  show wpAny (model prog w) A (pure (s.heap.get? _)) _ _ s;refine wpAny_pure ?_;split
  ·exact wpAny_pure (k true fb s.heap hz (Heap.SameBut.refl _ _))
  ·refine wpAny_bind (wpAny_field hz rfl (x:=.bool fb) rfl ?_);split
   ·refine wpAny_bind (wpAny_setField_rec hz (by simp) λh' hz' hs'=>wpAny_pure ?_);exact k false true h' hz' hs'
   ·exact wpAny_pure (k false fb s.heap hz (Heap.SameBut.refl _ _))
structure Z3(n l1 l2 l3:Nat)(k:Nat)(h:Heap):Prop where
 z:∃f0 fb,jT h (n+5) (n+3) (n+4) f0 fb/\(f0=.none\/∃T:Nat,f0=rawInt T)
 ti:jD h (n+3) (.ref n) (.ref (n+1)) (.ref (n+2))
 to:∃a b c,jD h (n+4) a b c
 i1:pH false h n l1 k
 i2:pH false h (n+1) l2 k
 i3:pH false h (n+2) l3 k
theorem HW{n l1 l2 l3:Nat}{k:Nat}{xs ys zs:Array Value}{x y v:Value}{Q:Value->Shared->Prop}(b1:l1<n)(b2:l2<n)(b3:l3<n)(Z:Z3 n l1 l2 l3 k s.heap)
  (hl1:fK false s.heap l1 xs) (hl2:fK false s.heap l2 ys) (hl3:fK false s.heap l3 zs) (hx:xs[k]?=some x) (hy:ys[k]?=some y) (hv:zs[k]?=some v)
  (hQ:∀h',Z3 n l1 l2 l3 (k+1) h'->jD h' s.heap.objs.size x y v->(∀(c:Nat) o,c<n\/n+5<c->s.heap.get? c=some o->h'.get? c=some o)->Q (.ref s.heap.objs.size) { s with heap:=h' }) :
  wpAny (model prog w) A (Builtin.«zip.__next__» ⟨[.ref (n+5)],[]⟩) (λfin s'=>∃v,fin=.done (.ret v)/\Q v s') E s:=by
 obtain ⟨⟨f0,fb,hz,hf⟩,hTI,⟨a,b,c,hTO⟩,h1,h2,h3⟩:=Z;have ne:∀{p q:Nat},(p<q\/q<p)->p≠q:=λh=>Oo;show wpAny _ _ (field (.ref (n+5)) 2 >>= _) _ _ _;refine wpAny_bind (wpAny_field hz rfl (x:=.bool false) rfl ?_);show wpAny _ _ (field (.ref (n+5)) 3 >>= _) _ _ _;refine wpAny_bind (wpAny_field hz rfl (x:=.ref (n+3)) rfl ?_);refine wpAny_bind (wpAny_seqItems hTI rfl ?_);show wpAny _ _ (Builtin.SmallTypes.ownedTupleIsFree (.ref (n+5)) >>= _) _ _ _;refine wpAny_bind (zfree hz hf λfr fb' h₀ hz₀ hs₀=>?_);have g₀:=hs₀.extBut;cases fr with
 | true =>
  simp only [if_true];refine wpAny_bind (wpAny_rule ?_);refine wpAny_bind (wpAny_field hz₀ rfl (x:=.ref (n+4)) rfl ?_);refine wpAny_bind (wpAny_setField_rec hz₀ (by simp) λh₁ hz₁ hs₁=>?_);have g₁:=hs₁.extBut;have g:∀c o,c≠n+5->s.heap.get? c=some o->h₁.get? c=some o:=λc o hc e=>g₁ _ _ hc (g₀ _ _ hc e);refine wpAny_bind ?_;simp only [List.zipIdx_cons,List.zipIdx_nil,List.forIn_cons,List.forIn_nil];refine wpAny_bind (wpAny_bind (wpAny_onRaise ?_));show wpAny _ _ (Builtin.SmallTypes.nextOf (.ref n) >>= _) _ _ _;refine wpAny_bind (jY (h1.at λo e=>g _ o (ne Oo) e) (hl1.at λo e=>g _ o (ne Oo) e) hx λh₂ h1₂ hs₂=>wpAny_pure ?_);have g₂:=hs₂.extBut;have hTO₂:jD h₂ (n+4) a b c:=g₂ _ _ (ne Oo) (g _ _ (ne Oo) hTO);refine wpAny_bind (wpAny_seqItems hTO₂ rfl ?_);refine wpAny_bind (uL hTO₂ λh₃ hTO₃ hs₃=>?_);have g₃:=hs₃.extBut;replace hTO₃:jD h₃ (n+4) x b c:=hTO₃;refine wpAny_bind (wpAny_letGo (wpAny_pure ?_));refine wpAny_bind (wpAny_bind (wpAny_onRaise ?_));show wpAny _ _ (Builtin.SmallTypes.nextOf (.ref (n+1)) >>= _) _ _ _;have e2:∀c o,c≠n+5->c≠n+4->c≠n->s.heap.get? c=some o->h₃.get? c=some o:=λc o c1 c2 c3 e=>g₃ _ _ c2 (g₂ _ _ c3 (g _ _ c1 e));refine wpAny_bind (jY (h2.at λo e=>e2 _ o (ne Oo) (ne Oo) (ne Oo) e) (hl2.at λo e=>e2 _ o (ne Oo) (ne Oo) (ne Oo) e) hy λh₄ h2₄ hs₄=>wpAny_pure ?_);have g₄:=hs₄.extBut;have hTO₄:jD h₄ (n+4) x b c:=g₄ _ _ (ne Oo) hTO₃;refine wpAny_bind (wpAny_seqItems hTO₄ rfl ?_);refine wpAny_bind (uL hTO₄ λh₅ hTO₅ hs₅=>?_)
  have g₅:=hs₅.extBut;replace hTO₅:jD h₅ (n+4) x y c:=hTO₅;refine wpAny_bind (wpAny_letGo (wpAny_pure ?_));refine wpAny_bind (wpAny_bind (wpAny_onRaise ?_));show wpAny _ _ (Builtin.SmallTypes.nextOf (.ref (n+2)) >>= _) _ _ _;have e3:∀c o,c≠n+5->c≠n+4->c≠n->c≠n+1->s.heap.get? c=some o->h₅.get? c=some o:=λc o c1 c2 c3 c4 e=>g₅ _ _ c2 (g₄ _ _ c4 (e2 c o c1 c2 c3 e));refine wpAny_bind (jY (h3.at λo e=>e3 _ o (ne Oo) (ne Oo) (ne Oo) (ne Oo) e) (hl3.at λo e=>e3 _ o (ne Oo) (ne Oo) (ne Oo) (ne Oo) e) hv λh₆ h3₆ hs₆=>wpAny_pure ?_);have g₆:=hs₆.extBut;have hTO₆:jD h₆ (n+4) x y c:=g₆ _ _ (ne Oo) hTO₅;refine wpAny_bind (wpAny_seqItems hTO₆ rfl ?_);refine wpAny_bind (uL hTO₆ λh₇ hTO₇ hs₇=>?_);have g₇:=hs₇.extBut;replace hTO₇:jD h₇ (n+4) x y v:=hTO₇;refine wpAny_bind (wpAny_letGo (wpAny_pure (wpAny_pure ?_)));refine wpAny_bind (wpAny_seqItems hTO₇ rfl ?_);refine wpAny_bind (wpAny_newTuple ?_);have hsz:h₇.objs.size=s.heap.objs.size:=by rw [hs₇.1,hs₆.1,hs₅.1,hs₄.1,hs₃.1,hs₂.1,hs₁.1,hs₀.1]
  have hz₇:jT h₇ (n+5) (n+3) (n+4) .ellipsis fb':=g₇ _ _ (ne Oo) (g₆ _ _ (ne Oo) (g₅ _ _ (ne Oo) (g₄ _ _ (ne Oo) (g₃ _ _ (ne Oo) (g₂ _ _ (ne Oo) hz₁)))));have hk₇:∀c o,c≠n+5->c≠n+4->c≠n->c≠n+1->c≠n+2->s.heap.get? c=some o->h₇.get? c=some o:=λc o c1 c2 c3 c4 c5 e=>g₇ _ _ c2 (g₆ _ _ c5 (e3 c o c1 c2 c3 c4 e));have h1₇:pH false h₇ n l1 (k+1):=h1₂.at λo e=>g₇ _ o (ne Oo) (g₆ _ o (ne Oo) (g₅ _ o (ne Oo) (g₄ _ o (ne Oo) (g₃ _ o (ne Oo) e))));have h2₇:pH false h₇ (n+1) l2 (k+1):=h2₄.at λo e=>g₇ _ o (ne Oo) (g₆ _ o (ne Oo) (g₅ _ o (ne Oo) e));have h3₇:pH false h₇ (n+2) l3 (k+1):=h3₆.at λo e=>g₇ _ o (ne Oo) e;have hzlt:=aY hz₇;show wpAny _ _ (Builtin.SmallTypes.ownedTupleHandOut (.ref (n+5)) (.ref h₇.objs.size) >>= _) _ _ _;refine wpAny_bind ?_;unfold Builtin.SmallTypes.ownedTupleHandOut;have hz₈:jT (h₇.push { cls:=.type "tuple",data:=.seq #[x,y,v] }) (n+5) (n+3) (n+4) .ellipsis fb':=aB _ hz₇;refine wpAny_bind (wpAny_setField_rec hz₈ (by simp) λh₉ hz₉ hs₉=>?_);replace hz₉:jT h₉ (n+5) (n+3) (n+4) (rawInt h₇.objs.size) fb':=hz₉;refine wpAny_setField_rec hz₉ (by simp) λh' hz' hs'=>?_;replace hz':jT h' (n+5) (n+3) (n+4) (rawInt h₇.objs.size) false:=hz';have up:∀c o,c≠n+5->h₇.get? c=some o->h'.get? c=some o:=λc o c1 e=>hs'.extBut _ _ c1 (hs₉.extBut _ _ c1 (aB _ e));have hT':jD h' h₇.objs.size x y v:=hs'.extBut _ _ (Nat.ne_of_gt hzlt) (hs₉.extBut _ _ (Nat.ne_of_gt hzlt) (aU _ rfl));rw [hsz] at hz' hT';refine wpAny_pure ⟨_,rfl,?_⟩;show Q (.ref h₇.objs.size) _;rw [hsz]
  exact hQ h' ⟨⟨_,_,hz',.inr ⟨_,rfl⟩⟩,up _ _ (ne Oo) (hk₇ _ _ (ne Oo) (ne Oo) (ne Oo) (ne Oo) (ne Oo) hTI),⟨_,_,_,up _ _ (ne Oo) hTO₇⟩,h1₇.at λo e=>up _ o (ne Oo) e,h2₇.at λo e=>up _ o (ne Oo) e,h3₇.at λo e=>up _ o (ne Oo) e⟩ hT' λc o hc e=>up c o (ne Oo) (hk₇ c o (ne Oo) (ne Oo) (ne Oo) (ne Oo) (ne Oo) e)
 | false =>
  simp only [Bool.false_eq_true,if_false];refine wpAny_bind ?_;simp only [<-Array.forIn_toList,List.forIn_cons,List.forIn_nil];refine wpAny_bind (wpAny_bind (wpAny_holding ?_));show wpAny _ _ (Builtin.SmallTypes.nextOf (.ref n) >>= _) _ _ _;refine wpAny_bind (jY (h1.at λo e=>g₀ _ o (ne Oo) e) (hl1.at λo e=>g₀ _ o (ne Oo) e) hx λh₂ h1₂ hs₂=>wpAny_pure ?_);refine wpAny_pure ?_;have g₂:=hs₂.extBut;refine wpAny_bind (wpAny_bind (wpAny_holding ?_));show wpAny _ _ (Builtin.SmallTypes.nextOf (.ref (n+1)) >>= _) _ _ _;have e2:∀(c:Nat) o,c≠n+5->c≠n->s.heap.get? c=some o->h₂.get? c=some o:=λc o c1 c2 e=>g₂ _ _ c2 (g₀ _ _ c1 e);refine wpAny_bind (jY (h2.at λo e=>e2 _ o (ne Oo) (ne Oo) e) (hl2.at λo e=>e2 _ o (ne Oo) (ne Oo) e) hy λh₃ h2₃ hs₃=>wpAny_pure ?_);refine wpAny_pure ?_;have g₃:=hs₃.extBut;refine wpAny_bind (wpAny_bind (wpAny_holding ?_));show wpAny _ _ (Builtin.SmallTypes.nextOf (.ref (n+2)) >>= _) _ _ _;have e3:∀(c:Nat) o,c≠n+5->c≠n->c≠n+1->s.heap.get? c=some o->h₃.get? c=some o:=λc o c1 c2 c3 e=>g₃ _ _ c3 (e2 c o c1 c2 e);refine wpAny_bind (jY (h3.at λo e=>e3 _ o (ne Oo) (ne Oo) (ne Oo) e) (hl3.at λo e=>e3 _ o (ne Oo) (ne Oo) (ne Oo) e) hv λh₄ h3₄ hs₄=>wpAny_pure ?_);refine wpAny_pure (wpAny_pure ?_);have g₄:=hs₄.extBut;have hsz:h₄.objs.size=s.heap.objs.size:=by rw [hs₄.1,hs₃.1,hs₂.1,hs₀.1]
  have e4:∀(c:Nat) o,c≠n+5->c≠n->c≠n+1->c≠n+2->s.heap.get? c=some o->h₄.get? c=some o:=λc o c1 c2 c3 c4 e=>g₄ _ _ c4 (e3 c o c1 c2 c3 e);have hz₄:jT h₄ (n+5) (n+3) (n+4) f0 fb':=g₄ _ _ (ne Oo) (g₃ _ _ (ne Oo) (g₂ _ _ (ne Oo) hz₀));show wpAny _ _ (newTuple [x,y,v] >>= _) _ _ _;refine wpAny_bind (wpAny_newTuple ?_);refine wpAny_pure ⟨_,rfl,?_⟩;show Q (.ref h₄.objs.size) _;have hT:jD (h₄.push { cls:=.type "tuple",data:=.seq #[x,y,v] }) h₄.objs.size x y v:=aU _ rfl;rw [hsz] at hT ⊢;have up:∀(c:Nat) o,h₄.get? c=some o->(h₄.push { cls:=.type "tuple",data:=.seq #[x,y,v] }).get? c=some o:=λc o e=>aB _ e;exact hQ _ ⟨⟨_,_,up _ _ hz₄,hf⟩,up _ _ (e4 _ _ (ne Oo) (ne Oo) (ne Oo) (ne Oo) hTI),⟨_,_,_,up _ _ (e4 _ _ (ne Oo) (ne Oo) (ne Oo) (ne Oo) hTO)⟩,h1₂.at λo e=>up _ o (g₄ _ o (ne Oo) (g₃ _ o (ne Oo) e)),h2₃.at λo e=>up _ o (g₄ _ o (ne Oo) e),h3₄.at λo e=>up _ o e⟩ hT λc o hc e=>up c o (e4 c o (ne Oo) (ne Oo) (ne Oo) (ne Oo) e)
theorem KI{n l1 l2 l3:Nat}{k:Nat}{xs ys zs:Array Value}{Q:Fin->Shared->Prop}(hh:A.handled=none)(b1:l1<n)(b2:l2<n)(b3:l3<n)(Z:Z3 n l1 l2 l3 k s.heap)
  (hl1:fK false s.heap l1 xs) (hl2:fK false s.heap l2 ys) (hl3:fK false s.heap l3 zs) (hx:xs[k]?=none)
  (hE:∀h' e,(∀(c:Nat) o,c<n\/n+5<c->s.heap.get? c=some o->h'.get? c=some o)->(∃o,h'.get? e=some o/\o.cls=.type "StopIteration")->E (.ref e) { s with heap:=h' }) :
  wpAny (model prog w) A (Builtin.«zip.__next__» ⟨[.ref (n+5)],[]⟩) Q E s:=by
 obtain ⟨⟨f0,fb,hz,hf⟩,hTI,⟨a,b,c,hTO⟩,h1,h2,h3⟩:=Z;have ne:∀{p q:Nat},(p<q\/q<p)->p≠q:=λh=>Oo;show wpAny _ _ (field (.ref (n+5)) 2 >>= _) _ _ _;refine wpAny_bind (wpAny_field hz rfl (x:=.bool false) rfl ?_);show wpAny _ _ (field (.ref (n+5)) 3 >>= _) _ _ _;refine wpAny_bind (wpAny_field hz rfl (x:=.ref (n+3)) rfl ?_);refine wpAny_bind (wpAny_seqItems hTI rfl ?_);show wpAny _ _ (Builtin.SmallTypes.ownedTupleIsFree (.ref (n+5)) >>= _) _ _ _;refine wpAny_bind (zfree hz hf λfr fb' h₀ hz₀ hs₀=>?_);have g₀:=hs₀.extBut;cases fr with
 | true =>
  simp only [if_true];refine wpAny_bind (wpAny_rule ?_);refine wpAny_bind (wpAny_field hz₀ rfl (x:=.ref (n+4)) rfl ?_);refine wpAny_bind (wpAny_setField_rec hz₀ (by simp) λh₁ hz₁ hs₁=>?_);have g₁:=hs₁.extBut;replace hz₁:jT h₁ (n+5) (n+3) (n+4) .ellipsis fb':=hz₁;have g:∀(c:Nat) o,c≠n+5->s.heap.get? c=some o->h₁.get? c=some o:=λc o hc e=>g₁ _ _ hc (g₀ _ _ hc e);refine wpAny_bind ?_;simp only [List.zipIdx_cons,List.zipIdx_nil,List.forIn_cons,List.forIn_nil];refine wpAny_bind (wpAny_bind (wpAny_onRaise ?_));show wpAny _ _ (Builtin.SmallTypes.nextOf (.ref n) >>= _) _ _ _;refine wpAny_bind (AA hh (h1.at λo e=>g _ o (ne Oo) e) (hl1.at λo e=>g _ o (ne Oo) e) hx λh₂ e hs₂ he=>?_);obtain ⟨oe,hoe,hce⟩:=he;have hz₂:jT h₂ (n+5) (n+3) (n+4) .ellipsis fb':=hs₂ _ _ (ne Oo) hz₁;have hez:e≠n+5:=λx=>by subst x;rw [hz₂] at hoe;cases hoe;simp at hce
  exact wpAny_setField_rec hz₂ (by simp) λh₃ _ hs₃=>hE h₃ e (λc o hc x=>hs₃.extBut _ _ (ne Oo) (hs₂ _ _ (ne Oo) (g _ _ (ne Oo) x))) ⟨oe,hs₃.extBut _ _ hez hoe,hce⟩
 | false =>
  simp only [Bool.false_eq_true,if_false];refine wpAny_bind ?_;simp only [<-Array.forIn_toList,List.forIn_cons,List.forIn_nil];refine wpAny_bind (wpAny_bind (wpAny_holding ?_));show wpAny _ _ (Builtin.SmallTypes.nextOf (.ref n) >>= _) _ _ _;refine wpAny_bind (AA hh (h1.at λo e=>g₀ _ o (ne Oo) e) (hl1.at λo e=>g₀ _ o (ne Oo) e) hx λh₂ e hs₂ he=>?_);exact hE h₂ e (λc o hc x=>hs₂ _ _ (ne Oo) (g₀ _ _ (ne Oo) x)) he
theorem HV{n l1 l2 l3:Nat}{k:Nat}{xs ys zs:Array Value}{x y v:Value}{Q:Option Value->Shared->Prop}(b1:l1<n)(b2:l2<n)(b3:l3<n)(Z:Z3 n l1 l2 l3 k s.heap)
  (hl1:fK false s.heap l1 xs) (hl2:fK false s.heap l2 ys) (hl3:fK false s.heap l3 zs) (hx:xs[k]?=some x) (hy:ys[k]?=some y) (hv:zs[k]?=some v)
  (hQ:∀h',Z3 n l1 l2 l3 (k+1) h'->jD h' s.heap.objs.size x y v->(∀(c:Nat) o,c<n\/n+5<c->s.heap.get? c=some o->h'.get? c=some o)->Q (some (.ref s.heap.objs.size)) { s with heap:=h' }) :
  wpAny (model prog w) A (pyNext (.ref (n+5))) Q E s:=by
 obtain ⟨f0,fb,hz,_⟩:=Z.z;have hT:s.TypeIs (.ref (n+5)) "zip" := ⟨_,hz,rfl⟩;unfold pyNext;refine wpAny_bind (wpAny_attempt (wpAny_callSpecial?_slot (name:=Str.ofString "__next__") hT F.slot_zip_next (wpAny_call_entry F.slot_zip_next hT F.entry_zip_next ?_ (F.args_zip_next_1 _))));exact HW b1 b2 b3 Z hl1 hl2 hl3 hx hy hv λh' a1 a2 a3=>wpAny_pure (hQ h' a1 a2 a3)
theorem HU{n l1 l2 l3:Nat}{k:Nat}{xs ys zs:Array Value}{Q:Option Value->Shared->Prop}(hh:A.handled=none)(b1:l1<n)(b2:l2<n)(b3:l3<n)(Z:Z3 n l1 l2 l3 k s.heap)
  (hl1:fK false s.heap l1 xs) (hl2:fK false s.heap l2 ys) (hl3:fK false s.heap l3 zs) (hx:xs[k]?=none)
  (hQ:∀h',(∀(c:Nat) o,c<n\/n+5<c->s.heap.get? c=some o->h'.get? c=some o)->Q none { s with heap:=h' }):wpAny (model prog w) A (pyNext (.ref (n+5))) Q E s:=by
 obtain ⟨f0,fb,hz,_⟩:=Z.z;have hT:s.TypeIs (.ref (n+5)) "zip" := ⟨_,hz,rfl⟩;unfold pyNext;refine wpAny_bind (wpAny_attempt (wpAny_callSpecial?_slot (name:=Str.ofString "__next__") hT F.slot_zip_next (wpAny_call_entry F.slot_zip_next hT F.entry_zip_next ?_ (F.args_zip_next_1 _))));refine KI hh b1 b2 b3 Z hl1 hl2 hl3 hx λh' e hk he=>?_;obtain ⟨o,ho,hc⟩:=he;refine wpAny_bind (wpAny_isInstance (T := "StopIteration") (b:=true) ⟨o,ho,hc⟩ isSubtype_stop ?_);exact wpAny_pure (hQ _ hk)
theorem xR{z TI TO:Addr}{f0:Value}{fb:Bool}{Q:Value->Shared->Prop}(hz:jT s.heap z TI TO f0 fb)(h:Q (.ref z) s):wpAny (model prog w) A (pyIter (.ref z)) Q E s:=by
 have hT:s.TypeIs (.ref z) "zip" := ⟨_,hz,rfl⟩;refine wpAny_pyIter_slot hT F.slot_zip_iter (wpAny_call_entry F.slot_zip_iter hT F.entry_zip_iter ?_ (F.args_zip_iter_1 _));show wpAny _ _ (ret (.ref z)) _ _ s;exact wpAny_pure ⟨_,rfl, "zip",_,hT,F.slot_zip_next.lookup,h⟩
theorem wQ(a b c:Value):checkBuiltinCall "zip.__new__" ⟨[.type "zip",a,b,c],[]⟩=pure ():=by kernel_rfl
theorem uM(a b c:Value):checkTypeCall "zip" ⟨[a,b,c],[]⟩=pure ():=by kernel_rfl
theorem pV(a b c d:Value):argsOk "object.__init__" ⟨[a,b,c,d],[]⟩:=by
 unfold argsOk;rw [signature?_of (id := "object.__init__") (n:=['_','_','t','i','n','i','_','_']) (o:=['t','c','e','j','b','o']) (by kernel_rfl) F.owner_object];kernel_rfl
abbrev yA(h:Heap)(l1:Addr):Heap:=h.push (PB false l1)
abbrev yB(h:Heap)(l1 l2:Addr):Heap:=(yA h l1).push (PB false l2)
abbrev yC(h:Heap)(l1 l2 l3:Addr):Heap:=(yB h l1 l2).push (PB false l3)
abbrev yD(h:Heap)(l1 l2 l3:Addr):Heap:=(yC h l1 l2 l3).push { cls:=.type "tuple",data:=.seq #[.ref h.objs.size,.ref (yA h l1).objs.size,.ref (yB h l1 l2).objs.size] }
abbrev yE(h:Heap)(l1 l2 l3:Addr):Heap:=(yD h l1 l2 l3).push { cls:=.type "tuple",data:=.seq #[.none,.none,.none] }
abbrev yF(h:Heap)(l1 l2 l3:Addr):Heap:=(yE h l1 l2 l3).push { cls:=.type "zip",data:=.fields #[.none,.bool false,.bool false,.ref (yC h l1 l2 l3).objs.size,.ref (yD h l1 l2 l3).objs.size] }
theorem SG(l1 l2 l3:Addr)(xs ys zs:Array Value):Meets (Builtin.«zip.__new__» ⟨[.type "zip",.ref l1,.ref l2,.ref l3],[]⟩) (λ_ R s=>fK false s.heap l1 xs/\fK false s.heap l2 ys/\fK false s.heap l3 zs/\R (.ok (.ret (.ref (yE s.heap l1 l2 l3).objs.size))) { s with heap:=yF s.heap l1 l2 l3 }) :=
 .of_wp λprog w A R s h=>by
  obtain ⟨hp,g,d,tk,os⟩:=s;obtain ⟨hl1,hl2,hl3,h⟩:=h;have hsub:=sub_zip;have hL1:fK false (Shared.heap ⟨hp,g,d,tk,os⟩) l1 xs:=hl1;have hL2:fK false (Shared.heap ⟨hp.push (PB false l1),g,d,tk,os⟩) l2 ys:=hl2.at λo e=>aB _ e;have hL3:fK false (Shared.heap ⟨(hp.push (PB false l1)).push (PB false l2),g,d,tk,os⟩) l3 zs:=hl3.at λo e=>aB _ (aB _ e)
  wp_walk using CI hL1,CI hL2,CI hL3
  exact ⟨_,rfl,h⟩
theorem ZJ{l1 l2 l3:Addr}{xs ys zs:Array Value}{Q:Value->Shared->Prop}(hl1:fK false s.heap l1 xs)(hl2:fK false s.heap l2 ys)(hl3:fK false s.heap l3 zs)
  (h:∀h',Z3 s.heap.objs.size l1 l2 l3 0 h'->jT h' (s.heap.objs.size+5) (s.heap.objs.size+3) (s.heap.objs.size+4) .none false->(∀c o,s.heap.get? c=some o->h'.get? c=some o)->Q (.ref (s.heap.objs.size+5)) { s with heap:=h' }) :
  wpAny (model prog w) A (call (.type "zip") [.ref l1,.ref l2,.ref l3]) Q E s:=by
 refine callType_new F.called_zip Dd (uM _ _ _) (wQ _ _ _) (λobj=>pV obj _ _ _) F.entry_zip_new (SG l1 l2 l3 xs ys zs) ⟨hl1,hl2,hl3,?_⟩;have z1:(yA s.heap l1).objs.size=s.heap.objs.size+1:=eG ..;have z2:(yB s.heap l1 l2).objs.size=s.heap.objs.size+2:=by rw [eG,z1]
 have z3:(yC s.heap l1 l2 l3).objs.size=s.heap.objs.size+3:=by rw [eG,z2]
 have z4:(yD s.heap l1 l2 l3).objs.size=s.heap.objs.size+4:=by rw [eG,z3]
 have z5:(yE s.heap l1 l2 l3).objs.size=s.heap.objs.size+5:=by rw [eG,z4]
 have g6:(yF s.heap l1 l2 l3).get? (yE s.heap l1 l2 l3).objs.size=some _:=aU _ rfl;have g5:(yF s.heap l1 l2 l3).get? (yD s.heap l1 l2 l3).objs.size=some _:=aB _ (aU _ rfl);have g4:(yF s.heap l1 l2 l3).get? (yC s.heap l1 l2 l3).objs.size=some _:=aB _ (aB _ (aU _ rfl));have g3:(yF s.heap l1 l2 l3).get? (yB s.heap l1 l2).objs.size=some _:=aB _ (aB _ (aB _ (aU _ rfl)));have g2:(yF s.heap l1 l2 l3).get? (yA s.heap l1).objs.size=some _:=aB _ (aB _ (aB _ (aB _ (aU _ rfl))));have g1:(yF s.heap l1 l2 l3).get? s.heap.objs.size=some _:=aB _ (aB _ (aB _ (aB _ (aB _ (aU _ rfl)))));show _/\_;rw [z3,z4,z5] at g6;rw [z4] at g5;rw [z1,z2,z3] at g4;rw [z2] at g3;rw [z1] at g2;rw [z5];exact ⟨⟨_,g6,rfl⟩,h _ ⟨⟨_,_,g6,.inl rfl⟩,g4,⟨_,_,_,g5⟩,⟨_,g1,rfl,rfl⟩,⟨_,g2,rfl,rfl⟩,⟨_,g3,rfl,rfl⟩⟩ g6 λc o x=>aB _ (aB _ (aB _ (aB _ (aB _ (aB _ x)))))⟩
end
end L2
namespace L2
open PySem PySem.Spec PyProof.Rows
def ZY(l1 l2 l3:Addr):It :=
  ⟨λi H=>∃xs ys zs x y v,H l1=some (.lst xs)/\H l2=some (.lst ys)/\H l3=some (.lst zs)/\xs[i]?=some x/\ys[i]?=some y/\zs[i]?=some v,
   λi H u H'=>∃q x y v,u=.ref q/\H q=none/\H'=upd H q (.tup [x,y,v])/\∀xs ys zs,H l1=some (.lst xs)->H l2=some (.lst ys)->H l3=some (.lst zs)->xs[i]?=some x/\ys[i]?=some y/\zs[i]?=some v,
   λi H=>∃xs ys zs,H l1=some (.lst xs)/\H l2=some (.lst ys)/\H l3=some (.lst zs)/\xs.length<=i⟩
theorem aAQ{n b:Nat}(hb:b ∉ [n+5,n+3,n+4,n,n+1,n+2]):b<n\/n+5<b:=by
 simp only [bA,List.not_mem_nil,or_false,not_or] at hb;omega
theorem HY{P:Program}{w:World}{K:PySem.W.Frag}{x:Str}{p:Pos}{n l1 l2 l3:Nat}(b1:l1<n)(b2:l2<n)(b3:l3<n):DI P w K (.Name x p) (ZY l1 l2 l3) [n+5,n+3,n+4,n,n+1,n+2] (n+5) (λi h=>Z3 n l1 l2 l3 i h) where
 mem:=by simp
 obj:=λi h st b hb=>by
  obtain ⟨f0,fb,hz,_⟩:=st.z;obtain ⟨a,b',c',ht⟩:=st.to;obtain ⟨o1,e1,_,d1⟩:=st.i1;obtain ⟨o2,e2,_,d2⟩:=st.i2;obtain ⟨o3,e3,_,d3⟩:=st.i3;simp only [bA,List.not_mem_nil,or_false] at hb;rcases hb with rfl | rfl | rfl | rfl | rfl | rfl
  ·exact ⟨_,hz,λv q=>by cases q⟩
  ·exact ⟨_,st.ti,λv q=>by cases q⟩
  ·exact ⟨_,ht,λv q=>by cases q⟩
  ·exact ⟨_,e1,λv q=>by rw [d1] at q;cases q⟩
  ·exact ⟨_,e2,λv q=>by rw [d2] at q;cases q⟩
  ·exact ⟨_,e3,λv q=>by rw [d3] at q;cases q⟩
 keep:=λi h h' st k=>by
  obtain ⟨f0,fb,hz,hf⟩:=st.z;obtain ⟨a,b,c,ht⟩:=st.to;exact ⟨⟨f0,fb,k _ (by simp) _ hz,hf⟩,k _ (by simp) _ st.ti,⟨a,b,c,k _ (by simp) _ ht⟩,st.i1.at λo e=>k _ (by simp) o e,st.i2.at λo e=>k _ (by simp) o e,st.i3.at λo e=>k _ (by simp) o e⟩
 item:=by
  intro X hP hw hK hc i pins s σ H E I hf st hg;subst hP hw hK;obtain ⟨xs,ys,zs,x,y,v,e1,e2,e3,hx,hy,hv⟩:=hg;obtain ⟨u1,r1,p1⟩:=I.sq (b:=false) e1;obtain ⟨u2,r2,p2⟩:=I.sq (b:=false) e2;obtain ⟨u3,r3,p3⟩:=I.sq (b:=false) e3;obtain ⟨ux,hux,rx⟩:=r1.get hx;obtain ⟨uy,huy,ry⟩:=r2.get hy;obtain ⟨uv,huv,rv⟩:=r3.get hv;refine HV b1 b2 b3 st p1 p2 p3 (x:=ux) (y:=uy) (v:=uv) (by simpa using hux) (by simpa using huy) (by simpa using huv) λh' Z' hp hk=>?_;refine ⟨_,rfl,wpAny_pure ?_⟩;have kk:∀b o,b ∉ [n+5,n+3,n+4,n,n+1,n+2]->s.heap.get? b=some o->h'.get? b=some o:=λb o hb e=>hk b o (aAQ hb) e;have I1:cF X pins σ H { s with heap:=h' }:=I.turnedL (t':=s.toks) kk hf;have fq:jE X pins H s.heap.objs.size:=I.fpOk (aJ _) (I.hok.fresh (aJ _));have e0:X.s₀.heap.get? s.heap.objs.size=none:=by
   cases q:X.s₀.heap.get? s.heap.objs.size with
   | none=>rfl
   | some o=>exact absurd (aV (aY q) I.sz) (cG _)
  refine ⟨.ref s.heap.objs.size,upd H s.heap.objs.size (.tup [x,y,v]),I1.put fq e0 ⟨⟨mN (by show 3<=64;decide),_,hp,rfl⟩,[ux,uy,uv],.cons rx (.cons ry (.cons rv .nil)),⟨_,hp,rfl,_,rfl⟩⟩,rfl,⟨_,x,y,v,rfl,fq.1,rfl,λxs' ys' zs' q1 q2 q3=>?_⟩,Z',λb hb=>?_⟩
  ·rw [e1] at q1;rw [e2] at q2;rw [e3] at q3;cases q1;cases q2;cases q3;exact ⟨hx,hy,hv⟩
  ·have nb:b≠s.heap.objs.size:=λq=>by
    obtain ⟨f0,fb,hz,_⟩:=st.z;obtain ⟨a',b',c',ht'⟩:=st.to;obtain ⟨o1,e1',_⟩:=st.i1;obtain ⟨o2,e2',_⟩:=st.i2;obtain ⟨o3,e3',_⟩:=st.i3;have lt:∀{c o},s.heap.get? c=some o->c≠s.heap.objs.size:=λe=>cK (aY e);simp only [bA,List.not_mem_nil,or_false] at hb;rcases hb with rfl | rfl | rfl | rfl | rfl | rfl
    ·exact lt hz q
    ·exact lt st.ti q
    ·exact lt ht' q
    ·exact lt e1' q
    ·exact lt e2' q
    ·exact lt e3' q
   rw [cU nb];exact (hf b hb).1
 done:=by
  intro X hP hw hK hc i pins s σ H E I hf st hg;subst hP hw hK;obtain ⟨xs,ys,zs,e1,e2,e3,hl⟩:=hg;obtain ⟨u1,r1,p1⟩:=I.sq (b:=false) e1;obtain ⟨u2,r2,p2⟩:=I.sq (b:=false) e2;obtain ⟨u3,r3,p3⟩:=I.sq (b:=false) e3;have l1':=r1.length;have hend:u1.toArray[i]?=none:=by simp;omega
  exact HU (I.ok.hd hc) b1 b2 b3 st p1 p2 p3 hend λh' hk=>⟨rfl,I.turnedL (t':=s.toks) (λb o hb e=>hk b o (aAQ hb) e) hf⟩
 self:=λ_ _ _ _ _ st h=>by
  obtain ⟨f0,fb,hz,_⟩:=st.z;exact xR hz h
def VA(ta:TA):TI:=λσ H R=>ta σ H λvs H1=>∃l1 l2 l3 xs ys zs,vs=[.ref l1,.ref l2,.ref l3]/\H1 l1=some (.lst xs)/\H1 l2=some (.lst ys)/\H1 l3=some (.lst zs)/\R (ZY l1 l2 l3) H1
section
variable{X:Cx}
theorem RM{a b c:Expr}{ta:TA}{p pos tp:Pos}{x:Str}(hg:Gl X "zip")(hm:X.mg "zip" = none)(ha:PA X [a,b,c] ta)(hs:starEach [a,b,c] X.env=(false,eval a X.env)::starEach [b,c] X.env)(hs2:(backTo pos (starEach [b,c] X.env)).any (·.1)=false) :
  PI X (.Name x tp) (.Call (.Name "zip" p) [a,b,c] [] pos) (VA ta):=by
 intro pins s σ H R I h;refine Call_ (vN I hg hm DE (PyProof.Rows.callWith_type1 (thn (ha pos pins s σ H _ I h) λus s1 ⟨vs,H1,I1,r1,q1⟩=>?_) hs hs2));obtain ⟨l1,l2,l3,xs,ys,zs,e,e1,e2,e3,q⟩:=q1;subst e;cases r1 with
 | cons r rr =>
  cases rr with
  | cons r' rr =>
   cases rr with
   | cons r'' rr =>
    cases rr;cases r;cases r';cases r'';obtain ⟨u1,_,p1⟩:=I1.sq (b:=false) e1;obtain ⟨u2,_,p2⟩:=I1.sq (b:=false) e2;obtain ⟨u3,_,p3⟩:=I1.sq (b:=false) e3;refine ZJ p1 p2 p3 λh' Z hz kk=>xR hz ?_;have lt:∀{l:Addr} {u:Array Value},fK false s1.heap l u->l<s1.heap.objs.size:=λ⟨_,e,_⟩=>aY e;refine ⟨_,[s1.heap.objs.size+5,s1.heap.objs.size+3,s1.heap.objs.size+4,s1.heap.objs.size,s1.heap.objs.size+1,s1.heap.objs.size+2],_,_,H1,rfl,I1.kept (t':=s1.toks) kk,HY (lt p1) (lt p2) (lt p3),Z,λb hb=>?_,q⟩;have hle:s1.heap.objs.size<=b:=by
     simp only [bA,List.not_mem_nil,or_false] at hb;rcases hb with rfl | rfl | rfl | rfl | rfl | rfl
     ·exact Nat.le_add_right _ _
     ·exact Nat.le_add_right _ _
     ·exact Nat.le_add_right _ _
     ·exact aJ _
     ·exact Nat.le_add_right _ _
     ·exact Nat.le_add_right _ _
    exact I1.fpOk hle (I1.hok.fresh hle)
theorem PQ{a b c:Expr}{ta:TA}{p pos tp:Pos}{x:Str}(hg:Gl X "zip")(hm:X.mg "zip" = none)(ha:HN X [a,b,c] ta)(hs:starEach [a,b,c] X.env=(false,eval a X.env)::starEach [b,c] X.env:=by first | exact fW | exact fX | exact dE | rfl)(hs2:(backTo pos (starEach [b,c] X.env)).any (·.1)=false:=by repeat (first | exact sT | refine pC (by first | exact fW | exact fX | exact dE) ?_)) :
  PD X (.Name x tp) (.Call (.Name "zip" p) [a,b,c] [] pos) (VA ta):=⟨RM hg hm ha.p hs hs2⟩
end
theorem JL{l1 l2 l3:Addr}{xs ys zs:List V}{σ:St}{js:List Nat}{te:TE}{H:Hp}{Q:VK}(R:Nat->V->Hp->Prop)(hR:∀i y H1 H2,eF H1 H2->R i y H1->R i y H2)(hz:xs.length<=100000)(h1:H l1=some (.lst xs))(h2:H l2=some (.lst ys))(h3:H l3=some (.lst zs))(ly:ys.length=xs.length)(lz:zs.length=xs.length)
  (hs:∀i x y v q H' (Q':VK),xs[i]?=some x->ys[i]?=some y->zs[i]?=some v->bE H H'->H' q=some (.tup [x,y,v])->(∀u H5,bE H' H5->R i u H5->Q' u H5)->te (some (.ref q)::slots σ js) H' Q')
  (hd:∀D us H',H D=none->H' D=some (.lst us)->bE H H'->us.length=xs.length->(∀(i:Nat) (u:V),us[i]?=some u->R i u H')->Q (.ref D) H'):kQ (ZY l1 l2 l3) σ js uQ te H Q:=by
 unfold kQ;intro D hD;refine ⟨λi m us H'=>m=xs.length-i/\i<=xs.length/\us.length=i/\H' D=some (.lst us)/\bE H H'/\∀(j:Nat) (u:V),us[j]?=some u->R j u H',⟨xs.length,by simp,cM _,rfl,bI,bE.upd hD,λj u h=>by simp at h⟩,?_⟩;rintro i m us H2 ⟨rfl,hi,hy,hD2,s2,r2⟩;refine ⟨hD2,?_⟩;by_cases hlt:i<xs.length
 ·have hx:xs[i]?=some xs[i]:=aC hlt;have hy':ys[i]?=some (ys[i]'Oo):=aC _;have hz':zs[i]?=some (zs[i]'Oo):=aC _;refine .inr ⟨⟨xs,ys,zs,_,_,_,s2 _ _ h1,s2 _ _ h2,s2 _ _ h3,hx,hy',hz'⟩,aQ (m:=100000) Oo Dd,λx H3 hy3=>?_⟩;obtain ⟨q,x,y,v,rfl,hq,rfl,hh⟩:=hy3;obtain ⟨g1,g2,g3⟩:=hh xs ys zs (s2 _ _ h1) (s2 _ _ h2) (s2 _ _ h3);have s3:=bE.upd (o:=.tup [x,y,v]) hq;have e3:upd H2 q (.tup [x,y,v]) q=some (.tup [x,y,v]):=bI;generalize upd H2 q (.tup [x,y,v])=H3 at s3 e3;refine ⟨λb H4=>b=true/\H4=H3,⟨rfl,rfl⟩,?_⟩;rintro b H4 ⟨rfl,rfl⟩;rw [if_pos rfl];refine ⟨_,hs i x y v q H4 (λu H5=>bE H4 H5/\R i u H5) g1 g2 g3 (s2.trans s3) e3 (λu H5 s5 r=>⟨s5,r⟩),?_⟩;rintro u H5 ⟨s5,r⟩;have hD5:=s5 _ _ (s3 _ _ hD2);have b6:aR D H5 (upd H5 D (.lst (us++[u]))):=aR.self;have t6:=b6.t hD5;refine ⟨hD5,xs.length-(i+1),Oo,rfl,hlt,by rw [aX,hy];rfl,bI,bE.thru hD ((s2.trans s3).trans s5) b6,?_⟩;exact oG (R:=λj z=>R j z (upd H5 D (.lst (us++[u])))) (λj z hj=>hR j z _ _ ((s3.trans s5).t.trans t6) (r2 j z hj)) (by rw [hy];exact hR i u _ _ t6 r)
 ·have e:i=xs.length:=Oo;subst e;exact .inl ⟨⟨xs,ys,zs,s2 _ _ h1,s2 _ _ h2,s2 _ _ h3,aJ _⟩,hd D us H2 hD hD2 s2 hy r2⟩
end L2
namespace L2
open PySem PySem.Spec PySem.W PyProof.Rows HT
section
variable{X:Cx}{pins:List (Addr × Obj)}{σ:St}{H:Hp}
variable{prog:Program}{w:World}{A:Around}{E:Value->Shared->Prop}{s:Shared}
end
section
variable{prog:Program}{w:World}{K:Type}[DecidableEq K]{knd:HeapKind prog w K}{A:Around}{E:Value->Shared->Prop}{s:Shared}
theorem EG{d a:Addr}{xs:List (K × Addr × Value)}{k:K}{v:Value}{Q:Unit->Shared->Prop}(hu:knd.room A)(hkey:knd.is s.heap k a)(hm:s.heap.DictOfH knd d xs)(hz:xs.length<=sizeLine)
  (hQ:∀h',h'.DictOfH knd d (storedH xs k a v)->Heap.SameBut d s.heap h'->Q () { s with heap:=h' }) :
  wpAny (model prog w) A (dictSetHashed d (.ref a) (knd.hash k) v) Q E s:=by
 obtain ⟨o,es,ep,ho,hc,hd,he,his,hn⟩:=hm;unfold dictSetHashed
 try with_reducible refine wpAny_holding ?_
 refine wpAny_bind (wpAny_dictFind_heap hu hkey ho hd he his hn ?_ ?_)
 ·intro hno;have hnot:k ∉ xs.map (·.1):=not_mem_keys_of_get hno;refine wpAny_bind (wpAny_rule (wpAny_updateDictKeys (hz:=by have e:=size_of_entries he;omega) ho hd (hQ _ ⟨_,_,ep+1,Heap.get?_update_self _ ho (Obj.isFreed_of_dict (Obj.data_mapDictKeys hd _)),
   hc.mapDictKeys _,Obj.data_mapDictKeys hd _,?_,?_,?_⟩ (Heap.SameBut.update ..))))
  ·rw [storedH_new (atKey_none_of_get hno)];simp [he,entryOfKey]
  ·rw [storedH_new (atKey_none_of_get hno)];intro x hx;rcases cT.mp hx with hx | hx
   ·exact knd.keeps (his x hx) ho hd (Heap.SameBut.update ..)
   ·simp only [bM] at hx;subst hx;exact knd.keeps hkey ho hd (Heap.SameBut.update ..)
  ·rw [storedH_new (atKey_none_of_get hno)];rw [bO,List.nodup_append];refine ⟨hn,by simp,?_⟩;intro x hx y hy;simp only [aP,List.map_nil,bM] at hy;subst hy;exact λe=>hnot (e ▸ hx)
 ·intro j p hj;refine wpAny_bind (wpAny_rule (wpAny_bind (wpAny_updateDict ho hd (wpAny_point (hQ _ ⟨_,_,ep,Heap.get?_update_self _ ho (Obj.isFreed_of_dict (Obj.data_mapDict hd _)),
   hc.mapDict _,Obj.data_mapDict hd _,?_,?_,?_⟩ (Heap.SameBut.update ..))))))
  ·rw [storedH_old (atKey_of_get hn hj)];have:=modify_map_putAt (entryOfKey knd) (λe:DictEntry=>{ e with val:=v }) k v (λ_ _=>rfl) hn hj;rw [<-he] at this;obtain ⟨l⟩:=es;simpa using this
  ·rw [storedH_old (atKey_of_get hn hj)];intro x hx;obtain ⟨y,hy,rfl⟩:=aD.mp hx;unfold putAt;split <;> exact knd.keeps (his y hy) ho hd (Heap.SameBut.update ..)
  ·rw [storedH_old (atKey_of_get hn hj)];rw [keys_map_putAt];exact hn
def iU(xs ys:List (K × Addr × Value)):List (K × Addr × Value):=ys.foldl (λacc y=>storedH acc y.1 y.2.1 y.2.2) xs
theorem BL(xs:List (K × Addr × Value))(k:K)(a:Addr)(v:Value):(storedH xs k a v).length<=xs.length+1:=by
 unfold storedH;split
 ·rw [aA];omega
 ·rw [aX];exact aJ _
theorem tE:∀(ys xs:List (K × Addr × Value)),(iU xs ys).length<=xs.length+ys.length
 | [],xs=>aJ _
 | y::ys,xs=>by
  have h1:=tE ys (storedH xs y.1 y.2.1 y.2.2);have h2:=BL xs y.1 y.2.1 y.2.2;show (iU (storedH xs y.1 y.2.1 y.2.2) ys).length<=_;rw [cS];omega
theorem AD(xs ys:List (K × Addr × Value))(i:Nat){y:K × Addr × Value}(h:ys[i]?=some y):iU xs (ys.take (i+1))=storedH (iU xs (ys.take i)) y.1 y.2.1 y.2.2:=by
 simp [iU,fI,h,List.foldl_append]
theorem CA{nm:String}{d o:Addr}{xs ys:List (K × Addr × Value)}{Q:Unit->Shared->Prop}(hu:knd.room A)(hdo:d≠o)(hoS:(o == sysModules)=false)(hd:s.heap.DictOfH knd d xs)(ho:s.heap.DictOfH knd o ys)(hne:xs≠[])(hsz:xs.length+ys.length<=sizeLine)
  (hQ:∀h',h'.DictOfH knd d (iU xs ys)->Heap.SameBut d s.heap h'->Q () { s with heap:=h' }) :
  wpAny (model prog w) A (Builtin.Dict.mergeDict nm d o) Q E s:=by
 obtain ⟨od,esd,epd,hod,hcd,hdd,hed,hid,hnd⟩:=id hd;obtain ⟨oo,eso,epo,hoo,hco,hdo',heo,hio,hno⟩:=id ho;have hlen:ys.length=eso.size:=by
  have:=congrArg List.length heo;rw [aA,Array.length_toList] at this;exact this.symm
 unfold Builtin.Dict.mergeDict;rw [if_neg (by simpa using hdo)];unfold Builtin.Dict.showsAll;rw [if_neg (by rw [hoS];exact bS)];refine wpAny_bind (wpAny_pure ?_);refine wpAny_bind (wpAny_dictEntries hoo hdo' ?_);have loop:wpAny (model prog w) A (do
   let epoch <-dictEpoch o
   let l <-dictEntries o
   forIn [:l.size] PUnit.unit λi (_:PUnit)=>(do
     let l' <-dictEntries o
     match l'[i]? with
      | some e=>do
       holding [e.key,e.val] (dictSetHashed d e.key e.hash e.val)
       let ep' <-dictEpoch o
       if (ep' != epoch)=true then do
         (unsupported (toString nm++toString ":source-changed-during-callback"):Sem PUnit)
         pure (ForInStep.yield PUnit.unit)
        else pure (ForInStep.yield PUnit.unit)
      | _=>do
       (unsupported "internal:dict-merge" : Sem PUnit)
       pure (ForInStep.yield PUnit.unit):Sem (ForInStep PUnit))
   pure ()) Q E s:=by
  refine wpAny_bind (wpAny_dictEpoch hoo hdo' ?_);refine wpAny_bind (wpAny_dictEntries hoo hdo' ?_);refine wpAny_bind ?_;rw [Std.Legacy.Range.forIn_eq_forIn_range'];simp only [Std.Legacy.Range.size,Nat.sub_zero,Nat.add_sub_cancel,Nat.div_one];refine wpAny_forIn_list _
   (λrest _ s'=>∃h' i,s'={ s with heap:=h' }/\rest=List.range' i (eso.size-i)/\i<=eso.size/\h'.DictOfH knd d (iU xs (ys.take i))/\h'.get? o=some oo/\Heap.SameBut d s.heap h')
   _ ?_ ?_ _ _ ⟨s.heap,0,rfl,by simp,cM _,by simpa [iU] using hd,hoo,Heap.SameBut.refl _ _⟩
  ·rintro x rest b s' ⟨h',i,rfl,hr,hi,hd',hoo',hs'⟩;have hlt:i<eso.size:=by
    rcases Nat.lt_or_ge i eso.size with h | h
    ·exact h
    ·rw [Nat.sub_eq_zero_of_le h] at hr;simp at hr
   obtain ⟨rfl,hrest⟩:x=i/\rest=List.range' (i+1) (eso.size-(i+1)):=by
    have e:eso.size-i=(eso.size-(i+1))+1:=Oo;rw [e,List.range'_succ] at hr;injection hr with h1 h2;exact ⟨h1,h2⟩
   refine wpAny_bind (wpAny_dictEntries hoo' hdo' ?_);have hy:ys[x]?=some (ys[x]'Oo):=aC _;have hye:=List.getElem_mem (l:=ys) (n:=x) Oo;rw [entry_at heo x,hy];generalize ys[x]'Oo=y at hy hye;show wpAny _ _ (holding [Value.ref y.2.1,y.2.2] (dictSetHashed d (.ref y.2.1) (knd.hash y.1) y.2.2) >>= _) _ _ _;have hmx:(iU xs (ys.take x)).length<=sizeLine:=by
    have e1:=tE (ys.take x) xs;have e2:(ys.take x).length<=ys.length:=by rw [cH];omega
    omega
   refine wpAny_bind (wpAny_holding (EG (s:={ s with heap:=h' }) hu (knd.keeps (hio y hye) hod hdd hs') hd' hmx λh'' hd'' hs''=>?_));have hoo'':h''.get? o=some oo:=(hs''.2 o (Ne.symm hdo)).trans hoo';refine wpAny_bind (wpAny_dictEpoch hoo'' hdo' ?_);rw [if_neg (by simp)];exact wpAny_pure ⟨h'',x+1,rfl,hrest,hlt,by rw [AD xs ys x hy];exact hd'',hoo'',hs'.trans hs''⟩
  ·rintro b s' ⟨h',i,rfl,hr,hi,hd',hoo',hs'⟩;have hin:i=eso.size:=by
    rcases Nat.lt_or_ge i eso.size with h | h
    ·have e:eso.size-i=(eso.size-(i+1))+1:=Oo;rw [e,List.range'_succ] at hr;exact nomatch hr
    ·exact Nat.le_antisymm hi h
   refine wpAny_pure (hQ h' ?_ hs');rw [hin,<-hlen,cP] at hd';exact hd'
 dsimp only;split
 ·refine wpAny_bind (wpAny_dictEntries hod hdd ?_);split
  ·rename_i hemp
   have h0:esd=#[]:=Array.isEmpty_iff.mp hemp;rw [h0] at hed;have:xs=[]:=by
    cases xs with
    | nil=>rfl
    | cons x xs=>cases hed
   exact absurd this hne
  ·exact loop
 ·exact loop
theorem wR(knd:HeapKind prog w K)(d o:Addr)(hdo:d≠o)(hoS:(o == sysModules)=false) :
  MeetsIn prog w (Builtin.«dict.update» ⟨[.ref d,.ref o],[]⟩) (λA R s=>knd.room A.in1/\∃xs ys,s.heap.DictOfH knd d xs/\s.heap.DictOfH knd o ys/\xs≠[]/\xs.length+ys.length<=sizeLine /\
   ∀h',h'.DictOfH knd d (iU xs ys)->Heap.SameBut d s.heap h'->R (.ok (.ret .none)) { s with heap:=h' }) :=
 .of_wp λA R s ⟨hu,xs,ys,hd,ho,hne,hsz,h⟩=>by
  unfold Builtin.«dict.update»;refine wpAny_bind ?_;unfold Builtin.Dict.selfAndRest;refine wpAny_bind (wpAny_notOrdered_dict hd.typeIs ?_);show wpAny _ _ (pure (d,[Value.ref o])) _ _ s;refine wpAny_pure ?_;show wpAny _ _ (Builtin.Dict.updateFrom "dict.update" d (.ref o) [] .none) _ _ s;unfold Builtin.Dict.updateFrom;refine wpAny_bind (wpAny_typeOf ho.typeIs ?_);rw [if_neg Dd];refine wpAny_bind ?_;unfold Builtin.Dict.merge;refine wpAny_bind ?_
  ·unfold Builtin.Dict.readDirectly;refine wpAny_bind (wpAny_isInstance ho.typeIs isSubtype_dict_dict ?_);simp only [Bool.not_true,Bool.false_eq_true,if_false];refine wpAny_bind (wpAny_specialOf ho.typeIs F.slot_dict_iter.lookup (wpAny_pure ?_));simp only [beq_self_eq_true,if_true];refine wpAny_bind (wpAny_pure ?_);refine CA hu hdo hoS hd ho hne hsz λh' hd' hs'=>?_;show wpAny _ _ (Builtin.Dict.addKeywords d [] >>= _) _ _ _;exact wpAny_bind (wpAny_pure (wpAny_pure ⟨.none,rfl,h h' hd' hs'⟩))
end
def oJ(kvs more:List (List dS × V)):List (List dS × V):=more.foldl (λacc kv=>iG acc kv.1 kv.2) kvs
theorem KT.merge{H:Hp}:∀{more:List (List dS × V)}{ys:List (List dS × Addr × Value)}{kvs:List (List dS × V)}{xs:List (List dS × Addr × Value)},KT H more ys->KT H kvs xs->KT H (oJ kvs more) (iU xs ys):=by
 intro more ys kvs xs r;unfold KT at r
 induction r generalizing kvs xs with
 | nil=>intro q;exact q
 | @cons p q ps qs h t ih =>
  intro r0;have e:KT H (iG kvs p.1 p.2) (storedH xs q.1 q.2.1 q.2.2):=by
   have:=r0.put p.1 h.2.1 h.2.2;rw [<-h.1];exact this
  exact ih e
theorem lG:∀(more kvs:List (List dS × V)),(oJ kvs more).length<=kvs.length+more.length
 | [],kvs=>aJ _
 | p::r,kvs=>by
  have h1:=lG r (iG kvs p.1 p.2);have h2:=gR kvs p.1 p.2;show (oJ (iG kvs p.1 p.2) r).length<=_;rw [cS];omega
section
variable{X:Cx}
@[irreducible] def QR:V->List V->Hp->VK->Prop:=λx vs H Q=>∃(d o:Addr) (kvs more:List (List dS × V)),x=.ref d/\vs=[.ref o]/\d≠o/\H d=some (.dT kvs)/\H o=some (.dT more)/\kvs≠[]/\kvs.length+more.length<=1000/\Q .non (upd H d (.dT (oJ kvs more)))
theorem rupd{H:Hp}{Q:VK}{d o:Addr}{kvs more:List (List dS × V)}(hdo:d≠o)(hd:H d=some (.dT kvs))(ho:H o=some (.dT more))(hne:kvs≠[])(hz:kvs.length+more.length<=1000)(q:∀H',H' d=some (.dT (oJ kvs more))->aR d H H'->Q .non H'):QR (.ref d) [.ref o] H Q:=by
 unfold QR;exact ⟨d,o,kvs,more,rfl,rfl,hdo,hd,ho,hne,hz,q _ bI aR.self⟩
theorem YK(hu:X.A.units+1<cLine):VN X "dict.update" QR:=by
 unfold QR;intro pins s σ H x vs v us Q I rx rv h;obtain ⟨d,o,kvs,more,rfl,rfl,hdo,hd,ho,hne,hz,q⟩:=h;cases rx;obtain ⟨u,rfl,ru⟩:=rv.one;cases ru;obtain ⟨z1,hd1,xs,rel,dd⟩:=GY I.hok hd;obtain ⟨z2,hd2,ys,rel2,dd2⟩:=GY I.hok ho;have l1:kvs.length=xs.length:=Paired.length rel;have l2:more.length=ys.length:=Paired.length rel2;have big:(1000:Nat)<=sizeLine:=Dd;refine call_meetsIn PySem.F.slot_dict_update dd.typeIs PySem.F.entry_dict_update (PySem.F.args_dict_update_2 _ _) (wR (tupleKind (dU X.prog X.w)) d o hdo hd2) ⟨tupleKind_room_in1 hu,xs,ys,dd,dd2,λe=>?_,Oo,λh' dd' hs=>?_⟩
 ·rw [e] at l1;exact hne (List.length_eq_zero_iff.mp (by rw [l1];rfl))
 ·obtain ⟨q',es,ep,hq,h2,h3,h4,_,h5⟩:=dd';have hl:(oJ kvs more).length<=sizeLine:=by have:=lG more kvs;omega
  refine ⟨.non,_,pB (t':=s.toks) (ob:=.dT (oJ kvs more)) I (by rw [hd];exact True.intro) hs ⟨q',hq⟩ ⟨hl,hd1,_,(rel2.merge rel).keeps λc ys' ec=>?_,q',es,ep,hq,h2,h3,h4,h5⟩,rfl,q⟩;rw [cU (vH ec hd (λz=>nomatch z))];exact ec
end
end L2
namespace Kw
open PySem L2 Mf
abbrev sQ7:Stmt:=(top 50)
theorem cQ7:bT ["_law_one","_law_other"] ["_law_one","_law_other"] (bB sQ7):=⟨rfl,rfl,rfl,Kk,rfl,Kk,Kk⟩
abbrev WY:Stmt:=(top 51)
theorem aCZ:bT ["_law_one","_law_other"] ["_law_one","_law_other"] (bB WY):=⟨rfl,rfl,rfl,Kk,rfl,Kk,Kk⟩
abbrev WX:Stmt:=(top 52)
theorem TR:bT ["_law_some","_law_found","_law_one"] ["_law_some"] (bB WX):=⟨rfl,rfl,rfl,Kk,rfl,Kk,Kk⟩
abbrev sQ0:Stmt:=(top 60)
theorem cQ0:bT ["_law_trial_here","_law_rule_here","_law_way","_law_costs","_law_told"] ["_law_trial_here","_law_rule_here","_law_way","_law_costs"] (bB sQ0):=⟨rfl,rfl,rfl,Kk,rfl,Kk,Kk⟩
abbrev sQ2:Stmt:=(top 61)
theorem cQ2:bT ["_law_one","_law_other","_law_share","_law_rest","_law_found","_law_first","_law_second"] ["_law_one","_law_other","_law_share"] (bB sQ2):=⟨rfl,rfl,rfl,Kk,rfl,Kk,Kk⟩
@[irreducible] def lX(K:PySem.W.Frag):Sp:=λvs H Q _=>∃x y f g,vs=[x,y]/\fS K H f x/\fS K H g y/\dL f/\dL g/\jQ 4000 f/\jQ 4000 g/\nC H Q (nA f g)
theorem uW{K:PySem.W.Frag}{H:Hp}{Q:VK}{E:XK}{x y:V}{f g:Fr}(h1:fS K H f x)(h2:fS K H g y)(l1:dL f)(l2:dL g)(z1:jQ 4000 f)(z2:jQ 4000 g)(q:nC H Q (nA f g)):lX K [x,y] H Q E:=by unfold lX;exact ⟨x,y,f,g,rfl,h1,h2,l1,l2,z1,z2,q⟩
@[irreducible] def kE(K:PySem.W.Frag):Sp:=λvs H Q _=>∃x y f g,vs=[x,y]/\fS K H f x/\fS K H g y/\dL f/\dL g/\jQ 4000 f/\jQ 4000 g/\nC H Q (jB f g)
theorem oA{K:PySem.W.Frag}{H:Hp}{Q:VK}{E:XK}{x y:V}{f g:Fr}(h1:fS K H f x)(h2:fS K H g y)(l1:dL f)(l2:dL g)(z1:jQ 4000 f)(z2:jQ 4000 g)(q:nC H Q (jB f g)):kE K [x,y] H Q E:=by unfold kE;exact ⟨x,y,f,g,rfl,h1,h2,l1,l2,z1,z2,q⟩
section
theorem oQ7(F:iQ K "_law_plus" "_law_plus" sQ7 f fd)(T:jS K mg c)(FQ3:eZ dG P w K mg base 1 "_law_frac" ["_law_n","_law_d"] jN):eA P w K mg base dG 2 f fd ["_law_one","_law_other"] (lX K):=by
 refine F.oky cQ7 λvs H Q E h=>?_;unfold lX at h;obtain ⟨x,y,f,g,rfl,h1,h2,l1,l2,z1,z2,q⟩:=h;refine ⟨rfl,λcdv A outer s hr=>?_⟩;obtain ⟨p1,rfl,e1⟩:=h1;obtain ⟨p2,rfl,e2⟩:=h2;refine ⟨_,(bF (bZ (bK FQ3 (hr.mono Dd) (aF (cE fR (cE fG (bV bR (aG 0) aI (λ_ _=>rfl)) (bV bR (aG 1) aI (λ_ _=>rfl))) (cE fG (bV bR (aG 1) aI (λ_ _=>rfl)) (bV bR (aG 0) aI (λ_ _=>rfl)))) (aF (cE fG (bV bR (aG 0) aI (λ_ _=>rfl)) (bV bR (aG 1) aI (λ_ _=>rfl))) aE))))),?_⟩;refine ⟨_,rfl,?_⟩;refine nH e1 rfl ?_;refine ⟨_,rfl,?_⟩;refine nH e2 rfl ?_;refine ⟨_,_,rfl,rfl,tI z1.1 z2.2,?_⟩;refine ⟨_,rfl,?_⟩;refine nH e2 rfl ?_;refine ⟨_,rfl,?_⟩;refine nH e1 rfl ?_;refine ⟨_,_,rfl,rfl,tI z2.1 z1.2,_,_,rfl,rfl,?_⟩;refine ⟨_,rfl,?_⟩;refine nH e1 rfl ?_;refine ⟨_,rfl,?_⟩;refine nH e2 rfl ?_;refine ⟨_,_,rfl,rfl,tI z1.2 z2.2,?_⟩;refine mL (Int.mul_pos l1.pos l2.pos) (jG (rT z1.2 z2.2)) ?_;exact q
theorem aCu(F:iQ K "_law_times" "_law_times" WY f fd)(T:jS K mg c)(FQ3:eZ dG P w K mg base 1 "_law_frac" ["_law_n","_law_d"] jN):eA P w K mg base dG 2 f fd ["_law_one","_law_other"] (kE K):=by
 refine F.oky aCZ λvs H Q E h=>?_;unfold kE at h;obtain ⟨x,y,f,g,rfl,h1,h2,l1,l2,z1,z2,q⟩:=h;refine ⟨rfl,λcdv A outer s hr=>?_⟩;obtain ⟨p1,rfl,e1⟩:=h1;obtain ⟨p2,rfl,e2⟩:=h2;refine ⟨_,(bF (bZ (bK FQ3 (hr.mono Dd) (aF (cE fG (bV bR (aG 0) aI (λ_ _=>rfl)) (bV bR (aG 1) aI (λ_ _=>rfl))) (aF (cE fG (bV bR (aG 0) aI (λ_ _=>rfl)) (bV bR (aG 1) aI (λ_ _=>rfl))) aE))))),?_⟩;refine ⟨_,rfl,?_⟩;refine nH e1 rfl ?_;refine ⟨_,rfl,?_⟩;refine nH e2 rfl ?_;refine ⟨_,_,rfl,rfl,tI z1.1 z2.1,?_⟩;refine ⟨_,rfl,?_⟩;refine nH e1 rfl ?_;refine ⟨_,rfl,?_⟩;refine nH e2 rfl ?_;refine ⟨_,_,rfl,rfl,tI z1.2 z2.2,?_⟩;refine mL (Int.mul_pos l1.pos l2.pos) (jG (rT z1.2 z2.2)) ?_;exact q
end
@[irreducible] def lW(K:PySem.W.Frag):Sp:=λvs H Q _=>∃a xs fs,vs=[.ref a]/\H a=some (.tup xs)/\wJ K H fs xs/\DJ fs/\∀v H',bE H H'->cA H' (fB (pD fs)) v->Q v H'
theorem BP{K:PySem.W.Frag}{H:Hp}{Q:VK}{E:XK}{a:Addr}{xs:List V}{fs:List Fr}(h:H a=some (.tup xs))(r:wJ K H fs xs)(ok:DJ fs)(q:∀v H',bE H H'->cA H' (fB (pD fs)) v->Q v H'):lW K [.ref a] H Q E:=by unfold lW;exact ⟨a,xs,fs,rfl,h,r,ok,q⟩
def TV(W L F:Nat)(es:List bN)(q:List Nat->Rat)(cs:List Fr)(i:Nat):List Rat:=(List.range W).map (hV F es q)++[tK F es q,jR F es q (gI cs)]++[1-hV F es q i]++(List.range (L+1)).map (sM F es q)++List.replicate 9 0
def gJ(H:Hp)(xs:List Rat)(vs:List V):Prop:=bD H (xs.map λx=>fB (cO x)) vs
theorem gJ.app{H:Hp}{xs ys:List Rat}{us vs:List V}(h1:gJ H xs us)(h2:gJ H ys vs):gJ H (xs++ys) (us++vs):=by
 unfold gJ;rw [bO];exact bD.app h1 h2
theorem gJ.t{H H':Hp}{xs:List Rat}{vs:List V}(s:eF H H')(h:gJ H xs vs):gJ H' xs vs:=bD.flat s (xU _) h
theorem gJ.len{H:Hp}{xs:List Rat}{vs:List V}(h:gJ H xs vs):vs.length=xs.length:=gP h
theorem gJ.at{H:Hp}{xs:List Rat}{vs:List V}(h:gJ H xs vs){i:Nat}{v:V}(e:vs[i]?=some v):∃x,xs[i]?=some x/\cA H (fB (cO x)) v:=gQ h e
theorem gJ.take{H:Hp}{xs:List Rat}{vs:List V}(h:gJ H xs vs)(n:Nat):gJ H (xs.take n) (vs.take n):=by
 refine bD.ofIdx (by rw [aA,cH,cH,h.len]) λi y hi=>?_;rw [List.getElem?_take] at hi;split at hi
 ·rename_i hn
  obtain ⟨x,h1,h2⟩:=h.at hi;exact ⟨_,by rw [aH,List.getElem?_take,if_pos hn,h1];rfl,h2⟩
 ·cases hi
theorem gJ.of{H:Hp}{g:Nat->Rat}{n:Nat}{vs:List V}(h:bD H (((List.range n).map λj=>cO (g j)).map fB) vs):gJ H ((List.range n).map g) vs:=by
 unfold gJ;rw [List.map_map] at h ⊢;exact h
@[irreducible] def oW(K:PySem.W.Frag):Sp:=λvs H Q _=>∃(t r cv:V) (es:List bN) (F W M L N B Ns Nc:Nat) (fs:List Str) (ws:List (Str × List Fr)) (i:Nat) (x:Str × List Fr) (cs:List Fr) (e:bN),vs=[t,r,.int (i:Int),cv]/\cA H (sX fs ws) t/\kH K H es r/\fY F W M N B Ns es/\1<=F/\F<=4/\W<=4/\TrG W Ns ws/\ws[i]?=some x/\cA H (pX cs) cv/\VQ Nc es cs/\es.getLast?=some e/\e.1.sum=L/\L<=6 /\
 ∀D vs H',bE H H'->H D=none->H' D=some (.lst vs)->gJ H' (TV W L F es (wq x.2) cs i) vs->Q (.ref D) H'
theorem IK{K:PySem.W.Frag}{H:Hp}{Q:VK}{E:XK}{t r cv:V}{es:List bN}{F W M L N B Ns Nc:Nat}{fs:List Str}{ws:List (Str × List Fr)}{i:Nat}{x:Str × List Fr}{cs:List Fr}{e:bN}(h1:cA H (sX fs ws) t)(h2:kH K H es r)(h3:fY F W M N B Ns es)(h4:1<=F)(h5:F<=4)(h6:W<=4)(h7:TrG W Ns ws)(h8:ws[i]?=some x)(h9:cA H (pX cs) cv)(h10:VQ Nc es cs)(h11:es.getLast?=some e)(h12:e.1.sum=L)(h13:L<=6)
  (q:∀D vs H',bE H H'->H D=none->H' D=some (.lst vs)->gJ H' (TV W L F es (wq x.2) cs i) vs->Q (.ref D) H'):oW K [t,r,.int (i:Int),cv] H Q E:=by
 unfold oW;exact ⟨t,r,cv,es,F,W,M,L,N,B,Ns,Nc,fs,ws,i,x,cs,e,rfl,h1,h2,h3,h4,h5,h6,h7,h8,h9,h10,h11,h12,h13,q⟩
def JZ(K:PySem.W.Frag)(H:Hp)(xs:List Rat)(us:List V):Prop:=wW K H (xs.map cO) us
theorem JZ.len{K:PySem.W.Frag}{H:Hp}{xs:List Rat}{us:List V}(h:JZ K H xs us):us.length=xs.length:=by rw [wW.len h,aA]
theorem JZ.at{K:PySem.W.Frag}{H:Hp}{xs:List Rat}{us:List V}(h:JZ K H xs us){i:Nat}{u:V}(e:us[i]?=some u):∃x,xs[i]?=some x/\nE K H (cO x) u:=by
 obtain ⟨f,h1,h2⟩:=wW.at_ h i u e;rw [aH] at h1;obtain ⟨x,h3,rfl⟩:=Option.map_eq_some_iff.mp h1;exact ⟨x,h3,h2⟩
theorem gJ.w{K:PySem.W.Frag}{H:Hp}{xs:List Rat}{us:List V}(h:gJ H xs us):JZ K H xs us:=⟨by rw [aA];exact h.len,λi x e=>by
 obtain ⟨y,h1,h2⟩:=h.at e;exact ⟨_,by rw [aH,h1];rfl,.inl h2⟩⟩
theorem JZ.one{K:PySem.W.Frag}{H:Hp}{x:Rat}{u:V}(h:nE K H (cO x) u):JZ K H [x] [u]:=⟨rfl,λi y e=>by
 cases i with
 | zero=>cases (show u=y by simpa using e);exact ⟨_,rfl,h⟩
 | succ i=>simp at e⟩
@[irreducible] def rY(K:PySem.W.Frag):Sp:=λvs H Q _=>∃(a b:Addr) (sv:V) (us vs':List V) (xs ys:List Rat) (s:Rat) (p q:Int),vs=[.ref a,.ref b,sv]/\H a=some (.lst us)/\H b=some (.lst vs')/\JZ K H xs us/\JZ K H ys vs'/\xs.length=ys.length/\xs.length<=60/\(∀x∈xs,jQ 2700 (cO x))/\(∀x∈ys,jQ 2700 (cO x))/\nE K H (p,q) sv/\dL (p,q)/\0<p/\p<q/\q<=100/\rv (p,q)=s /\
 ∀D zs H',bE H H'->H D=none->H' D=some (.lst zs)->gJ H' (List.zipWith (λx y=>s*x+(1-s)*y) xs ys) zs->Q (.ref D) H'
theorem BQ{K:PySem.W.Frag}{H:Hp}{Q:VK}{E:XK}{a b:Addr}{sv:V}{us vs':List V}{xs ys:List Rat}{s:Rat}{p q:Int}(h1:H a=some (.lst us))(h2:H b=some (.lst vs'))(h3:JZ K H xs us)(h4:JZ K H ys vs')(h5:xs.length=ys.length)(h6:xs.length<=60)(h7:∀x∈xs,jQ 2700 (cO x))(h8:∀x∈ys,jQ 2700 (cO x))(h9:nE K H (p,q) sv)(h10:dL (p,q))(h11:0<p)(h12:p<q)(h13:q<=100)(h14:rv (p,q)=s)
  (k:∀D zs H',bE H H'->H D=none->H' D=some (.lst zs)->gJ H' (List.zipWith (λx y=>s*x+(1-s)*y) xs ys) zs->Q (.ref D) H'):rY K [.ref a,.ref b,sv] H Q E:=by
 unfold rY;exact ⟨a,b,sv,us,vs',xs,ys,s,p,q,rfl,h1,h2,h3,h4,h5,h6,h7,h8,h9,h10,h11,h12,h13,h14,k⟩
theorem US{j k:Nat}{f g:Fr}(lf:dL f)(lg:dL g)(h1:jQ j f)(h2:jQ k g):jQ (j+k) (jB f g):=by
 obtain ⟨a,b⟩:=h1;obtain ⟨c,d⟩:=h2;have hp:=Int.mul_pos lf.pos lg.pos;have hm:=GG (n:=f.1*g.1) (d:=f.2*g.2) hp;have h2:0<(jB f g).2:=(iH lf lg).pos;have z1:=rT a c;have z2:=rT b d;refine ⟨aQ hm.2 z1,aQ ?_ z2⟩;have:=hm.1;show (jB f g).2.natAbs<=(f.2*g.2).natAbs;have e:(jB f g).2=(lw (f.1*g.1) (f.2*g.2)).2:=rfl;rw [e] at h2 ⊢;omega
theorem EQ(f:Fr)(lf:dL f)(x:Rat):jB f (cO x)=cO (rv f*x):=fE (iH lf (bG _)) (bG _) (by rw [lE lf.pos (bG _).pos,cQ,cQ])
theorem aBP{H:Hp}{Q:VK}{l:Addr}{z:V}(h:H l=some (.lst [z]))(q:∀c H',H c=none->H' c=some (.lst (List.replicate 9 z))->bE H H'->Q (.ref c) H'):XL (.ref l) (.int 9) H Q:=Kt.aAB (k:=9) h Dd q
section
theorem aCt(F:iQ K "_law_total" "_law_total" WX f fd)(T:jS K mg c)
  (FQ7:eZ dG P w K mg base 2 "_law_plus" ["_law_one","_law_other"] (lX K)):eA P w K mg base dG 3 f fd ["_law_some"] (lW K):=by
 refine F.oky TR λvs H Q E h=>?_;unfold lW at h;obtain ⟨a,vs,fs,rfl,ha,hv,ok,q⟩:=h;refine ⟨rfl,λcdv A outer s hr=>?_⟩;have hlen:=hv.len;refine ⟨_,(aK (bQ (i:=1) TR.nd rfl (Or.inl rfl) (cY (aF aI (aF aI aE))))
  (aK (gK PassesOwn.never rfl (rM (aG 0)) (dD (i:=2) TR.nd rfl (Or.inl rfl)) (bF (bQ (i:=1) TR.nd rfl (Or.inl rfl) (bK FQ7 (hr.mono Dd) (aF (aG 1) (aF (aG 2) aE))))))
  (bF (bZ (aG 1))))),?_⟩
 refine mC (by show 2<=64;decide) λp0 H0 hp0 e0 s0=>?_;refine ⟨_,rfl,a,rfl,⟨_,fF.of (s0 _ _ ha)⟩,?_⟩;refine AO (xs:=vs) (λi σ H'=>∃w o2,σ=[some (.ref a),some w,o2]/\bE H H'/\cA H' (fB (pD (fs.take i))) w) ⟨_,_,rfl,s0,dB e0⟩ (λi σ H' _ p=>?_) ?_ ?_
 ·obtain ⟨w,o2,rfl,s1,_⟩:=p;exact fF.of (s1 _ _ ha)
 ·rintro i x σ H1 hx ⟨w,o2,rfl,s1,r1⟩;obtain ⟨g,hg,rg⟩:=hv.at_ i x hx;have hm:=aZ hg;obtain ⟨t1,t2⟩:=ok.part i;refine ⟨_,rfl,_,rfl,?_⟩;refine uW (fS.of r1) (fS.same s1 rg) t1 (ok.low _ hm) t2 (ok.sz _ hm) ?_;intro p2 H2 hp2 e2 s2;refine ⟨_,_,rfl,s1.trans s2,?_⟩;rw [eW hg,lO];exact dB e2
 ·rintro σ H1 ⟨w,o2,rfl,s1,r1⟩;refine ⟨_,rfl,?_⟩;rw [hlen,cP] at r1;exact q _ H1 s1 r1
theorem oQ0(F:iQ K "_law_all" "_law_all" sQ0 f fd)(T:jS K mg c)(FQ39:eZ dG P w K mg base 5 "said" ["trial","rule","way"] (qK K))(FQ22:eZ dG P w K mg base 5 "ended" ["trial","rule","way"] (oD K))(FQ17:eZ dG P w K mg base 6 "average" ["trial","rule","way"] (kM K))(FQ42:eZ dG P w K mg base 6 "spent" ["trial","rule","way","costs"] (nR K))(FQ48:eZ dG P w K mg base 5 "wrong" ["trial","rule"] (nP K)):eA P w K mg base dG 7 f fd ["_law_trial_here","_law_rule_here","_law_way","_law_costs"] (oW K):=by
 refine F.oky cQ0 λvs H Q E h=>?_;unfold oW at h;obtain ⟨t,r,cv,es,F,W,M,L,N,B,Ns,Nc,fs,ws,i,x,cs,e,rfl,rt,rr,RO,f1,f4,w4,TQ,hx,rc,hc,he,hL,hL6,q⟩:=h;refine ⟨rfl,λcdv A outer s hr=>?_⟩;have hxm:=aZ hx;have hsh:=TQ.sh x hxm;have hbo:=TQ.b x hxm;refine ⟨_,(aK (bQ (i:=4) cQ0.nd rfl (Or.inl rfl) (cE vF (hU rG (by rfl) T.b_list Kk (aF (bK FQ39 (hr.mono Dd) (aF (aG 0) (aF (aG 1) (aF (aG 2) aE)))) aE)) (eB (aF (bK FQ17 (hr.mono Dd) (aF (aG 0) (aF (aG 1) (aF (aG 2) aE)))) (aF (bK FQ42 (hr.mono Dd) (aF (aG 0) (aF (aG 1) (aF (aG 2) (aF (aG 3) aE))))) aE)))))
  (bF (bZ (cE vF (cE vF (cE vF (aG 4) (eB (aF (bV bR (bK FQ48 (hr.mono Dd) (aF (aG 0) (aF (aG 1) aE))) (aG 2) (λ_ _=>rfl)) aE))) (hU rG (by rfl) T.b_list Kk (aF (bK FQ22 (hr.mono Dd) (aF (aG 0) (aF (aG 1) (aF (aG 2) aE)))) aE))) (cE MQ (eB (aF (cY (aF aI (aF aI aE))) aE)) aI))))),?_⟩
 refine ⟨_,rfl,_,rfl,_,rfl,?_⟩;refine II rt rr RO f1 f4 hx hsh hbo w4 TQ.w λv1 H1 s1 r1=>?_;obtain ⟨a1,x1,rfl,ha1,rx1⟩:=sB r1;refine ⟨a1,x1,rfl,.inr (fF.of ha1),λl2 hl2=>?_⟩;have s2:bE H1 (upd H1 l2 (.lst x1)):=bE.upd hl2;have e2:upd H1 l2 (.lst x1) l2=some (.lst x1):=bI;generalize upd H1 l2 (.lst x1)=H2 at s2 e2;have S2:=s1.trans s2;refine ⟨_,rfl,_,rfl,_,rfl,?_⟩;refine zK (rt.same S2) (rr.t S2.t) RO f1 f4 hx hsh hbo λv3 H3 s3 r3=>?_;have S3:=S2.trans s3;refine ⟨_,rfl,_,rfl,_,rfl,_,rfl,?_⟩;refine DY (rt.same S3) (rr.t S3.t) RO f1 f4 hx hsh hbo (rc.same S3) hc λv4 H4 s4 r4=>?_;have S4:=S3.trans s4;refine qU (by show 2<=64;decide) λD5 H5 hD5 e5 s5=>?_;have S5:=S4.trans s5;have s25:=(s3.trans s4).trans s5;have lx1:x1.length=W:=by rw [gP rx1,aA,bH]
 refine OB (s25 _ _ e2) e5 (by show x1.length+2<=1000;omega) λD6 H6 hD6 e6 s6=>?_;have S6:=S5.trans s6;have q6:gJ H6 ((List.range W).map (hV F es (wq x.2))++[tK F es (wq x.2),jR F es (wq x.2) (gI cs)]) (x1++[v3,v4]) :=
  gJ.app (gJ.t ((s2.trans s25).trans s6).t (gJ.of rx1)) (bD.cons (r3.flat ((s4.trans s5).trans s6).t (dN _)) (bD.cons (r4.flat (s5.trans s6).t (dN _)) bD.nil))
 refine ⟨_,rfl,_,rfl,_,rfl,?_⟩;refine DW (rt.same S6) (rr.t S6.t) RO f1 f4 w4 TQ λv7 H7 s7 r7=>?_;obtain ⟨wa,wvs,rfl,hwa,rwv⟩:=sB r7;have hiW:i<W:=by rw [<-TQ.w];exact (aN.mp hx).1
 obtain ⟨y,hy,ry⟩:=bD.atX rwv (i:=i) (a:=UG F W es (UH ws) i) (by rw [aH,bP hiW];rfl);have ew:UG F W es (UH ws) i=cO (1-hV F es (wq x.2) i):=by unfold UG;rw [ME hx]
 rw [ew] at ry;refine ⟨_,rfl,?_⟩;refine pE hwa (eI hy) ?_;refine qU (by show 1<=64;decide) λD8 H8 hD8 e8 s8=>?_;have s68:=s7.trans s8;refine OB (s68 _ _ e6) e8 (by rw [aX];show x1.length+2+1<=1000;omega) λD9 H9 hD9 e9 s9=>?_;have S9:=(S6.trans s68).trans s9;have q9:=gJ.app (gJ.t (s68.trans s9).t q6) (show gJ H9 [1-hV F es (wq x.2) i] [y] from bD.cons (ry.flat (s8.trans s9).t (dN _)) bD.nil);refine ⟨_,rfl,_,rfl,_,rfl,?_⟩;refine EC (rt.same S9) (rr.t S9.t) RO f1 f4 hx hsh hbo he hL hL6 λv10 H10 s10 r10=>?_;obtain ⟨a10,x10,rfl,ha10,rx10⟩:=sB r10;refine ⟨a10,x10,rfl,.inr (fF.of ha10),λl11 hl11=>?_⟩;have s11:bE H10 (upd H10 l11 (.lst x10)):=bE.upd hl11;have e11:upd H10 l11 (.lst x10) l11=some (.lst x10):=bI;generalize upd H10 l11 (.lst x10)=H11 at s11 e11;have lx10:x10.length=L+1:=by rw [gP rx10,aA,bH]
 refine OB ((s10.trans s11) _ _ e9) e11 (by rw [aX,aX];show x1.length+2+1+x10.length<=1000;omega) λD12 H12 hD12 e12 s12=>?_;have S12:=((S9.trans s10).trans s11).trans s12;have q12:=gJ.app (gJ.t ((s10.trans s11).trans s12).t q9) (gJ.t (s11.trans s12).t (gJ.of rx10));refine mC (by show 2<=64;decide) λp13 H13 hp13 e13 s13=>?_;refine qU (by show 1<=64;decide) λD14 H14 hD14 e14 s14=>?_;unfold tC;refine aBP e14 λD15 H15 hD15 e15 s15=>?_;have s1215:=(s13.trans s14).trans s15;refine OB (s1215 _ _ e12) e15 (by rw [aX,aX,aX,bU];show x1.length+2+1+x10.length+9<=1000;omega) λD16 H16 hD16 e16 s16=>?_;have S16:=(S12.trans s1215).trans s16;refine q D16 _ H16 S16 ((S12.trans s1215).free hD16) e16 ?_;refine gJ.app (gJ.t (s1215.trans s16).t q12) ?_;have r0:cA H16 (fB (cO 0)) (.ref p13):=by rw [rA];exact dB (((s14.trans s15).trans s16) _ _ e13)
 refine bD.ofIdx (by rw [aA,bU,bU]) λj u hj=>?_;rw [List.getElem?_replicate] at hj;split at hj
 ·rename_i h9
  cases hj;exact ⟨_,by rw [aH,List.getElem?_replicate,if_pos h9];rfl,r0⟩
 ·cases hj
theorem oQ2(F:iQ K "_law_by" "_law_by" sQ2 f fd)(T:jS K mg c)(FQ3:eZ dG P w K mg base 1 "_law_frac" ["_law_n","_law_d"] jN)(FQ7:eZ dG P w K mg base 2 "_law_plus" ["_law_one","_law_other"] (lX K))(FQ13:eZ dG P w K mg base 2 "_law_times" ["_law_one","_law_other"] (kE K)):eA P w K mg base dG 3 f fd ["_law_one","_law_other","_law_share"] (rY K):=by
 refine F.oky cQ2 λvs H Q E h=>?_;unfold rY at h;obtain ⟨a,b,sv,us,vs',xs,ys,sh,p,q,rfl,ha,hb,rx,ry,lxy,l60,zx,zy,rs,low,p0,pq,q100,es,k⟩:=h;refine ⟨rfl,λcdv A outer s hr=>?_⟩;obtain ⟨ps,rfl,eps⟩:=rs.v;refine ⟨_,(aK (bQ (i:=3) cQ2.nd rfl (Or.inl rfl) (bK FQ3 (hr.mono Dd) (aF (cE zY (bV bR (aG 2) aI (λ_ _=>rfl)) (bV bR (aG 2) aI (λ_ _=>rfl))) (aF (bV bR (aG 2) aI (λ_ _=>rfl)) aE))))
  (aK (bQ (i:=4) cQ2.nd rfl (Or.inl rfl) (eB aE))
  (aK (gK PassesOwn.never rfl (uF false false rfl T.b_zip (aF (aG 0) (aF (aG 1) aE))) (lC rfl (dM (dD (i:=5) cQ2.nd rfl (Or.inl rfl)) (dM (dD (i:=6) cQ2.nd rfl (Or.inl rfl)) jF))) (bF (kU (qA PySem.F.plainAttrs_list PySem.F.slot_list_append PySem.F.type_list_append vI (aG 4) (aF (bK FQ7 (hr.mono Dd) (aF (bK FQ13 (hr.mono Dd) (aF (aG 2) (aF (aG 5) aE))) (aF (bK FQ13 (hr.mono Dd) (aF (aG 3) (aF (aG 6) aE))) aE))) aE)))))
  (bF (bZ (aG 4)))))),?_⟩
 refine ⟨_,rfl,?_⟩;refine nH eps rfl ?_;refine ⟨_,rfl,?_⟩;refine nH eps rfl ?_;refine ⟨_,_,rfl,rfl,?_⟩;refine ⟨_,rfl,?_⟩;refine nH eps rfl ?_;have h10:(2:Nat)^10=1024:=Dd;have hq0:q.natAbs<2^10:=Oo;have hq:(q.natAbs:Nat)<2^9000:=aV hq0 (aO Dd Dd);refine mL Oo hq λq1 H1 hq1 e1 s1=>?_;have er:lw (q-p) q=cO (1-sh):=fE (iB Oo) (bG _) (by
  rw [cQ,xL Oo,Rat.div_def,<-es,Rat.intCast_sub];have h1:=jU low.pos;have h2:=iI low.pos;have h1:rv (p,q)*((q:Int):Rat)=((p:Int):Rat):=h1;have h2:((q:Int):Rat)≠0:=h2;grind)
 have zr:jQ 10 (lw (q-p) q):=by
  have h1:=GG (n:=q-p) (d:=q) Oo;have h2:=(iB (n:=q-p) (d:=q) Oo).pos;have h3:(2:Nat)^10=1024:=Dd;exact ⟨Oo,Oo⟩
 have zs':jQ 10 (p,q):=by
  have h3:(2:Nat)^10=1024:=Dd;exact ⟨by show p.natAbs<2^10;omega,by show q.natAbs<2^10;omega⟩
 rw [er] at e1 zr;refine qU (by show 0<=64;decide) λL H2 hL e2 s2=>?_;have S2:=s1.trans s2;have luv:us.length=vs'.length:=by rw [rx.len,ry.len,lxy]
 refine ⟨_,rfl,_,rfl,a,b,us,vs',rfl,S2 _ _ ha,S2 _ _ hb,?_⟩;have na:a≠L:=λz=>by rw [z,] at ha;rw [s1 _ _ ha] at hL;cases hL
 have nb:b≠L:=λz=>by rw [z,] at hb;rw [s1 _ _ hb] at hL;cases hL
 refine tZ (b1:=false) (b2:=false) (xs:=us) (ys:=vs') (λi σ H'=>∃(o5 o6:Option V) (zs:List V),σ=[some (.ref a),some (.ref b),some (.ref ps),some (.ref q1),some (.ref L),o5,o6]/\aR L H2 H'/\H' L=some (.lst zs)/\gJ H' (List.zipWith (λx y=>sh*x+(1-sh)*y) (xs.take i) (ys.take i)) zs) ⟨_,_,[],rfl,(bE.refl _).but,e2,bD.nil⟩ (λi σ H' ⟨_,_,_,_,b',_⟩=>⟨b'.at na (S2 _ _ ha),b'.at nb (S2 _ _ hb)⟩) ?_ ?_
 ·rintro i u v q3 σ H3 H4 hu hv ⟨o5,o6,zs,rfl,b3,e3,r3⟩ hq3 e4 s4;have t23:=b3.t e2;have t04:=(S2.t.trans t23).trans s4.t;have e3L:=s4 _ _ e3;obtain ⟨x,hx,rxu⟩:=rx.at hu;obtain ⟨y,hy,ryv⟩:=ry.at hv;refine ⟨q3,_,rfl,fF.of e4,rfl,_,_,rfl,_,_,rfl,rfl,?_⟩;refine ⟨_,rfl,PZ e3L,_,rfl,_,rfl,?_⟩;have zx':=zx x (aZ hx);have zy':=zy y (aZ hy);have rs4:fS K H4 (p,q) (.ref ps):=(rs.t t04).v;refine oA rs4 (rxu.t t04).v low (bG _) (zs'.up Dd) (zx'.up Dd) λq5 H5 hq5 e5 s5=>?_;rw [EQ _ low,es] at e5;have z5:jQ 2710 (cO (sh*x)):=by
   have:=US low (bG x) zs' zx';rw [EQ _ low,es] at this;exact this.up Dd
  refine ⟨_,rfl,_,rfl,?_⟩;have e1':H5 q1=some (.tup [.int (cO (1-sh)).1,.int (cO (1-sh)).2]):=(s4.trans s5) _ _ (t23 _ _ (s2 _ _ e1));refine oA (fS.new e1') ((ryv.t t04).t s5.t).v (bG _) (bG _) (zr.up Dd) (zy'.up Dd) λq6 H6 hq6 e6 s6=>?_;have z6:jQ 2710 (cO ((1-sh)*y)):=by
   have:=US (bG (1-sh)) (bG y) zr zy';rw [AC] at this;exact this.up Dd
  rw [AC] at e6;refine uW (fS.new (s6 _ _ e5)) (fS.new e6) (bG _) (bG _) (z5.up Dd) (z6.up Dd) λq7 H7 hq7 e7 s7=>?_;rw [FC] at e7;have s47:=(s5.trans s6).trans s7;have lz:zs.length<=60:=by
   rw [r3.len,List.length_zipWith,cH];omega
  refine ON (s47 _ _ e3L) Oo λH8 e8 b8=>?_;have t8:=b8.t (s47 _ _ e3L);refine ⟨_,_,_,rfl,(b3.trans (s4.trans s47).but).trans b8,e8,?_⟩;have el:List.zipWith (λx y=>sh*x+(1-sh)*y) (xs.take (i+1)) (ys.take (i+1))=List.zipWith (λx y=>sh*x+(1-sh)*y) (xs.take i) (ys.take i)++[sh*x+(1-sh)*y]:=by
   rw [eW hx,eW hy,List.zipWith_append (by rw [cH,cH,lxy])];rfl
  rw [el];exact gJ.app (gJ.t ((s4.trans s47).t.trans t8) r3) (bD.cons ((dB e7).flat t8 (dN _)) bD.nil)
 ·rintro σ H3 ⟨o5,o6,zs,rfl,b3,e3,r3⟩;refine ⟨_,rfl,?_⟩;have hm:min us.length vs'.length=xs.length:=by rw [luv,Nat.min_self,ry.len,lxy]
  rw [hm,cP,lxy,cP] at r3;exact k L zs H3 (bE.thru (s1.free hL) S2 b3) (s1.free hL) e3 r3
end
theorem BJ{α:Type}(l:List α)(f g:α->Rat)(s:Rat):dF l (λa=>s*f a+(1-s)*g a)=s*dF l f+(1-s)*dF l g:=by
 rw [<-nN,<-nN,<-qG]
def XQ(F:Nat)(es:List bN)(m:List (List Nat))(q:List Nat->Rat)(j:Nat):Rat:=dF m λc=>xF F es c j*q c
def AQ(F:Nat)(es:List bN)(m:List (List Nat))(q:List Nat->Rat):Rat:=dF m λc=>aS F es c*q c
def KD(n:Nat)(q:List Nat->Rat)(c:List Nat):Rat:=if c.sum=n then q c else 0
def tq(W F:Nat)(es:List bN)(q:List Nat->Rat)(cs:List Fr)(i j:Nat):Rat :=
 if j<W then hV F es q j else if j=W then tK F es q else if j=W+1 then jR F es q (gI cs) else if j=W+2 then 1-hV F es q i else sM F es q (j-(W+3))
def iR(W F:Nat)(es:List bN)(q:List Nat->Rat)(cs:List Fr)(i:Nat):List Rat:=(List.range (W+8)).map (tq W F es q cs i)
section
variable{F W M N B Ns L:Nat}{es fs:List bN}{s:Rat}{q:List Nat->Rat}{cs:List Fr}{i:Nat}
theorem NN(h:∀e∈es,e.1.sum<=L){n:Nat}(hn:L<n):sM F es q n=0:=by
 unfold sM;rw [List.filter_eq_nil_iff.mpr λe he=>by have:=h e he;simp;omega];exact gM _
theorem OO(h:∀e∈es,e.1.sum<=L)(hL:L<=4):(TV W L F es q cs i).take (W+8)=iR W F es q cs i:=by
 apply List.ext_getElem?;intro j;unfold iR;rw [aH];by_cases hj:j<W+8
 ·rw [List.getElem?_take_of_lt hj,bP hj,Option.map_some];unfold TV tq;by_cases h1:j<W
  ·rw [if_pos h1];rw [bJ (by simp <;> omega),bJ (by simp <;> omega),bJ (by simp <;> omega),bJ (by simp <;> omega),aH,bP h1];rfl
  rw [if_neg h1];by_cases h2:j=W
  ·rw [if_pos h2,h2];rw [bJ (by simp <;> omega),bJ (by simp <;> omega),bJ (by simp),cN (by simp),aA,bH,Nat.sub_self];rfl
  rw [if_neg h2];by_cases h3:j=W+1
  ·rw [if_pos h3,h3];rw [bJ (by simp <;> omega),bJ (by simp <;> omega),bJ (by simp),cN (by simp),aA,bH,show W+1-W=1 by omega];rfl
  rw [if_neg h3];by_cases h4:j=W+2
  ·rw [if_pos h4,h4];rw [bJ (by simp <;> omega),bJ (by simp),cN (by simp)];rw [aX,aA,bH,show W+2-(W+[tK F es q,jR F es q (gI cs)].length)=0 by simp];rfl
  rw [if_neg h4];have e3:((List.range W).map (hV F es q)++[tK F es q,jR F es q (gI cs)]++[1-hV F es q i]).length=W+3:=by simp
  by_cases h5:j<W+3+(L+1)
  ·rw [bJ (by rw [aX,e3];simp;omega),cN (by rw [e3];omega),e3,aH,bP Oo];rfl
  ·rw [cN (by rw [aX,e3];simp;omega),List.getElem?_replicate,if_pos (by rw [aX,e3];simp;omega),NN h Oo]
 ·rw [dI (by rw [cH];omega),dI (by rw [bH];omega)];rfl
theorem EH(R:nJ F es){m:List (List Nat)}(nd:m.Nodup)(hs:∀c∈es.map (·.1),c∈m)(w:Nat):hV F es q w=XQ F es m q (1+w):=by
 unfold hV XQ;rw [<-oX R nd hs q (1+w)];exact dJ λe _=>by grind
theorem OM(R:nJ F es){m:List (List Nat)}(nd:m.Nodup)(hs:∀c∈es.map (·.1),c∈m):tK F es q=XQ F es m q 0:=by
 unfold tK XQ;rw [<-oX R nd hs q 0];exact dJ λe _=>by show aS F es e.1*q e.1*gI e.2 0=_;grind
theorem zI(R:nJ F es){m:List (List Nat)}(nd:m.Nodup)(hs:∀c∈es.map (·.1),c∈m):jR F es q (gI cs)=XQ F es m (λc=>gI cs c.sum*q c) 0:=by
 unfold jR XQ;rw [<-oX R nd hs (λc=>gI cs c.sum*q c) 0];exact dJ λe _=>by show gI cs e.1.sum*(aS F es e.1*q e.1*gI e.2 0)=_;grind
theorem NO(R:nJ F es){m:List (List Nat)}(nd:m.Nodup)(hs:∀c∈es.map (·.1),c∈m)(n:Nat):sM F es q n=AQ F es m (KD n q)-XQ F es m (KD n q) 0:=by
 unfold AQ XQ;rw [<-oX R nd hs (KD n q) 0,<-LY R nd hs (KD n q)];have e1:sM F es q n=dF es λe=>aS F es e.1*KD n q e.1*(1-s0 e):=by
  unfold sM;rw [dJ (g:=λe=>aS F es e.1*KD n q e.1*(1-s0 e)) λe he=>by
   have:=(dY.mp he).2;unfold KD;rw [if_pos (of_decide_eq_true this)]]
  exact kZ λe _ h=>by
   unfold KD;rw [if_neg (of_decide_eq_false h)];grind
 rw [e1];have e2:dF es (λe=>aS F es e.1*KD n q e.1*(1-s0 e))+dF es (λe=>aS F es e.1*gI e.2 0*KD n q e.1)=dF es λe=>aS F es e.1*KD n q e.1:=by
  rw [<-qG];exact dJ λe _=>by show aS F es e.1*KD n q e.1*(1-gI e.2 0)+_=_;grind
 grind
theorem GF(I:eR F W M es fs s)(T:nB F M (mB F es fs s) (mS F W es fs s) (mR F es fs s)){m:List (List Nat)}{j:Nat}(hj:j<1+W):XQ F (mE F W M es fs s) m q j=s*XQ F es m q j+(1-s)*XQ F fs m q j:=by
 unfold XQ;rw [<-BJ];exact dJ λc _=>by rw [I.x T c hj];unfold mX;grind
theorem aAV(I:eR F W M es fs s)(T:nB F M (mB F es fs s) (mS F W es fs s) (mR F es fs s)){m:List (List Nat)}:AQ F (mE F W M es fs s) m q=s*AQ F es m q+(1-s)*AQ F fs m q:=by
 unfold AQ;rw [<-BJ];exact dJ λc _=>by rw [I.flow T c];unfold mA;grind
theorem DS(I:eR F W M es fs s)(few:(rise F M).length<=64)(hi:i<W)(j:Nat):tq W F (mE F W M es fs s) q cs i j=s*tq W F es q cs i j+(1-s)*tq W F fs q cs i j:=by
 have T:=I.tg (W:=W) (aW few Dd);have nd:=zR F I.f4 M I.m5;have ka:∀c∈es.map (·.1),c∈rise F M:=λc hc=>by
  obtain ⟨e,he,rfl⟩:=aD.mp hc;exact (mD I.f1).mpr ⟨I.ra.len e he,(I.oa e he).1⟩
 have kb:∀c∈fs.map (·.1),c∈rise F M:=λc hc=>by
  obtain ⟨e,he,rfl⟩:=aD.mp hc;exact (mD I.f1).mpr ⟨I.rb.len e he,(I.ob e he).1⟩
 have km:∀c∈(mE F W M es fs s).map (·.1),c∈rise F M:=λc hc=>by rw [sH] at hc;exact (mO I.f1).subset hc
 have sd:∀w,w<W->hV F (mE F W M es fs s) q w=s*hV F es q w+(1-s)*hV F fs q w:=λw hw=>by
  rw [EH (I.rl T) nd km,EH I.ra nd ka,EH I.rb nd kb,GF I T Oo]
 unfold tq;by_cases h1:j<W
 ·rw [if_pos h1,if_pos h1,if_pos h1,sd j h1]
 rw [if_neg h1,if_neg h1,if_neg h1];by_cases h2:j=W
 ·rw [if_pos h2,if_pos h2,if_pos h2,OM (I.rl T) nd km,OM I.ra nd ka,OM I.rb nd kb,GF I T Oo]
 rw [if_neg h2,if_neg h2,if_neg h2];by_cases h3:j=W+1
 ·rw [if_pos h3,if_pos h3,if_pos h3,zI (I.rl T) nd km,zI I.ra nd ka,zI I.rb nd kb,GF I T Oo]
 rw [if_neg h3,if_neg h3,if_neg h3];by_cases h4:j=W+2
 ·rw [if_pos h4,if_pos h4,if_pos h4,sd i hi];grind
 rw [if_neg h4,if_neg h4,if_neg h4];rw [NO (I.rl T) nd km,NO I.ra nd ka,NO I.rb nd kb,GF I T Oo,aAV I T];grind
theorem KZ(I:eR F W M es fs s)(few:(rise F M).length<=64)(hi:i<W):iR W F (mE F W M es fs s) q cs i=List.zipWith (λx y=>s*x+(1-s)*y) (iR W F es q cs i) (iR W F fs q cs i):=by
 unfold iR;rw [List.zipWith_map,List.zipWith_self];exact dR λj _=>DS I few hi j
theorem FP{sh:List Fr}(R:fY F W M N B Ns es)(hs:∀f∈sh,Fn Ns 1 f){Nc:Nat}(C:VQ Nc es cs)(j:Nat):Qn (Nc*(N*Ns^M)) (64*(1000*B)+1) (tq W F es (wq sh) cs i j):=by
 have up:∀{x:Rat} {C':Nat},Qn (N*Ns^M) C' x->C'<=64*(1000*B)->Qn (Nc*(N*Ns^M)) (64*(1000*B)+1) x:=λh hc=>(h.dvd ⟨Nc,Nat.mul_comm ..⟩).le Oo;unfold tq;split
 ·exact up (R.said hs j) Oo
 split
 ·exact up (R.avg hs) Oo
 split
 ·have:=Qn.sumL (N:=Nc*(N*Ns^M)) (B:=1000*B) (l:=es) (f:=λe=>gI cs e.1.sum*(aS F es e.1*wq sh e.1*s0 e)) λe he=>by
   by_cases z:s0 e=0
   ·rw [z,show gI cs e.1.sum*(aS F es e.1*wq sh e.1*0)=0 by grind];exact Qn.zero _ _
   ·exact (C.qn he z).mul (show Qn (N*Ns^M) B (aS F es e.1*wq sh e.1*s0 e) from R.aqs hs he 0)
  exact (show Qn _ _ (jR F es (wq sh) (gI cs)) from this).le (aW (cC _ R.few) Oo)
 split
 ·have h1:=((Qn.one' (N*Ns^M)).sub (R.said hs i));exact (h1.dvd ⟨Nc,Nat.mul_comm ..⟩).le Oo
 ·have:=Qn.sumL (N:=N*Ns^M) (B:=2*B) (l:=es.filter λe=>decide (e.1.sum=j-(W+3))) (f:=λe=>aS F es e.1*wq sh e.1*(1-s0 e)) λe he=>R.ends hs (dY.mp he).1;have lf:=aW (List.length_filter_le (λe:bN=>decide (e.1.sum=j-(W+3))) es) R.few;have l2:=cC (2*B) lf;exact up (show Qn _ _ (sM F es (wq sh) (j-(W+3))) from this) Oo
end
abbrev sQ1:Stmt:=(top 62)
theorem cQ1:bT ["_law_one","_law_other","_law_both","_law_share","_law_first","_law_second","_law_counts","_law_amount"] ["_law_one","_law_other","_law_both","_law_share"] (bB sQ1):=⟨rfl,rfl,rfl,Kk,rfl,Kk,Kk⟩
theorem DQ.getW{K:PySem.W.Frag}{H:Hp}{kvs:List (List dS × V)}{g:List Nat->Rat}(h:DQ K H kvs g)(d:List Nat){z:V}(hz:nE K H (0,1) z):nE K H (cO (g d)) ((eN kvs (kT (ci d))).getD z):=by
 rcases h.at_ d with ⟨h1,h2⟩ | ⟨v,h1,h2⟩
 ·rw [h1,h2,rA];exact hz
 ·rw [h1];exact h2
theorem zX{H:Hp}{P:bN->V->Prop}:∀{es:List bN}{ys:List V},ys.length=es.length->(∀(i:Nat) (e:bN),es[i]?=some e->∃b cu va,ys[i]?=some (.ref b)/\H b=some (.tup [.ref cu,va])/\H cu=some (.tup (e.1.map EX))/\P e va)->∃kvs:List (List dS × V),Paired (HL H) ys kvs/\Paired (λ(e:bN) (p:List dS × V)=>p.1=kT (ci e.1)/\P e p.2) es kvs
 | [],[],_,_=>⟨[],.nil,.nil⟩
 | [],_::_,h,_=>by cases h
 | _::_,[],h,_=>by cases h
 | e::es,y::ys,hl,h=>by
  obtain ⟨b,cu,va,h1,h2,h3,h4⟩:=h 0 e rfl;cases (show y=.ref b by simpa using h1);obtain ⟨kvs,g1,g2⟩:=zX (es:=es) (ys:=ys) (by simpa using hl) λi e' he=>by
   obtain ⟨b,cu,va,k1,k2⟩:=h (i+1) e' (by simpa using he);exact ⟨b,cu,va,by simpa using k1,k2⟩
  exact ⟨(kT (ci e.1),va)::kvs,.cons ⟨b,cu,rfl,h2,by rw [sI,gG];exact h3⟩ g1,.cons ⟨rfl,h4⟩ g2⟩
theorem GD{P:bN->V->Prop}:∀{ds:List bN}{kvs:List (List dS × V)},Paired (λ(e:bN) (p:List dS × V)=>p.1=kT (ci e.1)/\P e p.2) ds kvs->(ds.map (·.1)).Nodup->∀e∈ds,∃v,eN kvs (kT (ci e.1))=some v/\P e v
 | _,_,.nil,_,e,he=>by cases he
 | d::ds,p::kvs,.cons r t,nd,e,he=>by
  rw [aP,List.nodup_cons] at nd;rcases bA.mp he with rfl | he
  ·exact ⟨p.2,fN (by rw [r.1]),r.2⟩
  ·obtain ⟨v,h1,h2⟩:=GD t nd.2 e he;refine ⟨v,?_,h2⟩;have:¬p.1=kT (ci e.1):=λz=>nd.1 (by
    rw [r.1] at z;rw [show d.1=e.1 from lK (lH z)];exact aD.mpr ⟨e,he,rfl⟩)
   rw [fO this];exact h1
theorem qS{P:bN->V->Prop}{ds:List bN}{kvs:List (List dS × V)}(h:Paired (λ(e:bN) (p:List dS × V)=>p.1=kT (ci e.1)/\P e p.2) ds kvs):kvs.map (·.1)=(ds.map λe=>ci e.1).map kT:=by rw [qR (R:=λe p=>P e p.2) h,List.map_map];rfl
theorem qV{F:Nat}{es:List bN}(R:nJ F es):(es.map λe=>ci e.1).Nodup:=by
 have:=Kt.iT (f:=ci) R.nd λx _ y _ e=>lK e
 rwa [List.map_map] at this
theorem ES{l:List (List Int)}(h:l.Nodup):(l.map kT).Nodup:=Kt.iT h λx _ y _ e=>lH e
theorem VG{K:PySem.W.Frag}{H:Hp}{F:Nat}{es:List bN}{kvs:List (List dS × V)}(R:nJ F es)(h:Paired (λ(e:bN) (p:List dS × V)=>p.1=kT (ci e.1)/\nE K H (cO (aS F es e.1)) p.2) es kvs):DQ K H kvs (aS F es):=⟨λd=>by
 by_cases hd:d∈es.map (·.1)
 ·obtain ⟨e,he,rfl⟩:=aD.mp hd;obtain ⟨v,h1,h2⟩:=GD (P:=λe v=>nE K H (cO (aS F es e.1)) v) h R.nd e he;exact .inr ⟨v,h1,h2⟩
 ·refine .inl ⟨?_,oH R hd⟩;cases q:eN kvs (kT (ci d)) with
  | none=>rfl
  | some u =>
   have h1:=qB q;rw [qS (P:=λe v=>nE K H (cO (aS F es e.1)) v) h] at h1;obtain ⟨c,hc,h3⟩:=aD.mp h1;obtain ⟨e,he,rfl⟩:=aD.mp hc;exact absurd (aD.mpr ⟨e,he,lK (lH h3)⟩) hd⟩
theorem CH:∀(more:List (List dS × V)) {kvs:List (List dS × V)}{ks ms:List (List Int)},kvs.map (·.1)=ks.map kT->ks.Nodup->more.map (·.1)=ms.map kT->∃ks2:List (List Int),(oJ kvs more).map (·.1)=ks2.map kT/\ks2.Nodup/\∀x,x∈ks2↔x∈ks\/x∈ms
 | [],kvs,ks,ms,h,nd,hm=>by
  have:ms=[]:=by
   cases ms with
   | nil=>rfl
   | cons _ _=>cases hm
  subst this;exact ⟨ks,h,nd,λx=>by simp⟩
 | p::r,kvs,ks,ms,h,nd,hm=>by
  cases ms with
  | nil=>cases hm
  | cons m ms =>
   rw [aP,aP] at hm;injection hm with h1 h2;obtain ⟨k1,e1,n1,m1⟩:=ND (v:=p.2) m h nd;rw [<-h1] at e1;obtain ⟨k2,e2,n2,m2⟩:=CH r e1 n1 h2;exact ⟨k2,e2,n2,λx=>by rw [m2,m1,bA];exact or_assoc⟩
theorem HD(ds:List (List Int)):SeqAt.shaped (.list (ds.map λc=>PyData.tuple (c.map .int)))=true:=(lM.lst (n:=2) λd hd'=>by
 obtain ⟨c,_,rfl⟩:=aD.mp hd';exact lM.tup (n:=1) λx hx=>by
  obtain ⟨i,_,rfl⟩:=aD.mp hx;exact lM.int _).ok
theorem GR:∀c:List Int,PyData.hasDictAll (c.map PyData.int)=false
 | []=>rfl
 | _::c=>by show (false || _)=false;rw [Bool.false_or];exact GR c
theorem NI:∀ds:List (List Int),PyData.hasDictAll (ds.map λc=>PyData.tuple (c.map .int))=false
 | []=>rfl
 | c::ds=>by
  show (PyData.hasDictAll (c.map PyData.int) || PyData.hasDictAll (ds.map λc=>PyData.tuple (c.map .int)))=false;rw [GR,NI ds];rfl
theorem SW(ds:List (List Int)):PyData.eqv (.list (ds.map λc=>PyData.tuple (c.map .int))) (.list (ds.map λc=>PyData.tuple (c.map .int)))=true:=oM _ (NI ds)
theorem GW(x:Rat):SeqAt.shaped (.list [fB (cO x)])=true:=(lM.lst (n:=2) λd hd'=>by
 rw [bM.mp hd'];exact lM.tup (n:=1) λx hx=>by
  rcases bA.mp hx with rfl | hx
  ·exact lM.int _
  ·rw [bM.mp hx];exact lM.int _).ok
@[irreducible] def uX(K:PySem.W.Frag):Sp:=λvs H Q _=>∃(x y z sv:V) (es fs ms:List bN) (F W M N B N' B' Ns:Nat) (s:Rat) (p q:Int),vs=[x,y,z,sv]/\kH K H es x/\kH K H fs y/\kH K H ms z/\fY F W M N B Ns es/\fY F W M N B Ns fs/\fY F W M N' B' Ns ms/\1<=F/\F<=4/\es.length+fs.length<64/\nE K H (p,q) sv/\dL (p,q)/\0<p/\p<q/\q<=100/\rv (p,q)=s/\(∀c,aS F ms c=s*aS F es c+(1-s)*aS F fs c)/\(∀c,c∈ms.map (·.1)↔c∈es.map (·.1)\/c∈fs.map (·.1))/\∀H',bE H H'->Q (.bl true) H'
theorem LJ{K:PySem.W.Frag}{H:Hp}{Q:VK}{E:XK}{x y z sv:V}{es fs ms:List bN}{F W M N B N' B' Ns:Nat}{s:Rat}{p q:Int}(h1:kH K H es x)(h2:kH K H fs y)(h3:kH K H ms z)(h4:fY F W M N B Ns es)(h5:fY F W M N B Ns fs)(h6:fY F W M N' B' Ns ms)(h7:1<=F)(h8:F<=4)(h9:es.length+fs.length<64)(h10:nE K H (p,q) sv)(h11:dL (p,q))(h12:0<p)(h13:p<q)(h14:q<=100)(h15:rv (p,q)=s)(h16:∀c,aS F ms c=s*aS F es c+(1-s)*aS F fs c)(h17:∀c,c∈ms.map (·.1)↔c∈es.map (·.1)\/c∈fs.map (·.1))(k:∀H',bE H H'->Q (.bl true) H'):uX K [x,y,z,sv] H Q E:=by
 unfold uX;exact ⟨x,y,z,sv,es,fs,ms,F,W,M,N,B,N',B',Ns,s,p,q,rfl,h1,h2,h3,h4,h5,h6,h7,h8,h9,h10,h11,h12,h13,h14,h15,h16,h17,k⟩
theorem VE{F W M N B Ns:Nat}{es:List bN}(R:fY F W M N B Ns es)(c:List Nat):jQ 2700 (cO (aS F es c)):=by
 have q:Qn N B (aS F es c):=by
  by_cases h:c∈es.map (·.1)
  ·obtain ⟨e,he,rfl⟩:=aD.mp h;exact R.fl e he
  ·rw [oH R.rl h];exact Qn.zero _ _
 obtain ⟨h1,h2⟩:=q.fq.num R.n0;have h3:=R.nz;have h4:=Nat.mul_le_mul R.b2 (Nat.le_of_lt h3);have h5:2^200*2^2500=2^2700:=by rw [<-Nat.pow_add]
 have h6:B*N<2^2700:=by
  rw [<-h5];exact aQ (cC _ R.b2) (Nat.mul_lt_mul_of_pos_left h3 (Nat.pow_pos Dd))
 exact ⟨aQ h1 h6,aQ h2 (aV h3 (aO Dd Dd))⟩
section
theorem oQ1(F:iQ K "_law_amounts_right" "_law_amounts_right" sQ1 f fd)(T:jS K mg c)(FQ16:eZ dG P w K mg base 3 "amounts" ["rule"] (iM K))(FQ2:eZ dG P w K mg base 3 "_law_by" ["_law_one","_law_other","_law_share"] (rY K)):eA P w K mg base dG 4 f fd ["_law_one","_law_other","_law_both","_law_share"] (uX K):=by
 refine F.oky cQ1 λvs H Q E h=>?_;unfold uX at h;obtain ⟨x,y,z,sv,es,fs,ms,F,W,M,N,B,N',B',Ns,sh,p,q,rfl,rx,ry,rz,RA,RB,RC,f1,f4,l64,rs,low,p0,pq,q100,ers,hfl,hke,k⟩:=h;refine ⟨rfl,λcdv A outer s hr=>?_⟩;refine ⟨_,(aK (bQ (i:=4) cQ1.nd rfl (Or.inl rfl) (hU (wF hr.units rfl) (by rfl) T.b_dict Kk (aF (bK FQ16 (hr.mono Dd) (aF (aG 0) aE)) aE)))
  (aK (bQ (i:=5) cQ1.nd rfl (Or.inl rfl) (hU (wF hr.units rfl) (by rfl) T.b_dict Kk (aF (bK FQ16 (hr.mono Dd) (aF (aG 1) aE)) aE)))
  (aK (gK PassesOwn.never rfl (rM (bK FQ16 (hr.mono Dd) (aF (aG 2) aE))) (lC rfl (dM (dD (i:=6) cQ1.nd rfl (Or.inl rfl)) (dM (dD (i:=7) cQ1.nd rfl (Or.inl rfl)) jF))) (bF (iO (eS (MR K hr.units) (bK FQ2 (hr.mono Dd) (aF (eB (aF (yT hr.u1 (aG 4) (aG 6) (cY (aF aI (aF aI aE)))) aE)) (aF (eB (aF (yT hr.u1 (aG 5) (aG 6) (cY (aF aI (aF aI aE)))) aE)) (aF (aG 3) aE)))) (eB (aF (aG 7) aE)) (nomark _)) (bF (bZ uJ)) eK)))
  (aK (kU (qA PySem.F.plainAttrs_dict PySem.F.slot_dict_update PySem.F.type_dict_update (YK hr.u1) (aG 4) (aF (aG 5) aE)))
  (bF (bZ (pP (MT hr.units) (gL (AU rfl) (by rfl) T.b_sorted Kk (aF (aG 4) aE)) (gL (AU rfl) (by rfl) T.b_sorted Kk (aF (hU (wF hr.units rfl) (by rfl) T.b_dict Kk (aF (aG 2) aE)) aE)) (nomark _)))))))),?_⟩
 refine ⟨_,rfl,?_⟩;refine iS rx RA f1 f4 λa1 y1 H1 s1 e1 l1 k1=>?_;obtain ⟨kv1,pr1,pv1⟩:=zX (P:=λe v=>nE K H1 (cO (aS F es e.1)) v) l1 k1;have ks1:=qS (P:=λe v=>nE K H1 (cO (aS F es e.1)) v) pv1;have lk1:kv1.length=es.length:=pv1.length.symm;refine rdcp e1 pr1 (by rw [ks1];exact ES (qV RA.rl)) (by have:=RA.few;omega) λD2 H2 hD2 e2 s2=>?_;have S2:=s1.trans s2;have dq1:DQ K H2 kv1 (aS F es):=(VG RA.rl pv1).t s2.t;refine ⟨_,rfl,?_⟩;refine iS (ry.t S2.t) RB f1 f4 λa3 y3 H3 s3 e3 l3 k3=>?_;obtain ⟨kv3,pr3,pv3⟩:=zX (P:=λe v=>nE K H3 (cO (aS F fs e.1)) v) l3 k3;have ks3:=qS (P:=λe v=>nE K H3 (cO (aS F fs e.1)) v) pv3;have lk3:kv3.length=fs.length:=pv3.length.symm;refine rdcp e3 pr3 (by rw [ks3];exact ES (qV RB.rl)) (by have:=RB.few;omega) λD4 H4 hD4 e4 s4=>?_;have s24:=s3.trans s4;have S4:=S2.trans s24;have dq3:DQ K H4 kv3 (aS F fs):=(VG RB.rl pv3).t s4.t;have dq1':=dq1.t s24.t;have e2':=s24 _ _ e2;refine ⟨_,rfl,?_⟩;refine iS (rz.t S4.t) RC f1 f4 λa5 y5 H5 s5 e5 l5 k5=>?_;have S5:=S4.trans s5;refine ⟨a5,rfl,⟨_,fF.of e5⟩,?_⟩;refine AO (xs:=y5) (λi σ H'=>∃o6 o7,σ=[some x,some y,some z,some sv,some (.ref D2),some (.ref D4),o6,o7]/\bE H5 H') ⟨_,_,rfl,bE.refl _⟩ (λi σ H' _ ⟨_,_,_,s'⟩=>fF.of (s' _ _ e5)) ?_ ?_
 ·rintro i u σ H6 hu ⟨o6,o7,rfl,s6⟩;have hi:i<ms.length:=by rw [<-l5];exact (aN.mp hu).1
  obtain ⟨b,cu,va,hb1,hb2,hcu,fva⟩:=k5 i _ (aC hi);rw [hu] at hb1;cases hb1;generalize hee:ms[i]=e at hcu fva;refine ⟨b,[.ref cu,va],rfl,fF.of (s6 _ _ hb2),rfl,.ref cu,[va],rfl,va,[],rfl,rfl,?_⟩;have S6:=S5.trans s6;have hcu6:=s6 _ _ hcu;have e26:H6 D2=some (.dT kv1):=(s5.trans s6) _ _ e2';have e46:H6 D4=some (.dT kv3):=(s5.trans s6) _ _ e4;have dqa:=dq1'.t (s5.trans s6).t;have dqb:=dq3.t (s5.trans s6).t;refine ⟨_,rfl,D2,rfl,.inr ⟨kv1,.inl e26⟩,_,rfl,?_⟩;refine mC (by show 2<=64;decide) λq7 H7 hq7 e7 s7=>?_;refine ⟨_,jP.ct (c:=ci e.1) (s7 _ _ e26) (by rw [gG];exact s7 _ _ hcu6),?_⟩;have w7:=(dqa.t s7.t).getW e.1 (z:=.ref q7) (.inl (dB e7));generalize (eN kv1 (kT (ci e.1))).getD (.ref q7)=g7 at w7;refine qU (by show 1<=64;decide) λL8 H8 hL8 e8 s8=>?_;have s68:=s7.trans s8;refine ⟨_,rfl,D4,rfl,.inr ⟨kv3,.inl (s68 _ _ e46)⟩,_,rfl,?_⟩;refine mC (by show 2<=64;decide) λq9 H9 hq9 e9 s9=>?_;refine ⟨_,jP.ct (c:=ci e.1) ((s68.trans s9) _ _ e46) (by rw [gG];exact (s68.trans s9) _ _ hcu6),?_⟩;have w9:=(dqb.t (s68.trans s9).t).getW e.1 (z:=.ref q9) (.inl (dB e9));generalize (eN kv3 (kT (ci e.1))).getD (.ref q9)=g9 at w9;refine qU (by show 1<=64;decide) λL10 H10 hL10 e10 s10=>?_;have s6a:=(s68.trans s9).trans s10;refine ⟨_,rfl,?_⟩
  refine BQ ((s9.trans s10) _ _ e8) e10 (JZ.one (w7.t ((s8.trans s9).trans s10).t)) (JZ.one (w9.t s10.t)) rfl (by show 1<=60;decide) (λr hr'=>by rw [bM.mp hr'];exact VE RA _) (λr hr'=>by rw [bM.mp hr'];exact VE RB _) (rs.t (S6.trans s6a).t) low p0 pq q100 ers λL11 zs H11 s11 hL11 e11 r11=>?_;have e11':gJ H11 [aS F ms e.1] zs:=by rw [hfl];exact r11
  refine ⟨_,rfl,?_⟩;refine qU (by show 1<=64;decide) λL12 H12 hL12 e12 s12=>?_;have fva12:=(fva.t ((s6.trans s6a).trans (s11.trans s12)).t).v;have ra:iD K H12 (.list [fB (cO (aS F ms e.1))]) (.ref L11):=by
   have:=(gJ.t s12.t e11').k (K:=K);unfold iD;exact ⟨L11,zs,rfl,s12 _ _ e11,this⟩
  have rb:iD K H12 (.list [fB (cO (aS F ms e.1))]) (.ref L12):=by
   unfold iD;refine ⟨L12,[va],rfl,e12,?_⟩;unfold fD;exact ⟨va,[],rfl,fva12.k,by unfold fD;rfl⟩
  refine reK ra rb (GW _) (GW _) ?_;rw [show PyData.eqv (.list [fB (cO (aS F ms e.1))]) (.list [fB (cO (aS F ms e.1))])=true from oM _ rfl];refine ⟨_,rfl,?_⟩;refine pM Dd ?_;exact ⟨_,_,rfl,(s6.trans s6a).trans (s11.trans s12)⟩
 ·rintro σ H6 ⟨o6,o7,rfl,s6⟩;have S6:=S5.trans s6;have e26:H6 D2=some (.dT kv1):=(s5.trans s6) _ _ e2';have e46:H6 D4=some (.dT kv3):=(s5.trans s6) _ _ e4;have nD:D2≠D4:=λz'=>by rw [z'] at e2;rw [s3 _ _ e2] at hD4;cases hD4
  have hne:kv1≠[]:=λz'=>by
   obtain ⟨e0,er,ees,_⟩:=RA.rl.root;rw [z',ees] at lk1;cases lk1
  refine ⟨_,rfl,(.inr (.inr (.inl ⟨rfl,.inr ⟨kv1,e26⟩⟩))),_,rfl,?_⟩;refine rupd nD e26 e46 hne (by have:=RA.few;have:=RB.few;omega) λH7 e7 b7=>?_;obtain ⟨k2,ek2,nk2,mk2⟩:=CH kv3 ks1 (qV RA.rl) ks3;have t67:=aR.tT b7 e26;have lk2:k2.length<64:=by
   have h1:=congrArg List.length ek2;have h2:=lG kv3 kv1;rw [aA,aA] at h1;omega
  refine ⟨_,rfl,?_⟩;have nn:∀{es:List bN},nJ F es->∀d∈es.map (λe=>ci e.1),d≠[]:=λR d hd' z'=>by
   obtain ⟨e,he,rfl⟩:=aD.mp hd';have h1:=R.len e he;have h2:=congrArg List.length z';unfold ci at h2;rw [aA,List.length_nil] at h2;omega
  refine rsrd (cs:=k2) e7 ek2 (λd hd'=>(mk2 d).mp hd' |>.elim (nn RA.rl d) (nn RB.rl d)) lk2 λq8 ys8 ds8 H8 pm8 pw8 hq8 e8 r8 s8=>?_;have SS:bE H H8:=(bE.thru ((s1.free hD2)) S6 b7).trans s8;obtain ⟨a9,x9,ez9,ha9,lx9,rx9⟩:=rz.t SS.t;subst ez9;obtain ⟨kv9,pr9,pv9⟩:=zX (H:=H8) (P:=λ_ _=>True) lx9 λi e he=>by
   have hx:=aC (show i<x9.length by rw [lx9];exact (aN.mp he).1);obtain ⟨e',he',b,cu,z',eb,hb,hcu,_⟩:=rx9 i _ hx;rw [he] at he';cases he';exact ⟨b,cu,z',by rw [hx,eb],hb,hcu,trivial⟩
  have ks9:=qS (P:=λ_ _=>True) pv9;have lk9:kv9.length=ms.length:=pv9.length.symm;refine ⟨_,rfl,?_⟩;refine rdcp ha9 pr9 (by rw [ks9];exact ES (qV RC.rl)) (by have:=RC.few;omega) λD10 H10 hD10 e10 s10=>?_;have lms:(ms.map λe=>ci e.1).length<64:=by
   have h1:=gZ (qV RC.rl) (m:=k2) λd hd'=>(mk2 d).mpr (by
    obtain ⟨e,he,rfl⟩:=aD.mp hd';rcases (hke e.1).mp (aD.mpr ⟨e,he,rfl⟩) with h | h
    ·obtain ⟨e',he',h'⟩:=aD.mp h;exact .inl (aD.mpr ⟨e',he',by rw [h']⟩)
    ·obtain ⟨e',he',h'⟩:=aD.mp h;exact .inr (aD.mpr ⟨e',he',by rw [h']⟩))
   omega
  refine rsrd (cs:=ms.map λe=>ci e.1) e10 ks9 (nn RC.rl) lms λq11 ys11 ds11 H11 pm11 pw11 hq11 e11 r11 s11=>?_;have eds:ds11=ds8:=vL pw11 pw8 λd=>by
   rw [pm11.mem_iff,pm8.mem_iff,mk2];constructor
   ·intro hd';obtain ⟨e,he,rfl⟩:=aD.mp hd';rcases (hke e.1).mp (aD.mpr ⟨e,he,rfl⟩) with h | h
    ·obtain ⟨e',he',h'⟩:=aD.mp h;exact .inl (aD.mpr ⟨e',he',by rw [h']⟩)
    ·obtain ⟨e',he',h'⟩:=aD.mp h;exact .inr (aD.mpr ⟨e',he',by rw [h']⟩)
   ·rintro (h | h)
    ·obtain ⟨e,he,rfl⟩:=aD.mp h;obtain ⟨e',he',h'⟩:=aD.mp ((hke e.1).mpr (.inl (aD.mpr ⟨e,he,rfl⟩)));exact aD.mpr ⟨e',he',by rw [h']⟩
    ·obtain ⟨e,he,rfl⟩:=aD.mp h;obtain ⟨e',he',h'⟩:=aD.mp ((hke e.1).mpr (.inr (aD.mpr ⟨e,he,rfl⟩)));exact aD.mpr ⟨e',he',by rw [h']⟩
  rw [eds] at r11;have ra:cA H11 (.list (ds8.map λc=>PyData.tuple (c.map .int))) (.ref q8):=by unfold cA;exact ⟨q8,ys8,rfl,(s10.trans s11) _ _ e8,r8.same (s10.trans s11)⟩
  have rb:cA H11 (.list (ds8.map λc=>PyData.tuple (c.map .int))) (.ref q11):=by unfold cA;exact ⟨q11,ys11,rfl,e11,r11⟩
  refine reD ra rb (HD _) (HD _) ?_;rw [SW];exact k H11 (SS.trans (s10.trans s11))
end
end Kw
namespace Kt
open PySem L2 Mf Kw
abbrev sQ5:Stmt:=(top 59)
theorem ZL:bT ["_law_tape_here","_law_kinds","_law_faces","_law_ways","_law_most","_law_one","_law_other"] ["_law_tape_here","_law_kinds"] (bB sQ5):=⟨rfl,rfl,rfl,Kk,rfl,Kk,Kk⟩
@[irreducible] def oB:Sp:=λvs H Q _=>∃(p:Addr) (n:Nat),vs=[.ref p,.int 9]/\bW H p (n+20000)/\∀v x y es fs F W m H',bW H' p n->aR p H H'->H' v=some (.tup [.int (F:Nat),.int (W:Nat),x,y])->wT F W m->cA H' (KC es) x->cA H' (KC fs) y->tL F W m es->(∃m',m'<=m/\tL F W m' fs)->Q (.ref v) H'
theorem EB{H:Hp}{Q:VK}{E:XK}{p:Addr}{n:Nat}(h1:bW H p (n+20000))(k:∀v x y es fs F W m H',bW H' p n->aR p H H'->H' v=some (.tup [.int (F:Nat),.int (W:Nat),x,y])->wT F W m->cA H' (KC es) x->cA H' (KC fs) y->tL F W m es->(∃m',m'<=m/\tL F W m' fs)->Q (.ref v) H'):oB [.ref p,.int 9] H Q E:=by
 unfold oB;exact ⟨p,n,rfl,h1,k⟩
theorem qP:∀es:List uC,fC (KC es)=true:=λes=>by
 have all:∀es:List uC,eQ (es.map JE)=true:=λes=>by
  induction es with
  | nil=>rfl
  | cons e es ih=>show (fC (JE e)&&eQ (es.map JE))=true;rw [ih,CP];rfl
 exact all es
section
theorem oQ5(F:iQ K "_law_pair" "_law_pair" sQ5 f fd)(T:jS K mg c)(FQ6:eZ dG P w K mg base 1 "_law_pick" ["_law_tape_here","_law_many"] jH)(FQ11:eZ dG P w K mg base 2 "_law_sizes" ["_law_tape_here"] nS)(FQ8:eZ dG P w K mg base 4 "_law_rule" ["_law_tape_here","_law_faces","_law_ways","_law_most","_law_plain"] oV):eA P w K mg base dG 5 f fd ["_law_tape_here","_law_kinds"] oB:=by
 refine F.oky ZL λvs H Q E h=>?_;unfold oB at h;obtain ⟨p,n,rfl,T0,k⟩:=h;refine ⟨rfl,λcdv A outer s hr=>?_⟩;refine ⟨_,(aK (DM (bK FQ11 (hr.mono Dd) (aF (aG 0) aE)) (lC rfl (dM (dD (i:=2) ZL.nd rfl (Or.inl rfl)) (dM (dD (i:=3) ZL.nd rfl (Or.inl rfl)) (dM (dD (i:=4) ZL.nd rfl (Or.inl rfl)) jF)))))
  (aK (bQ (i:=5) ZL.nd rfl (Or.inl rfl) (bK FQ8 (hr.mono Dd) (aF (aG 0) (aF (aG 2) (aF (aG 3) (aF (aG 4) (aF (pP pK (bK FQ6 (hr.mono Dd) (aF (aG 0) (aF aI aE))) aI (nomark _)) aE)))))))
  (aK (bQ (i:=6) ZL.nd rfl (Or.inl rfl) (bK FQ8 (hr.mono Dd) (aF (aG 0) (aF (aG 2) (aF (aG 3) (aF (gL (xZ rfl) (by rfl) T.b_max Kk (aF aI (aF (cE zY (aG 4) (bK FQ6 (hr.mono Dd) (aF (aG 0) (aF aI aE)))) aE))) (aF (pP pK (bK FQ6 (hr.mono Dd) (aF (aG 0) (aF aI aE))) aI (nomark _)) aE)))))))
  (aK (yS (iO (eS pK (bK FQ6 (hr.mono Dd) (aF (aG 0) (aF (aG 1) aE))) aI (nomark _)) (bF (bQ (i:=6) ZL.nd rfl (Or.inl rfl) (aG 5))) eK))
  (bF (bZ (cY (aF (aG 2) (aF (aG 3) (aF (aG 5) (aF (aG 6) aE))))))))))),?_⟩
 refine ⟨_,rfl,?_⟩;refine DZ (n:=n+19997) (T0.less Oo) λq1 nF nW nM H1 Z T1 s1 e1=>?_;refine ⟨q1,_,rfl,fF.of e1,rfl,?_⟩;refine ⟨_,_,rfl,_,_,rfl,_,_,rfl,rfl,?_⟩;refine ⟨_,rfl,_,rfl,_,rfl,_,rfl,_,rfl,?_⟩;refine dZ (n:=n+19996) (T1.less Oo) Dd Kk λx2 H2 x20 x21 T2 s2=>?_;refine ⟨rfl,?_⟩;refine rX (n:=n+11000) (T2.less Oo) Z λv3 es H3 T3 s3 r3 R3=>?_;refine ⟨_,rfl,_,rfl,_,rfl,_,rfl,_,rfl,?_⟩;refine dZ (n:=n+10999) (T3.less Oo) Dd Kk λx4 H4 x40 x41 T4 s4=>?_;refine ⟨_,_,rfl,rfl,?_⟩;refine ⟨_,_,rfl,?_⟩;obtain ⟨m',hm',em⟩:∃m':Nat,m'<=nM/\(if (nM:Int)-x4 > 0 then (nM:Int)-x4 else 0)=((m':Nat):Int):=⟨((nM:Int)-x4).toNat,Oo,by split <;> omega⟩;rw [em];refine ⟨_,rfl,?_⟩;refine dZ (n:=n+10998) (T4.less Oo) Dd Kk λx5 H5 x50 x51 T5 s5=>?_;refine ⟨rfl,?_⟩;have Z':wT nF nW m':=⟨Z.w,by have:=Z.f;omega⟩;refine rX (n:=n+2000) (T5.less Oo) Z' λv6 fs H6 T6 s6 r6 R6=>?_;refine ⟨λσ H'=>∃z gs,σ=[some (.ref p),some (.int 9),some (.int (nF:Nat)),some (.int (nW:Nat)),some (.int (nM:Nat)),some v3,some z]/\bW H' p n/\aR p H H'/\cA H' (KC es) v3/\cA H' (KC gs) z/\∃m',m'<=nM/\tL nF nW m' gs,?_,?_⟩
 ·rintro σ H7 ⟨z,gs,rfl,T7,B7,rx,rz,hgs⟩;refine ⟨_,rfl,_,rfl,_,rfl,_,rfl,?_⟩;refine mC (by show 4<=64;decide) λv H8 hv e8 s8=>?_;exact k v v3 z es gs nF nW nM H8 (T7.same s8) (B7.trans s8.but) e8 Z (rx.same s8) (rz.same s8) R3 hgs
 ·refine ⟨_,rfl,_,rfl,?_⟩;refine dZ (n:=n+1999) (T6.less Oo) Dd Kk λx7 H7 x70 x71 T7 s7=>?_;have t36:eF H3 H6:=((T3.t s4).trans (T4.t s5)).trans (T5.t s6);have rx:cA H7 (KC es) v3:=r3.flat (t36.trans (T6.t s7)) (qP es);have ry:cA H7 (KC fs) v6:=r6.flat (T6.t s7) (qP fs);have B7:aR p H H7:=(((((s1.trans s2).trans s3).trans s4).trans s5).trans s6).trans s7;refine ⟨rfl,_,rfl,?_⟩;refine CM (λh=>?_) (λh=>?_)
  ·refine ⟨_,rfl,?_⟩;exact ⟨v3,es,rfl,T7.less Oo,B7,rx,rx,nM,aJ _,R3⟩
  ·exact ⟨v6,fs,rfl,T7.less Oo,B7,rx,ry,m',hm',R6⟩
end
abbrev EI:Stmt:=(top 63)
theorem pG:bT ["_law_script","_law_tape_here","_law_faces","_law_ways","_law_one","_law_other","_law_trial_here","_law_third","_law_share","_law_costs","_law_both","_law_again","_law_twice","_law_way","_law_parts","_law_due"] ["_law_script"] (bB EI):=⟨rfl,rfl,rfl,Kk,rfl,Kk,Kk⟩
theorem AT:∀f∈([(0,1),(1,1),(7,2)]:List Fr),Fn 2 1000 f:=λf hf=>by
 simp only [bA,List.not_mem_nil,or_false] at hf;rcases hf with rfl | rfl | rfl
 ·exact (Fn.zero 2).le Oo
 ·exact (Fn.one 2).le Oo
 ·refine ⟨⟨Dd,Dd⟩,7,?_,Dd⟩;have:=jU (f:=(7,2)) Dd;exact this
structure wH(p q:Int)(s:Rat):Prop where
 low:dL (p,q)
 p0:0<p
 pq:p<q
 q1:q<=100
 e:rv (p,q)=s
 fq:(p,q)=cO s
 qn:Qn q.toNat 1 s
 s0:0<=s
 s1:s<=1
 n0:s≠0
 n1:s≠1
theorem wH.of{p q:Int}(h1:0<p)(h2:p<q)(h3:q<=100)(h4:Int.gcd p q=1):wH p q (rv (p,q)):=by
 have l:dL (p,q):=⟨by show 0<q;omega,h4⟩;have e:=jU (f:=(p,q)) l.pos;have e:rv (p,q)*((q:Int):Rat)=((p:Int):Rat):=e;have qp:(0:Rat)<((q:Int):Rat):=vR Oo;have pp:(0:Rat)<((p:Int):Rat):=vR h1;have lt:((p:Int):Rat)<=((q:Int):Rat):=by exact_mod_cast (Int.le_of_lt h2)
 have lt':((p:Int):Rat)<((q:Int):Rat):=by exact_mod_cast h2
 refine ⟨l,h1,h2,h3,rfl,(NL l).symm,?_,?_,?_,λz=>?_,λz=>?_⟩
 ·refine ⟨p,?_,Oo⟩;rw [show ((q.toNat:Nat):Rat)=((q:Int):Rat) by rw [<-lF];congr 1;omega];exact e
 ·refine UT l (by show 0<=p;omega)
 ·refine cB λh=>?_;have h5:1<rv (p,q):=by grind
  have h6:=Rat.mul_lt_mul_of_pos_right h5 qp;grind
 ·rw [z] at e;grind
 ·rw [z] at e;grind
theorem common{F W m:Nat}(Z:wT F W m):∃M,m<=M/\1<=M/\M<=4/\(rise F M).length<=20/\1<=F/\F<=4/\W<=4:=by
 have hw:=Z.w;rcases Z.f with ⟨rfl,h⟩ | ⟨rfl,h⟩ | ⟨rfl,h⟩
 ·exact ⟨4,h,Dd,Dd,Kk,Dd,Dd,hw.2⟩
 ·exact ⟨3,h,Dd,Dd,Kk,Dd,Dd,hw.2⟩
 ·exact ⟨2,h,Dd,Dd,Kk,Dd,Dd,hw.2⟩
theorem aBC{F W:Nat}{fs:List Str}{ws:List (Str × List Fr)}(T:TrT F W fs ws)(f4:F<=4):TrG W LN ws where
 w:=T.w
 sh:=λx hx f hf=>(xA (T.sh x hx) Oo f hf).1
 b:=λx hx=>⟨λf hf=>(xA (T.sh x hx) Oo f hf).1.low,λf hf=>by
  have h3:(2:Nat)^10=1024:=Dd;have:=(xA (T.sh x hx) Oo f hf).2.2.1;omega,λf hf=>by
  have h3:(2:Nat)^10=1024:=Dd;have:=(xA (T.sh x hx) Oo f hf).2.2.2;omega⟩
theorem wC{F W M N B Ns:Nat}{es:List bN}{cs:List Fr}(R:fY F W M N B Ns es)(hM:M<=4)(hc:∀f∈cs,Fn 2 1000 f)(hl:cs.length=4):VQ 2 es cs:=⟨Dd,Dd,hc,λe he h=>by have:=R.on e he h;omega⟩
theorem SL{F W M N B Ns:Nat}{es:List bN}(R:fY F W M N B Ns es):∃e L,es.getLast?=some e/\e.1.sum=L/\L<=M/\∀d∈es,d.1.sum<=L:=by
 obtain ⟨e0,r,he,_⟩:=R.rl.root;obtain ⟨e,hl⟩:∃e,es.getLast?=some e:=by
  cases h:es.getLast? with
  | none=>rw [List.getLast?_eq_none_iff] at h;rw [h] at he;cases he
  | some e=>exact ⟨e,rfl⟩
 obtain ⟨ys,eys⟩:=List.getLast?_eq_some_iff.mp hl;have hem:e∈es:=List.mem_of_getLast? hl;refine ⟨e,e.1.sum,hl,rfl,R.sum e hem,λd hd'=>?_⟩;have h:=R.rl.srt;rw [eys] at h hd';rcases cT.mp hd' with q | q
 ·exact (List.pairwise_append.mp h).2.2 d q e (bM.mpr rfl)
 ·rw [bM.mp q];exact aJ _
theorem UZ{F W M N B Ns:Nat}{es:List bN}(R:fY F W M N B Ns es)(f1:1<=F)(few:(rise F M).length<=20):es.length<=20:=by
 have:=Kw.gZ R.rl.nd λc hc=>by
  obtain ⟨e,he,rfl⟩:=aD.mp hc;exact (mD (M:=M) f1).mpr ⟨R.rl.len e he,R.sum e he⟩
 rw [aA] at this;omega
theorem aAy{N C:Nat}{x:Rat}(h:Qn N C x)(n0:0<N)(hN:N<2^2500)(hC:C<=2^200):jQ 2700 (cO x):=by
 obtain ⟨h1,h2⟩:=h.fq.num n0;have h5:2^200*2^2500=2^2700:=by rw [<-Nat.pow_add]
 have h6:C*N<2^2700:=by
  rw [<-h5];exact aQ (cC _ hC) (Nat.mul_lt_mul_of_pos_left hN (Nat.pow_pos Dd))
 exact ⟨aQ h1 h6,aQ h2 (aV hN (aO Dd Dd))⟩
theorem pw4{M:Nat}(h:M<=4):LN^M<=LN^4:=aO Dd h
theorem zz{D M:Nat}(h:M<=4)(hD:D<=1000):D*LN^5*LN^M<2^2000:=by
 have h1:=Nat.mul_le_mul (cC (LN^5) hD) (pw4 h);have h2:1000*LN^5*LN^4<2^2000:=Kk;exact aQ h1 h2
theorem zd{D:Nat}(hD:D<=1000):LN^5*D<2^2500:=aQ (dQ _ hD) Kk
theorem r12:rv (1,2)=1/2:=by
 have:=jU (f:=(1,2)) Dd;have:rv (1,2)*((2:Int):Rat)=((1:Int):Rat):=this;have e2:((2:Int):Rat)=2:=rfl;have e1:((1:Int):Rat)=1:=rfl;rw [e2,e1] at this;grind
theorem r23:rv (2,3)=2/3:=by
 have:=jU (f:=(2,3)) Dd;have:rv (2,3)*((3:Int):Rat)=((2:Int):Rat):=this;have e2:((3:Int):Rat)=3:=rfl;have e1:((2:Int):Rat)=2:=rfl;rw [e2,e1] at this;grind
theorem r13:rv (1,3)=1/3:=by
 have:=jU (f:=(1,3)) Dd;have:rv (1,3)*((3:Int):Rat)=((1:Int):Rat):=this;have e2:((3:Int):Rat)=3:=rfl;have e1:((1:Int):Rat)=1:=rfl;rw [e2,e1] at this;grind
abbrev ruE(e:bN):PyData:=.tuple [Kw.iC e.1,pX e.2]
theorem aAz{K:PySem.W.Frag}{H:Hp}{fs:List Fr}{z:V}(h:OR K H fs z):iD K H (pX fs) z:=by
 obtain ⟨sa,sx,rfl,hs,r⟩:=h;have all:∀(fs:List Fr) (xs:List V),wW K H fs xs->fD K H (fs.map fB) xs:=λfs=>by
  induction fs with
  | nil =>
   intro xs r;have:=r.len;rw [List.length_nil] at this;rw [List.length_eq_zero_iff.mp this];unfold fD;rfl
  | cons f fs ih =>
   intro xs r;cases xs with
   | nil=>have:=r.len;cases this
   | cons x xs =>
    obtain ⟨g,h1,h2⟩:=r.at_ 0 x rfl;cases (show f=g by simpa using h1);rw [aP];unfold fD;exact ⟨x,xs,rfl,h2.v.k,ih xs ⟨by have:=r.len;simpa using this,λi y hy=>by
     obtain ⟨g,k1,k2⟩:=r.at_ (i+1) y (by simpa using hy);exact ⟨g,by simpa using k1,k2⟩⟩⟩
 unfold iD;exact ⟨sa,sx,rfl,fF.of hs,all fs sx r⟩
theorem UU{K:PySem.W.Frag}{H:Hp}{es:List bN}{v:V}(h:kH K H es v):iD K H (.tuple (es.map ruE)) v:=by
 obtain ⟨a,xs,rfl,ha,lx,rxs⟩:=h;have all:∀(es:List bN) (xs:List V),xs.length=es.length->(∀(i:Nat) (x:V),xs[i]?=some x->∃e,es[i]?=some e/\EnW K H e x)->fD K H (es.map ruE) xs:=λes=>by
  induction es with
  | nil =>
   intro xs hl _;rw [List.length_eq_zero_iff.mp hl];unfold fD;rfl
  | cons e es ih =>
   intro xs hl hx;cases xs with
   | nil=>cases hl
   | cons x xs =>
    obtain ⟨e',h1,b,cu,z,rfl,hb,hcu,hz⟩:=hx 0 x rfl;cases (show e=e' by simpa using h1);rw [aP];unfold fD;refine ⟨_,xs,rfl,?_,ih xs (by simpa using hl) λi y hy=>?_⟩
    ·refine iD.tup (fF.of hb) ?_;unfold fD;refine ⟨_,_,rfl,?_,?_⟩
     ·refine iD.tup (fF.of hcu) ?_;have:=fD.ints (K:=K) (H:=H) (ci e.1);rw [gG] at this;rw [show (e.1.map λ(n:Nat)=>PyData.int (n:Int))=(ci e.1).map PyData.int by unfold ci;rw [List.map_map];rfl];exact this
     ·unfold fD;exact ⟨z,[],rfl,aAz hz,by unfold fD;rfl⟩
    ·obtain ⟨g,k1,k2⟩:=hx (i+1) y (by simpa using hy);exact ⟨g,by simpa using k1,k2⟩
 exact iD.tup (fF.of ha) (all es xs lx rxs)
theorem lM.fr'(f:Fr):lM 2 (fB f):=lM.tup λd hd'=>by
 rcases bA.mp hd' with rfl | hd'
 ·exact lM.int _
 ·rw [bM.mp hd'];exact lM.int _
theorem WD{n m:Nat}{d:PyData}(h:lM n d)(hm:n<=m):lM m d:=⟨h.1,aW h.2 hm⟩
theorem LW(es:List bN):SeqAt.shaped (.tuple (es.map ruE))=true:=(lM.tup (n:=4) λd hd'=>by
 obtain ⟨e,_,rfl⟩:=aD.mp hd';refine lM.tup (n:=3) λd hd'=>?_;rcases bA.mp hd' with rfl | hd'
 ·exact WD (lM.tup (n:=1) λx hx=>by obtain ⟨i,_,rfl⟩:=aD.mp hx;exact lM.int _) Dd
 ·rw [bM.mp hd'];exact lM.tup (n:=2) λx hx=>by obtain ⟨i,_,rfl⟩:=aD.mp hx;exact lM.fr' _).ok
theorem ET:∀fs:List Fr,PyData.hasDictAll (fs.map fB)=false
 | []=>rfl
 | f::fs=>by show (PyData.hasDict (fB f) || PyData.hasDictAll (fs.map fB))=false;rw [ET fs];rfl
theorem GQ:∀c:List Nat,PyData.hasDictAll (c.map λ(n:Nat)=>PyData.int (n:Int))=false
 | []=>rfl
 | _::c=>by show (false || _)=false;rw [Bool.false_or];exact GQ c
theorem GS:∀es:List bN,PyData.hasDictAll (es.map ruE)=false
 | []=>rfl
 | e::es=>by
  show ((PyData.hasDictAll (e.1.map λ(n:Nat)=>PyData.int (n:Int)) || (PyData.hasDictAll (e.2.map fB) || false)) || PyData.hasDictAll (es.map ruE))=false;rw [GQ,ET,GS es];rfl
theorem oY(xs:List Rat):SeqAt.shaped (.list (xs.map λx=>fB (cO x)))=true:=(lM.lst (n:=2) λd hd'=>by
 obtain ⟨x,_,rfl⟩:=aD.mp hd';exact lM.fr' _).ok
theorem AN(xs:List Rat):PyData.eqv (.list (xs.map λx=>fB (cO x))) (.list (xs.map λx=>fB (cO x)))=true:=oM _ (by
 have:=ET (xs.map cO);rw [List.map_map] at this;exact this)
theorem gJ.rep{H:Hp}{xs:List Rat}{vs:List V}{a:Addr}(h:gJ H xs vs)(e:H a=some (.lst vs)):cA H (.list (xs.map λx=>fB (cO x))) (.ref a):=cA.lst e h
theorem slW{K:PySem.W.Frag}{H1:Hp}{Da:Addr}{va:List V}{n:Nat}{Q':VK}(e:H1 Da=some (.lst va))(k:∀l9 H9,H1 l9=none->H9 l9=some (.lst (va.take (n+8)))->bE H1 H9->Q' (.ref l9) H9):XJ K (.ref Da) none (some ((n:Int)+8)) H1 Q':=by
 refine ⟨Da,va,rfl,fM.of e,λl9 hl9=>?_⟩;rw [show (n:Int)+8=((n+8:Nat):Int) by omega,HC];exact k l9 _ hl9 bI (bE.upd hl9)
theorem lP{W F:Nat}{es:List bN}{q:List Nat->Rat}{cs:List Fr}{i:Nat}:(iR W F es q cs i).length=W+8:=by unfold iR;rw [aA,bH]
section
theorem aCj(F:iQ K "law" "law" EI f fd)(T:jS K mg c)
  (FQ12:eZ dG P w K mg base 1 "_law_tape" ["_law_script","_law_at"] (qH K)) (FQ6:eZ dG P w K mg base 1 "_law_pick" ["_law_tape_here","_law_many"] jH) (FQ5:eZ dG P w K mg base 5 "_law_pair" ["_law_tape_here","_law_kinds"] oB)
  (FQ15:eZ dG P w K mg base 3 "_law_trial" ["_law_tape_here","_law_faces","_law_ways"] lV) (FQ8:eZ dG P w K mg base 4 "_law_rule" ["_law_tape_here","_law_faces","_law_ways","_law_most","_law_plain"] oV) (FQ27:eZ dG P w K mg base 7 "mixed" ["one","other","share"] (nZ K))
  (FQ1:eZ dG P w K mg base 4 "_law_amounts_right" ["_law_one","_law_other","_law_both","_law_share"] (uX K)) (FQ0:eZ dG P w K mg base 7 "_law_all" ["_law_trial_here","_law_rule_here","_law_way","_law_costs"] (oW K)) (FQ2:eZ dG P w K mg base 3 "_law_by" ["_law_one","_law_other","_law_share"] (rY K)) (FQ13:eZ dG P w K mg base 2 "_law_times" ["_law_one","_law_other"] (kE K)) (FQ14:eZ dG P w K mg base 3 "_law_total" ["_law_some"] (lW K)):eA P w K mg base dG 8 f fd ["_law_script"] (rZ K):=by
 refine F.oky pG λvs H Q E h=>?_;unfold rZ at h;obtain ⟨a,ns,rfl,hS,hl,k⟩:=h;refine ⟨rfl,λcdv A outer s hr=>?_⟩;refine ⟨_,(aK (bQ (i:=1) pG.nd rfl (Or.inr rfl) (bK FQ12 (hr.mono Dd) (aF (aG 0) (aF aI aE))))
  (aK (DM (bK FQ5 (hr.mono Dd) (aF (aG 1) (aF aI aE))) (lC rfl (dM (dD (i:=2) pG.nd rfl (Or.inl rfl)) (dM (dD (i:=3) pG.nd rfl (Or.inr rfl)) (dM (dD (i:=4) pG.nd rfl (Or.inl rfl)) (dM (dD (i:=5) pG.nd rfl (Or.inl rfl)) jF))))))
  (aK (bQ (i:=6) pG.nd rfl (Or.inr rfl) (bK FQ15 (hr.mono Dd) (aF (aG 1) (aF (aG 2) (aF (aG 3) aE)))))
  (aK (bQ (i:=7) pG.nd rfl (Or.inl rfl) (bK FQ8 (hr.mono Dd) (aF (aG 1) (aF (aG 2) (aF (aG 3) (aF aI (aF uJ aE)))))))
  (aK (bQ (i:=8) pG.nd rfl (Or.inl rfl) (bV bR (eB (aF (cY (aF aI (aF aI aE))) (aF (cY (aF aI (aF aI aE))) (aF (cY (aF aI (aF aI aE))) (aF (cY (aF aI (aF aI aE))) aE))))) (bK FQ6 (hr.mono Dd) (aF (aG 1) (aF aI aE))) (λ_ _=>rfl)))
  (aK (bQ (i:=9) pG.nd rfl (Or.inr rfl) (hU dA (by rfl) T.b_tuple Kk (aF (fU (eC.of (psc:=bB EI) (N:=["_law_script","_law_tape_here","_law_faces","_law_ways","_law_one","_law_other","_law_trial_here","_law_third","_law_share","_law_costs","_law_both","_law_again","_law_twice","_law_way","_law_parts","_law_due"]) (N':=["_law_j","_law_tape_here"]) (js:=[1]) Kk rfl rfl rfl) (eV rfl T.b_range (aF aI aE)) (λ_ _ _ _=>eJ) (λ_ _ _ _=>(bV (jI K) (eB (aF (cY (aF aI (aF aI aE))) (aF (cY (aF aI (aF aI aE))) (aF (cY (aF aI (aF aI aE))) aE)))) (bK FQ6 (hr.mono Dd) (aF (aG 1) (aF aI aE))) (λ_ _=>rfl)))) aE)))
  (aK (bQ (i:=10) pG.nd rfl (Or.inl rfl) (bK FQ27 (hr.mono Dd) (aF (aG 4) (aF (aG 5) (aF (aG 8) aE)))))
  (aK (iO (KM (pO (bK FQ1 (hr.mono Dd) (aF (aG 4) (aF (aG 5) (aF (aG 10) (aF (aG 8) aE))))))) (bF (bZ uJ)) eK)
  (aK (bQ (i:=11) pG.nd rfl (Or.inl rfl) (bK FQ27 (hr.mono Dd) (aF (bK FQ27 (hr.mono Dd) (aF (aG 4) (aF (aG 7) (aF (cY (aF aI (aF aI aE))) aE)))) (aF (aG 5) (aF (cY (aF aI (aF aI aE))) aE)))))
  (aK (bQ (i:=12) pG.nd rfl (Or.inl rfl) (bK FQ27 (hr.mono Dd) (aF (bK FQ27 (hr.mono Dd) (aF (aG 5) (aF (aG 4) (aF (cY (aF aI (aF aI aE))) aE)))) (aF (aG 7) (aF (cY (aF aI (aF aI aE))) aE)))))
  (aK (gK PassesOwn.never rfl (eV rfl T.b_range (aF (aG 3) aE)) (dD (i:=13) pG.nd rfl (Or.inr rfl)) (aK (uD (i:=14) (eC.of (psc:=bB EI) (N:=["_law_script","_law_tape_here","_law_faces","_law_ways","_law_one","_law_other","_law_trial_here","_law_third","_law_share","_law_costs","_law_both","_law_again","_law_twice","_law_way","_law_parts","_law_due"]) (N':=["_law_rule_here","_law_ways","_law_trial_here","_law_costs","_law_way"]) (js:=[3,6,9,13]) Kk rfl rfl rfl) pG.nd rfl rfl (rM (cY (aF (aG 4) (aF (aG 5) (aF (aG 7) aE))))) (λ_ _ _ _=>eJ) (λ_ _ _ _=>(jJ (LO K) (bK FQ0 (hr.mono Dd) (aF (aG 2) (aF (aG 0) (aF (aG 4) (aF (aG 3) aE))))) kX (kW (cE fR (aG 1) aI)))))
  (aK (iO (eS (zZ hr.units) (jJ tS (bK FQ0 (hr.mono Dd) (aF (aG 6) (aF (aG 10) (aF (aG 13) (aF (aG 9) aE))))) kX (kW (cE fR (aG 3) aI))) (bK FQ2 (hr.mono Dd) (aF (bV bR (aG 14) aI (λ_ _=>rfl)) (aF (bV bR (aG 14) aI (λ_ _=>rfl)) (aF (aG 8) aE)))) (nomark _)) (bF (bZ uJ)) eK)
  (aK (uD (i:=15) (eC.of (psc:=bB EI) (N:=["_law_script","_law_tape_here","_law_faces","_law_ways","_law_one","_law_other","_law_trial_here","_law_third","_law_share","_law_costs","_law_both","_law_again","_law_twice","_law_way","_law_parts","_law_due"]) (N':=["_law_row"]) (js:=[]) Kk rfl rfl rfl) pG.nd rfl rfl (PQ rfl T.b_zip (aF (bV bR (aG 14) aI (λ_ _=>rfl)) (aF (bV bR (aG 14) aI (λ_ _=>rfl)) (aF (bV bR (aG 14) aI (λ_ _=>rfl)) aE)))) (λ_ _ _ _=>eJ) (λ_ _ _ _=>(bK FQ13 (hr.mono Dd) (aF (cY (aF aI (aF aI aE))) (aF (bK FQ14 (hr.mono Dd) (aF (aG 0) aE)) aE)))))
  (aK (iO (eS (zZ hr.units) (jJ tS (bK FQ0 (hr.mono Dd) (aF (aG 6) (aF (aG 11) (aF (aG 13) (aF (aG 9) aE))))) kX (kW (cE fR (aG 3) aI))) (aG 15) (nomark _)) (bF (bZ uJ)) eK)
  (bF (iO (eS (zZ hr.units) (jJ tS (bK FQ0 (hr.mono Dd) (aF (aG 6) (aF (aG 12) (aF (aG 13) (aF (aG 9) aE))))) kX (kW (cE fR (aG 3) aI))) (aG 15) (nomark _)) (bF (bZ uJ)) eK)))))))
  (bF (bZ (pP (YI K hr.units) (aG 11) (aG 12) (nomark _))))))))))))))),?_⟩
 refine ⟨_,rfl,?_⟩;refine IG (k:=0) hS hl Oo λp H1 T1 s1 hp1=>?_;refine ⟨_,rfl,?_⟩;refine EB (n:=1000000) (T1.less Oo) λv2 x y es0 fs0 nF nW m H2 T2 b2 e2 Z rx ry R1 R2=>?_;refine ⟨v2,_,rfl,fF.of e2,rfl,?_⟩;refine ⟨_,_,rfl,_,_,rfl,_,_,rfl,_,_,rfl,rfl,?_⟩;obtain ⟨M,hmM,hM1,hM4,few,f1,f4,w4⟩:=common Z;have hF:2<=nF:=by have:=Z.f;omega
 refine ⟨_,rfl,_,rfl,_,rfl,?_⟩;refine BO (n:=999900) (T2.less Oo) hF f4 Z.w.1 Z.w.2 λvt fs ws H3 T3 b3 rt TT=>?_;refine ⟨_,rfl,_,rfl,_,rfl,?_⟩;have Z3:wT nF nW 1:=⟨Z.w,by have:=Z.f;omega⟩;refine rX (M:=1) (n:=900000) (T3.less Oo) Z3 λvd ds0 H4 T4 b4 rd RD=>?_;refine mC (by show 2<=64;decide) λc1 G1 hc1 g1 u1=>?_;refine mC (by show 2<=64;decide) λc2 G2 hc2 g2 u2=>?_;refine mC (by show 2<=64;decide) λc3 G3 hc3 g3 u3=>?_;refine mC (by show 2<=64;decide) λc4 G4 hc4 g4 u4=>?_;refine qU (by show 4<=64;decide) λc5 G5 hc5 g5 u5=>?_;have u15:=(((u1.trans u2).trans u3).trans u4).trans u5;refine ⟨_,rfl,?_⟩;refine dZ (n:=899000) ((T4.same u15).less Oo) Dd Kk λzz0 H5 z0 z1 T5 b5=>?_;obtain ⟨mz,rfl⟩:∃m:Nat,zz0=(m:Int):=⟨zz0.toNat,Oo⟩;have t5:=(T4.same u15).t b5;have np:c5≠p:=((((T4.same u1).same u2).same u3).same u4).ne hc5;obtain ⟨sv,sp,sq,hsv,rsv,SO⟩:∃(sv:V) (sp sq:Int),([.ref c1,.ref c2,.ref c3,.ref c4]:List V)[mz]?=some sv/\cA H5 (fB (sp,sq)) sv/\wH sp sq (rv (sp,sq)):=by
  rcases (show mz=0\/mz=1\/mz=2\/mz=3 by omega) with rfl | rfl | rfl | rfl
  ·exact ⟨_,1,2,rfl,dB (t5 _ _ ((((u2.trans u3).trans u4).trans u5) _ _ g1)),wH.of Dd Dd Dd Dd⟩
  ·exact ⟨_,1,3,rfl,dB (t5 _ _ (((u3.trans u4).trans u5) _ _ g2)),wH.of Dd Dd Dd Dd⟩
  ·exact ⟨_,6,7,rfl,dB (t5 _ _ ((u4.trans u5) _ _ g3)),wH.of Dd Dd Dd Dd⟩
  ·exact ⟨_,99,100,rfl,dB (t5 _ _ (u5 _ _ g4)),wH.of Dd Dd Dd Dd⟩
 refine KF (b5.at np g5) (eI hsv) ?_;generalize hs:rv (sp,sq)=sh at SO;refine ⟨_,rfl,Oo,Oo,?_⟩;refine CW (bW.like (n:=0) λi=>899000-i) T5 (λ_ y H'=>∃f,cA H' (fB f) y/\Fn 2 1000 f) (λ_ y H1 H2 s ⟨f,r,h⟩=>⟨f,r.flat s (dN _),h⟩) (by show (4:Int).toNat<=100000;decide) (λj H' Q' hj T' s' k'=>?_) (λD ys H6 hD e6 T6 b6 hy hr6=>?_)
 ·have hj4:j<4:=hj;refine mC (by show 2<=64;decide) λc1 G1 hc1 g1 u1=>?_;refine mC (by show 2<=64;decide) λc2 G2 hc2 g2 u2=>?_;refine mC (by show 2<=64;decide) λc3 G3 hc3 g3 u3=>?_;refine qU (by show 3<=64;decide) λc4 G4 hc4 g4 u4=>?_;have u14:=((u1.trans u2).trans u3).trans u4;refine ⟨_,rfl,?_⟩;refine dZ (n:=899000-(j+1)) ((T'.same u14).less Oo) Dd Kk λz G5 z0 z1 T5' b5'=>?_;obtain ⟨m,rfl⟩:∃m:Nat,z=(m:Int):=⟨z.toNat,Oo⟩;have np:c4≠p:=(((T'.same u1).same u2).same u3).ne hc4;have t5:=(T'.same u14).t b5';have r1:cA G5 (fB (0,1)) (.ref c1):=dB (t5 _ _ (((u2.trans u3).trans u4) _ _ g1));have r2:cA G5 (fB (1,1)) (.ref c2):=dB (t5 _ _ ((u3.trans u4) _ _ g2));have r3:cA G5 (fB (7,2)) (.ref c3):=dB (t5 _ _ (u4 _ _ g3));have bb:aR p H' G5:=u14.but.trans b5';have hm:m<3:=Oo;obtain ⟨vv,ff,hv,rv,fk⟩:∃(vv:V) (ff:Fr),([.ref c1,.ref c2,.ref c3]:List V)[m]?=some vv/\cA G5 (fB ff) vv/\Fn 2 1000 ff:=by
   rcases (show m=0\/m=1\/m=2 by omega) with rfl | rfl | rfl
   ·exact ⟨_,_,rfl,r1,AT _ (by simp)⟩
   ·exact ⟨_,_,rfl,r2,AT _ (by simp)⟩
   ·exact ⟨_,_,rfl,r3,AT _ (by simp)⟩
  refine KF (b5'.at np g4) (eI hv) ?_;exact k' _ G5 T5' bb ⟨ff,rv,fk⟩
 refine ⟨D,ys,rfl,.inl ⟨fM.of e6,λl7 hl7=>?_⟩⟩;have s7:bE H6 (upd H6 l7 (.tup ys)):=bE.upd hl7;have e7:upd H6 l7 (.tup ys) l7=some (.tup ys):=bI;generalize upd H6 l7 (.tup ys)=H7 at s7 e7;obtain ⟨cs,rcs,hcs,lcs⟩:∃cs:List Fr,bD H7 (cs.map fB) ys/\(∀f∈cs,Fn 2 1000 f)/\cs.length=ys.length:=by
  have all:∀zs:List V,(∀y∈zs,∃f,cA H6 (fB f) y/\Fn 2 1000 f)->∃cs:List Fr,bD H7 (cs.map fB) zs/\(∀f∈cs,Fn 2 1000 f)/\cs.length=zs.length:=λzs=>by
   induction zs with
   | nil=>intro _;exact ⟨[],bD.nil,(λf h=>by cases h),rfl⟩
   | cons y zs ih =>
    intro h;obtain ⟨f,rf,kf⟩:=h y (aL ..);obtain ⟨cs,c1,c2,c3⟩:=ih λy hy=>h y (aM _ hy);refine ⟨f::cs,bD.cons (rf.same s7) c1,λg hg=>?_,by rw [cS,cS,c3]⟩;rcases bA.mp hg with rfl | hg
    ·exact kf
    ·exact c2 g hg
  refine all ys λy hy'=>?_;obtain ⟨j,hj⟩:=gA.mp hy';exact hr6 j y hj
 have t57:=(T5.t b6).trans s7.t;have t47:=(u15.t.trans t5).trans t57;have t37:=(T3.t b4).trans t47;have t27:=(T2.t b3).trans t37;have lc4:cs.length=4:=by rw [lcs];exact hy
 have rc7:cA H7 (pX cs) (.ref l7):=cA.tup e7 rcs;have rt7:=rt.flat t37 (uN fs ws);obtain ⟨m',hm',R2⟩:=R2;have RA:=XI R1 f1 f4 w4 hmM hM4 few;have RB:=XI R2 f1 f4 w4 (aW hm' hmM) hM4 few;have RD':=XI RD f1 f4 w4 hM1 hM4 few;have wx:kH K H7 (es0.map cv) x:=XG R1 (rx.flat t27 (qP es0));have wy:kH K H7 (fs0.map cv) y:=XG R2 (ry.flat t27 (qP fs0));have wd:kH K H7 (ds0.map cv) vd:=XG RD (rd.flat t47 (qP ds0));have rs7:=rsv.flat t57 (dN _);have TQ:=aBC TT f4;generalize es0.map cv=es at RA wx;generalize fs0.map cv=gs at RB wy;generalize ds0.map cv=ds at RD' wd;have ws7:nE K H7 (cO sh) sv:=.inl (by rw [<-SO.fq];exact rs7);have f64:(rise nF M).length<=64:=aW few Dd;have IB:=RA.mx RB f1 f4 Oo SO.s0 SO.s1;have TB:=IB.tg (W:=nW) (aW few Dd);have sq0:0<sq.toNat:=by have:=SO.p0;have:=SO.pq;omega
 have sqD:sq.toNat<=1000:=by have:=SO.q1;omega
 have RBo:=IB.ru TB RA RB SO.qn sq0 f64 (zz hM4 sqD) Kk;refine ⟨_,rfl,_,rfl,_,rfl,?_⟩;refine kK wx wy ws7 IB RA RB SO.qn sq0 (zd sqD) w4 f64 λvb H8 s8 wb=>?_;have la:=UZ RA f1 few;have lb:=UZ RB f1 few;refine ⟨_,rfl,_,rfl,_,rfl,_,rfl,?_⟩;refine LJ (wx.t s8.t) (wy.t s8.t) wb RA RB RBo f1 f4 Oo (.inl (rs7.same s8)) SO.low SO.p0 SO.pq SO.q1 SO.e (λc=>IB.flow TB c) (λc=>?_) λH9 s9=>?_
 ·rw [IB.mem TB];constructor
  ·intro h;rcases IB.keys h with h | h
   ·exact .inl h.2
   ·exact .inr h.2
  ·rintro (h | h)
   ·exact IB.keyA SO.n0 h
   ·exact IB.keyB SO.n1 h
 refine ⟨_,rfl,CK ?_⟩;have S9:=s8.trans s9;have S12:wH 1 2 (rv (1,2)):=wH.of Dd Dd Dd Dd;have S23:wH 2 3 (rv (2,3)):=wH.of Dd Dd Dd Dd;have q2:Qn 2 1 (rv (1,2)):=S12.qn;have q3:Qn 3 1 (rv (2,3)):=S23.qn;have b2:5^20<=2*5^20:=Oo;have I1:=RA.mx RD' f1 f4 Oo S12.s0 S12.s1;have G1':=I1.tg (W:=nW) (aW few Dd);have R1m:=I1.ru G1' RA RD' q2 Dd f64 (zz hM4 Dd) Kk;have RBu:=RB.up (D:=2) (C:=2*5^20) Dd b2 (zz hM4 Dd) Kk;have I2:=R1m.mx RBu f1 f4 Oo S23.s0 S23.s1;have G2':=I2.tg (W:=nW) (aW few Dd);have z6:3*(2*LN^5)*LN^M<2^2000:=by rw [<-Nat.mul_assoc];exact zz hM4 Dd
 have Rag:=I2.ru G2' R1m RBu q3 Dd f64 z6 Kk;have I3:=RB.mx RA f1 f4 Oo S12.s0 S12.s1;have G3':=I3.tg (W:=nW) (aW few Dd);have R3m:=I3.ru G3' RB RA q2 Dd f64 (zz hM4 Dd) Kk;have RDu:=RD'.up (D:=2) (C:=2*5^20) Dd b2 (zz hM4 Dd) Kk;have I4:=R3m.mx RDu f1 f4 Oo S23.s0 S23.s1;have G4':=I4.tg (W:=nW) (aW few Dd);have Rtw:=I4.ru G4' R3m RDu q3 Dd f64 z6 Kk;have zd6:2*LN^5*3<2^2500:=Kk;refine ⟨_,rfl,_,rfl,?_⟩;refine mC (by show 2<=64;decide) λc10 H10 hc10 e10 s10=>?_;have S10:=S9.trans s10;refine kK (wx.t S10.t) (wd.t S10.t) (.inl (by rw [<-S12.fq];exact dB e10)) I1 RA RD' q2 Dd (zd Dd) w4 f64 λv11 H11 s11 w11=>?_;refine ⟨_,rfl,?_⟩;refine mC (by show 2<=64;decide) λc12 H12 hc12 e12 s12=>?_;have S12':=(S10.trans s11).trans s12;refine kK (w11.t s12.t) (wy.t S12'.t) (.inl (by rw [<-S23.fq];exact dB e12)) I2 R1m RBu q3 Dd zd6 w4 f64 λvag H13 s13 wag=>?_;have S13:=S12'.trans s13;refine ⟨_,rfl,_,rfl,?_⟩;refine mC (by show 2<=64;decide) λc14 H14 hc14 e14 s14=>?_;have S14:=S13.trans s14;refine kK (wy.t S14.t) (wx.t S14.t) (.inl (by rw [<-S12.fq];exact dB e14)) I3 RB RA q2 Dd (zd Dd) w4 f64 λv15 H15 s15 w15=>?_;refine ⟨_,rfl,?_⟩;refine mC (by show 2<=64;decide) λc16 H16 hc16 e16 s16=>?_;have S16:=(S14.trans s15).trans s16;refine kK (w15.t s16.t) (wd.t S16.t) (.inl (by rw [<-S23.fq];exact dB e16)) I4 R3m RDu q3 Dd zd6 w4 f64 λvtw H17 s17 wtw=>?_;have S17:=S16.trans s17
 have eq2:mE nF nW M (mE nF nW M gs es (rv (1,2))) ds (rv (2,3))=mE nF nW M (mE nF nW M es ds (rv (1,2))) gs (rv (2,3)):=by
  refine MY (λc=>?_) λc j hj=>?_
  ·show rv (2,3)*aS nF _ c+(1-rv (2,3))*aS nF ds c=rv (2,3)*aS nF _ c+(1-rv (2,3))*aS nF gs c;rw [I3.flow G3' c,I1.flow G1' c,r23];unfold mA;rw [r12];grind
  ·show rv (2,3)*xF nF _ c j+(1-rv (2,3))*xF nF ds c j=rv (2,3)*xF nF _ c j+(1-rv (2,3))*xF nF gs c j;rw [I3.x G3' c hj,I1.x G1' c hj,r23];unfold mX;rw [r12];grind
 rw [eq2] at wtw;have wag17:=wag.t (((s14.trans s15).trans s16).trans s17).t;have wb17:=wb.t (s9.trans (((((((s10.trans s11).trans s12).trans s13).trans s14).trans s15).trans s16).trans s17)).t;have wx17:=wx.t S17.t;have wy17:=wy.t S17.t;have wd17:=wd.t S17.t;have rt17:=rt7.same S17;have rc17:=rc7.same S17;have rs17:=rs7.same S17;generalize hag:mE nF nW M (mE nF nW M es ds (rv (1,2))) gs (rv (2,3))=ag at Rag wag17 wtw;refine ⟨_,rfl,_,rfl,Oo,Oo,?_⟩;rw [Int.toNat_natCast];refine oZ (λi σ H'=>∃o13 o14 o15:Option V,σ=[some (.ref a),some (.ref p),some (.int (nF:Nat)),some (.int (nW:Nat)),some x,some y,some vt,some vd,some sv,some (.ref l7),some vb,some vag,some vtw,o13,o14,o15]/\bE H17 H') ⟨_,_,_,rfl,bE.refl _⟩ ?_ ?_
 ·rintro i σ H18 hi ⟨o13,o14,o15,rfl,s18⟩;rw [show (0:Int)+(i:Int)=(i:Int) by omega];obtain ⟨xw,hxw⟩:∃xw,ws[i]?=some xw:=⟨_,aC (by rw [TQ.w];exact hi)⟩;have hxm:=aZ hxw;have tell:∀{N B:Nat} {us:List bN} {v:V} {H':Hp} {Q':VK} {E':XK},kH K H' us v->fY nF nW M N B LN us->bE H17 H'->(∀D vs H2,bE H' H2->H' D=none->H2 D=some (.lst vs)->gJ H2 (iR nW nF us (wq xw.2) cs i) (vs.take (nW+8))->Q' (.ref D) H2)->oW K [vt,v,.int (i:Int),.ref l7] H' Q' E':=λwv RV sv' kk=>by
   obtain ⟨e,L,hl',hL,hLM,hle⟩:=SL RV;refine IK (rt17.same sv') wv RV f1 f4 w4 TQ hxw (rc17.same sv') (wC RV hM4 hcs lc4) hl' hL Oo λD vs H2 s2 hD e2 q2=>kk D vs H2 s2 hD e2 ?_;have:=q2.take (nW+8)
   rwa [OO hle Oo] at this
  refine ⟨_,rfl,_,rfl,_,rfl,?_⟩;refine mC (by show 3<=64;decide) λq19 H19 hq19 e19 s19=>?_;have S19:=s18.trans s19;refine ⟨q19,rfl,⟨_,fF.of e19⟩,?_⟩;refine rE (J:=ZZ K q19) (n:=3) (λj u=>([x,y,vd]:List V)[j]?=some u) Dd (λD j ys H'=>H19 D=none/\bE H19 H'/\∀(j:Nat) (u:V),ys[j]?=some u->∃Ea vs,u=.ref Ea/\Ea≠D/\H' Ea=some (.lst vs)/\gJ H' (iR nW nF (([es,gs,ds]:List (List bN)).getD j []) (wq xw.2) cs i) vs)
   (λD H1 hD _ s=>⟨hD,s,λj u h=>by simp at h⟩) (λD j ys H' hj _ q=>⟨⟨[x,y,vd],([x,y,vd]:List V)[j],fF.of (q.2.1 _ _ e19),aC hj⟩,λu H3 yy=>⟨yy.1,yy.2 _ (fF.of (q.2.1 _ _ e19))⟩⟩) (λD ys H' _ q=>⟨_,fF.of (q.2.1 _ _ e19),aJ _⟩) (λD j u ys H' hu hj hy hD q=>?_) (λD ys H20 hy hD hD20 q=>?_)
  ·obtain ⟨q0,q1,q2⟩:=q;obtain ⟨us,N',B',wu,RU,eus⟩:∃(us:List bN) (N' B':Nat),kH K H' us u/\fY nF nW M N' B' LN us/\(([es,gs,ds]:List (List bN)).getD j [])=us:=by
    have t17:=(S19.trans q1).t;rcases (show j=0\/j=1\/j=2 by omega) with rfl | rfl | rfl
    ·cases (show x=u by simpa using hu);exact ⟨es,_,_,wx17.t t17,RA,rfl⟩
    ·cases (show y=u by simpa using hu);exact ⟨gs,_,_,wy17.t t17,RB,rfl⟩
    ·cases (show vd=u by simpa using hu);exact ⟨ds,_,_,wd17.t t17,RD',rfl⟩
   refine ⟨_,rfl,_,rfl,_,rfl,_,rfl,?_⟩;refine tell wu RU (S19.trans q1) λDa va H1 s1 hDa e1 f1'=>?_;refine ⟨_,rfl,_,_,rfl,rfl,_,rfl,?_⟩;refine slW e1 λl9 H9 hl9 e9 s9=>?_;have hD9:=(s1.trans s9) _ _ hD;have nl:l9≠D:=λz=>by rw [z,s1 _ _ hD] at hl9;cases hl9
   refine ⟨hD9,λH6 e6 b6=>⟨q0,bE.thru q0 ((q1.trans s1).trans s9) b6,?_⟩⟩;have t6:=b6.t hD9;refine oG (R:=λj u=>∃Ea vs,u=.ref Ea/\Ea≠D/\H6 Ea=some (.lst vs)/\gJ H6 (iR nW nF (([es,gs,ds]:List (List bN)).getD j []) (wq xw.2) cs i) vs) (λj' u' hu'=>?_) ?_
   ·obtain ⟨Ea,vs,h1,h2,h3,h4⟩:=q2 j' u' hu';exact ⟨Ea,vs,h1,h2,b6.at h2 ((s1.trans s9) _ _ h3),gJ.t ((s1.trans s9).t.trans t6) h4⟩
   ·rw [hy,eus];exact ⟨l9,_,rfl,nl,b6.at nl e9,gJ.t (s9.t.trans t6) f1'⟩
  ·obtain ⟨_,q1,q2⟩:=q;obtain ⟨u0,hu0⟩:∃u,ys[0]?=some u:=⟨_,aC Oo⟩;obtain ⟨u1',hu1⟩:∃u,ys[1]?=some u:=⟨_,aC Oo⟩;obtain ⟨u2',hu2⟩:∃u,ys[2]?=some u:=⟨_,aC Oo⟩;obtain ⟨E0,v0,rfl,_,h0,f0⟩:=q2 0 u0 hu0;obtain ⟨E1,v1,rfl,_,h1,f1'⟩:=q2 1 u1' hu1;obtain ⟨E2,v2',rfl,_,h2,f2'⟩:=q2 2 u2' hu2;have f0:gJ H20 (iR nW nF es (wq xw.2) cs i) v0:=f0;have f1':gJ H20 (iR nW nF gs (wq xw.2) cs i) v1:=f1';have f2':gJ H20 (iR nW nF ds (wq xw.2) cs i) v2':=f2';have S20:=S19.trans q1;have hsh:=TQ.sh xw hxm;have zN:2*(LN^5*LN^M)<2^2500:=by
    have:=zz (D:=2) hM4 Dd;rw [Nat.mul_assoc] at this;exact Nat.lt_trans this (Nat.pow_lt_pow_right Dd Dd)
   have zP:0<2*(LN^5*LN^M):=kR Dd (kR (Nat.pow_pos Dd) (Nat.pow_pos Dd));have zC:64*(1000*5^20)+1<=2^100:=Kk;have zC2:(2:Nat)^100<=2^200:=aO Dd Dd;have szs:∀{us:List bN},fY nF nW M (LN^5) (5^20) LN us->∀z∈iR nW nF us (wq xw.2) cs i,jQ 2700 (cO z):=λRU z hz=>by
    obtain ⟨j,_,rfl⟩:=aD.mp hz;exact aAy (FP RU hsh (wC RU hM4 hcs lc4) j) zP zN (aW zC zC2)
   refine ⟨_,rfl,_,rfl,_,rfl,_,rfl,?_⟩;refine tell (wb17.t S20.t) RBo S20 λD21 v21 H21 s21 hD21 e21 f21=>?_;refine ⟨_,rfl,_,_,rfl,rfl,_,rfl,?_⟩;refine slW e21 λl22 H22 hl22 e22 s22=>?_;have s2022:=s21.trans s22;refine ⟨_,rfl,?_⟩;refine KF (s2022 _ _ hD20) (eI (j:=0) hu0) ?_;refine ⟨_,rfl,?_⟩;refine KF (s2022 _ _ hD20) (eI (j:=1) hu1) ?_;refine ⟨_,rfl,?_⟩;refine BQ (s2022 _ _ h0) (s2022 _ _ h1) (gJ.w (gJ.t s2022.t f0)) (gJ.w (gJ.t s2022.t f1')) (by rw [lP,lP]) (by rw [lP];omega) (szs RA) (szs RB) (.inl (rs17.same (S20.trans s2022))) SO.low SO.p0 SO.pq SO.q1 SO.e λD23 z23 H23 s23 hD23 e23 f23=>?_;rw [<-KZ IB f64 hi] at f23;refine reD (gJ.rep (gJ.t (s22.trans s23).t f21) (s23 _ _ e22)) (gJ.rep f23 e23) (oY _) (oY _) ?_;rw [AN];refine ⟨_,rfl,?_⟩;refine pM Dd ?_;have s2023:=s2022.trans s23;refine ⟨_,rfl,?_⟩;refine KF (s2023 _ _ hD20) (eI (j:=0) hu0) ?_;refine ⟨_,rfl,?_⟩;refine KF (s2023 _ _ hD20) (eI (j:=1) hu1) ?_;refine ⟨_,rfl,?_⟩;refine KF (s2023 _ _ hD20) (eI (j:=2) hu2) ?_;refine ⟨E0,E1,E2,v0,v1,v2',rfl,s2023 _ _ h0,s2023 _ _ h1,s2023 _ _ h2,?_⟩;have g0:=gJ.t s2023.t f0;have g1':=gJ.t s2023.t f1';have g2':=gJ.t s2023.t f2';have l0:v0.length=nW+8:=by rw [f0.len,lP]
   have l1:v1.length=nW+8:=by rw [f1'.len,lP]
   have l2:v2'.length=nW+8:=by rw [f2'.len,lP]
   refine JL (λj u H'=>j<nW+8/\cA H' (fB (cO (1/3*(tq nW nF es (wq xw.2) cs i j+(tq nW nF gs (wq xw.2) cs i j+(tq nW nF ds (wq xw.2) cs i j+0)))))) u) (λj u H1 H2 s ⟨h1,h2⟩=>⟨h1,h2.flat s (dN _)⟩) Oo (s2023 _ _ h0) (s2023 _ _ h1) (s2023 _ _ h2) Oo Oo (λj a0 a1 a2 q' H' Q' ha0 ha1 ha2 s' eq' k'=>?_) (λD24 ys24 H24 hD24 e24 s24 hy24 hr24=>?_)
   ·have hj:j<nW+8:=by rw [<-l0];exact (aN.mp ha0).1
    have at_:∀{us:List bN} {vs:List V} {b:V},gJ H23 (iR nW nF us (wq xw.2) cs i) vs->vs[j]?=some b->cA H23 (fB (cO (tq nW nF us (wq xw.2) cs i j))) b:=λh hb=>by
     obtain ⟨z,hz1,hz2⟩:=h.at hb;unfold iR at hz1;rw [aH,bP hj] at hz1;cases hz1;exact hz2
    have r0:=(at_ g0 ha0).same s';have r1':=(at_ g1' ha1).same s';have r2':=(at_ g2' ha2).same s';have q0':=FP (i:=i) RA hsh (wC RA hM4 hcs lc4) j;have q1':=FP (i:=i) RB hsh (wC RB hM4 hcs lc4) j;have q2':=FP (i:=i) RD' hsh (wC RD' hM4 hcs lc4) j;generalize tq nW nF es (wq xw.2) cs i j=A0 at r0 q0' k';generalize tq nW nF gs (wq xw.2) cs i j=A1 at r1' q1' k';generalize tq nW nF ds (wq xw.2) cs i j=A2 at r2' q2' k';refine mC (by show 2<=64;decide) λc30 H30 hc30 e30 s30=>?_;refine ⟨_,rfl,?_⟩;have rl3:bD H30 (([A0,A1,A2].map cO).map fB) [a0,a1,a2]:=bD.cons (r0.same s30) (bD.cons (r1'.same s30) (bD.cons (r2'.same s30) bD.nil));refine BP (s30 _ _ eq') (wJ.of rl3) (oR (N:=2*(LN^5*LN^M)) (B:=64*(1000*5^20)+1) (λf hf=>?_) zP (Nat.lt_trans zN (Nat.pow_lt_pow_right Dd Dd)) (by show 3<=64;decide) (aW zC (aO Dd Dd))) λv31 H31 s31 r31=>?_
    ·obtain ⟨z,hz,rfl⟩:=aD.mp hf;simp only [bA,List.not_mem_nil,or_false] at hz;rcases hz with rfl | rfl | rfl
     ·exact q0'.fq
     ·exact q1'.fq
     ·exact q2'.fq
    rw [uO (f:=λz=>z) λz _=>⟨bG _,cQ _⟩] at r31;have es3:dF [A0,A1,A2] (λz=>z)=A0+(A1+(A2+0)):=rfl;rw [es3] at r31;have l13:dL (1,3):=⟨Dd,Dd⟩;have z13:jQ 4000 (1,3):=⟨Kk,Kk⟩;have zt:jQ 4000 (cO (A0+(A1+(A2+0)))):=by
     have h3:=(q0'.add (q1'.add (q2'.add (Qn.zero _ 0))));exact (aAy h3 zP zN (aW (show _<=4*2^100 by omega) Kk)).up Dd
    refine oA (fS.new (s31 _ _ e30)) (fS.of r31) l13 (bG _) z13 zt λq32 H32 hq32 e32 s32=>?_;rw [EQ _ l13,r13] at e32;exact k' _ H32 ((s30.trans s31).trans s32) ⟨hj,dB e32⟩
   ·have due:gJ H24 ((List.range (nW+8)).map λj=>1/3*(tq nW nF es (wq xw.2) cs i j+(tq nW nF gs (wq xw.2) cs i j+(tq nW nF ds (wq xw.2) cs i j+0)))) ys24:=by
     refine bD.ofIdx (by rw [hy24,l0,aA,aA,bH]) λj u hj=>?_;obtain ⟨g1,g2⟩:=hr24 j u hj;exact ⟨_,by rw [aH,aH,bP g1];rfl,g2⟩
    have edue:((List.range (nW+8)).map λj=>1/3*(tq nW nF es (wq xw.2) cs i j+(tq nW nF gs (wq xw.2) cs i j+(tq nW nF ds (wq xw.2) cs i j+0))))=iR nW nF ag (wq xw.2) cs i:=by
     unfold iR;refine dR λj _=>?_;rw [<-hag,DS I2 f64 hi j,DS I1 f64 hi j,r12,r23];grind
    rw [edue] at due;have S24:=(S20.trans s2023).trans s24;refine ⟨_,rfl,_,rfl,_,rfl,_,rfl,?_⟩;refine tell (wag17.t S24.t) Rag S24 λD25 v25 H25 s25 hD25 e25 f25=>?_;refine ⟨_,rfl,_,_,rfl,rfl,_,rfl,?_⟩;refine slW e25 λl26 H26 hl26 e26 s26=>?_;have s2426:=s25.trans s26;refine ⟨_,rfl,?_⟩;refine reD (gJ.rep (gJ.t s26.t f25) e26) (gJ.rep (gJ.t s2426.t due) (s2426 _ _ e24)) (oY _) (oY _) ?_;rw [AN];refine ⟨_,rfl,?_⟩;refine pM Dd ?_;have S26:=S24.trans s2426;refine ⟨_,rfl,_,rfl,_,rfl,_,rfl,?_⟩;refine tell (wtw.t S26.t) Rag S26 λD27 v27 H27 s27 hD27 e27 f27=>?_;refine ⟨_,rfl,_,_,rfl,rfl,_,rfl,?_⟩;refine slW e27 λl28 H28 hl28 e28 s28=>?_;have s2428:=s2426.trans (s27.trans s28);refine ⟨_,rfl,?_⟩;refine reD (gJ.rep (gJ.t s28.t f27) e28) (gJ.rep (gJ.t s2428.t due) (s2428 _ _ e24)) (oY _) (oY _) ?_;rw [AN];refine ⟨_,rfl,?_⟩;refine pM Dd ?_;exact ⟨_,_,_,rfl,S26.trans (s27.trans s28)⟩
 ·rintro σ H18 ⟨o13,o14,o15,rfl,s18⟩;refine ⟨_,rfl,_,rfl,?_⟩;refine reK (UU (wag17.t s18.t)) (UU (wtw.t s18.t)) (LW _) (LW _) ?_;rw [oM (.tuple (ag.map ruE)) (GS ag)];exact k _
end
end Kt
namespace Kw
open PySem L2 Mf Kt
theorem aCE{α:Type}{us:List α}(h:us.length=1):∃a,us=[a]:=match us,h with | [a],_=>⟨a,rfl⟩
theorem aCD{α:Type}{us:List α}(h:us.length=2):∃a b,us=[a,b]:=match us,h with | [a,b],_=>⟨a,b,rfl⟩
theorem aCC{α:Type}{us:List α}(h:us.length=3):∃a b c,us=[a,b,c]:=match us,h with | [a,b,c],_=>⟨a,b,c,rfl⟩
theorem aCB{α:Type}{us:List α}(h:us.length=4):∃a b c d,us=[a,b,c,d]:=match us,h with | [a,b,c,d],_=>⟨a,b,c,d,rfl⟩
theorem aCA{α:Type}{us:List α}(h:us.length=5):∃a b c d e,us=[a,b,c,d,e]:=match us,h with | [a,b,c,d,e],_=>⟨a,b,c,d,e,rfl⟩
theorem ZA{K:PySem.W.Frag}{x q:Str}{st:Stmt}{f:Addr}{fd:FuncData}(F:iQ K x q st f fd)(P:FuncData->Prop)(h:P fd):∃fd,P fd:=⟨fd,h⟩
inductive Dn (K:PySem.W.Frag) (n:Str) (st:Stmt):Prop
 | mk {f:Addr} {oc:Value} {od:Option Addr} {kV dc pm:Value} {an:Option Addr} {cd ct:Value} {sl:Array (Option Value)} (a:PySem.W.nsIn K mainGlobals n=some (some (.ref f))) (l:K.lookup f=some ⟨oc,od,.func (PySem.W.fnOf n n (pA st) (kB st) (bB st) .none kV dc pm an cd ct),sl⟩) (c:PySem.W.codeIn K cd n=true) (k:PySem.W.keepIn K (.ref f)=true):Dn K n st
theorem fnd(l:PySem.W.OpenLaw)(w:World){K:PySem.W.Frag}{h:Heap}{mg:Str->Option Value}(X:K.In h)(G:h.Ns mainGlobals mg)(base:Heap){n:Str}{st:Stmt}{L:Nat}{ps:List Str}{sp:Sp}(d:Dn K n st)(o:∀{f:Addr}{fd:FuncData},iQ K n n st f fd->eA l.prog w K mg base dG L f fd ps sp)(b:∀(kV doc pm:Value) (an:Option Addr) (cdv ct:Value) (us:List Value),us.length=ps.length->bindArgs (PySem.W.fnOf n n (pA st) (kB st) (bB st) .none kV doc pm an cdv ct) ⟨us,[]⟩=pure (ps.zip us):=by intro _ _ _ _ _ _ us hl;first | (obtain ⟨_,rfl⟩:=aCE hl;rfl) | (obtain ⟨_,_,rfl⟩:=aCD hl;rfl) | (obtain ⟨_,_,_,rfl⟩:=aCC hl;rfl) | (obtain ⟨_,_,_,_,rfl⟩:=aCB hl;rfl) | (obtain ⟨_,_,_,_,_,rfl⟩:=aCA hl;rfl)):eZ dG l.prog w K mg base L n ps sp:=by
 obtain ⟨a,l',c,k⟩:=d;exact ⟨_,_,o (EU l' c k),PySem.W.mg_of X G a,k,(EU l' c k).binds b⟩
open PySem.W (nsIn fnOf codeIn keepIn mg_of mg_none_of) in
theorem ZU{l:PySem.W.OpenLaw}{w:World}{K:PySem.W.Frag}{h:Heap}{mg:Str->Option Value}{fa:Addr}{c_ONE:Addr}{c_NOUGHT:Addr}{tok_LOOKS_ON:Tok}(X:K.In h)(G:h.Ns mainGlobals mg)(hfa:mg "law" = some (.ref fa))
  (u_ONE:nsIn K mainGlobals "ONE" = some (some (.ref c_ONE)))
  (u_NOUGHT:nsIn K mainGlobals "NOUGHT" = some (some (.ref c_NOUGHT)))
  (u_LOOKS_ON:nsIn K mainGlobals "LOOKS_ON" = some (some (.int 0 tok_LOOKS_ON)))
  (o_ONE:pS K c_ONE [1,1]=true)
  (o_NOUGHT:pS K c_NOUGHT [0,1]=true)
  (d0:Dn K "_law_frac" sQ3)
  (d1:Dn K "_law_tape" WZ)
  (d2:Dn K "_law_pick" sQ6)
  (d3:Dn K "_law_shares" LU)
  (d4:Dn K "_law_says" sQ9)
  (d5:Dn K "_law_sizes" XA)
  (d6:Dn K "_law_next" sQ4)
  (d7:Dn K "_law_rule" sQ8)
  (d8:Dn K "_law_trial" QQ)
  (d9:Dn K "common_divisor" WV)
  (d10:Dn K "plus" WM)
  (d11:Dn K "times" WJ)
  (d12:Dn K "less" WS)
  (d13:Dn K "total" WI)
  (d14:Dn K "ways_of" WG)
  (d15:Dn K "way_shares" WH)
  (d16:Dn K "power" WL)
  (d17:Dn K "weight" WF)
  (d18:Dn K "one_more" WO)
  (d19:Dn K "ones_more" QK)
  (d20:Dn K "looks_on" WR)
  (d21:Dn K "noughts" QL)
  (d22:Dn K "counts_behind" WU)
  (d23:Dn K "counts_come_to" WT)
  (d24:Dn K "rule_within" QH)
  (d25:Dn K "rule_faces" WK)
  (d26:Dn K "amounts" QP)
  (d27:Dn K "comings" WW)
  (d28:Dn K "said_of" QF)
  (d29:Dn K "onwards" QJ)
  (d30:Dn K "spent" QE)
  (d31:Dn K "wrong" WE)
  (d32:Dn K "most_of" WP)
  (d33:Dn K "said" QG)
  (d34:Dn K "ended_behind" QM)
  (d35:Dn K "ended" QN)
  (d36:Dn K "average" QO)
  (d37:Dn K "over" WN)
  (d38:Dn K "parts_of" QI)
  (d39:Dn K "says_of_parts" IM)
  (d40:Dn K "mixed" WQ)
  (d41:Dn K "_law_plus" sQ7)
  (d42:Dn K "_law_times" WY)
  (d43:Dn K "_law_total" WX)
  (d44:Dn K "_law_all" sQ0)
  (d45:Dn K "_law_by" sQ2)
  (d46:Dn K "_law_amounts_right" sQ1)
  (d47:Dn K "_law_pair" sQ5)
  (d48:Dn K "law" EI) (z0:nsIn K mainGlobals "list" = some none) (z1:nsIn K mainGlobals "len" = some none) (z2:nsIn K mainGlobals "abs" = some none) (z3:nsIn K mainGlobals "range" = some none) (z4:nsIn K mainGlobals "sum" = some none) (z5:nsIn K mainGlobals "max" = some none) (z6:nsIn K mainGlobals "int" = some none) (z7:nsIn K mainGlobals "bool" = some none) (z8:nsIn K mainGlobals "sorted" = some none) (z9:nsIn K mainGlobals "dict" = some none) (z10:nsIn K mainGlobals "isinstance" = some none) (z11:nsIn K mainGlobals "all" = some none) (z12:nsIn K mainGlobals "tuple" = some none) (z13:nsIn K mainGlobals "zip" = some none) :
  ∃fd:FuncData,(∀(s:Shared) (v:Value),BindsTo s fd ⟨[v],[]⟩ [("_law_script",v)])/\∀base:Heap,K.In base->base.Ns mainGlobals mg->eA l.prog w K mg base dG 8 fa fd ["_law_script"] (rZ K):=by
 obtain ⟨a48,l48,c48,k48⟩:=d48;have e:=hfa.symm.trans (mg_of X G a48);cases e;generalize hcl:(⟨c_ONE,c_NOUGHT,tok_LOOKS_ON⟩:Cl)=c;have T:jS K mg c:=by rw [<-hcl];exact ⟨mg_none_of X G z0,mg_none_of X G z1,mg_none_of X G z2,mg_none_of X G z3,mg_none_of X G z4,mg_none_of X G z5,mg_none_of X G z6,mg_none_of X G z7,mg_none_of X G z8,mg_none_of X G z9,mg_none_of X G z10,mg_none_of X G z11,mg_none_of X G z12,mg_none_of X G z13,mg_of X G u_ONE,mg_of X G u_NOUGHT,mg_of X G u_LOOKS_ON,o_ONE,o_NOUGHT⟩
 have F48:=EU (st:=EI) l48 c48 k48;refine ZA F48 _ ⟨λs v=>.of_eq rfl,λbase _ _=>?_⟩;have N:=@fnd l w K h mg X G base;have GQ3:=N d0 λF=>oQ3 F T;have GQ12:=N d1 λF=>aCv F T;have GQ6:=N d2 λF=>oQ6 F T;have GQ10:=N d3 λF=>aCx F T GQ6 GQ3;have GQ9:=N d4 λF=>oQ9 F T GQ6 GQ10;have GQ11:=N d5 λF=>aCw F T GQ6;have GQ4:=N d6 λF=>oQ4 F T;have GQ8:=N d7 λF=>oQ8 F T GQ9 GQ4;have GQ15:=N d8 λF=>aCs F T GQ6 GQ10;have GQ19:=N d9 λF=>aCo F T;have GQ35:=N d10 λF=>aB8 F T GQ19;have GQ43:=N d11 λF=>aB0 F T GQ19;have GQ25:=N d12 λF=>aCi F T GQ35;have GQ44:=N d13 λF=>aBZ F T GQ35;have GQ46:=N d14 λF=>aBX F T;have GQ45:=N d15 λF=>aBY F T;have GQ36:=N d16 λF=>aB7 F T;have GQ47:=N d17 λF=>aBW F T GQ45 GQ43 GQ36;have GQ30:=N d18 λF=>aCd F T;have GQ31:=N d19 λF=>aCc F T GQ30;have GQ26:=N d20 λF=>aCh F T;have GQ29:=N d21 λF=>aCe F T;have GQ20:=N d22 λF=>aCn F T GQ26 GQ31;have GQ21:=N d23 λF=>aCm F T GQ29 GQ20;have GQ38:=N d24 λF=>aB5 F T GQ21;have GQ37:=N d25 λF=>aB6 F T;have GQ16:=N d26 λF=>aCr F T GQ29 GQ37 GQ26 GQ43 GQ31 GQ35;have GQ18:=N d27 λF=>aCp F T GQ16 GQ43 GQ47;have GQ40:=N d28 λF=>aB3 F T GQ44 GQ43;have GQ32:=N d29 λF=>aCb F T GQ18 GQ43 GQ26;have GQ42:=N d30 λF=>aB1 F T GQ44 GQ43 GQ32;have GQ48:=N d31 λF=>aBV F T GQ46 GQ25 GQ40 GQ18;have GQ28:=N d32 λF=>aCf F T;have GQ39:=N d33 λF=>aB4 F T GQ18 GQ40 GQ46;have GQ23:=N d34 λF=>aCk F T GQ44 GQ43 GQ25
 have GQ22:=N d35 λF=>aCl F T GQ18 GQ23 GQ28;have GQ17:=N d36 λF=>aCq F T GQ44 GQ32;have GQ33:=N d37 λF=>aCa F T GQ43;have GQ34:=N d38 λF=>aB9 F T GQ16 GQ43;have GQ41:∀n:Nat,eZ dG l.prog w K mg base (4+n) "says_of_parts" ["one","other"] (lD K n):=λn=>by
  induction n with
  | zero=>exact N d39 λF=>aBA F T
  | succ n ih=>exact N d39 λF=>aB2 n F T GQ33 GQ35 ih
 have GQ27:=N d40 λF=>aCg F T GQ34 GQ25 (GQ41 2) GQ38 GQ37;have GQ7:=N d41 λF=>oQ7 F T GQ3;have GQ13:=N d42 λF=>aCu F T GQ3;have GQ14:=N d43 λF=>aCt F T GQ7;have GQ0:=N d44 λF=>oQ0 F T GQ39 GQ22 GQ17 GQ42 GQ48;have GQ2:=N d45 λF=>oQ2 F T GQ3 GQ7 GQ13;have GQ1:=N d46 λF=>oQ1 F T GQ16 GQ2;have GQ5:=N d47 λF=>oQ5 F T GQ6 GQ11 GQ8;exact aCj F48 T GQ12 GQ6 GQ5 GQ15 GQ8 GQ27 GQ1 GQ0 GQ2 GQ13 GQ14
end Kw
namespace PySem.W.Fast
def tw16592464429485521299 := ()
def tw16791426502499194356 := ()
def tw11970751383657801454 := ()
def tw7887268492124847567 := ()
def tw7585173430866865570 := ()
def tw8592400729838020937 := ()
def tw10651461370285185304 := ()
def tw14076175503909323722 := ()
def tw4651613032242364944 := ()
def tw12387031222755628158 := ()
def tw6728696508846523447 := ()
def tw9122805156414444394 := ()
def tw1745915514432086320 := ()
def tw14400941107285644569 := ()
def tw12882232273129395371 := ()
def tw13432401552643170045 := ()
def tw16614170128559803989 := ()
def tw11282971067932842307 := ()
def tw16332108695681738972 := ()
def tw15705284924609358869 := ()
def tw15788310543235938324 := ()
def tw1565391248579491396 := ()
def tw9001701728396247184 := ()
end PySem.W.Fast
open PySem PySem.W PyProof.Rows
set_option maxRecDepth 100000 in
set_option maxHeartbeats 0 in
theorem PySem.Challenge.cw_earlystop_k30_whole_mixed_shares_holds : PySem.Challenge.rw_earlystop_k30_whole_mixed_shares.Holds := by
  w_on;o_law;k_head;(case hw=>w_witness2)
  k_fill
  refine L2.KR (l:=PySem.Challenge.rw_earlystop_k30_whole_mixed_shares) (n:=63) (k:=8) (x := "_law_script") (CX:=L2.dG) (sp:=λK=>Kt.rZ K) rfl Dd rfl ⟨rfl,Dd,Dd,rfl⟩ (λw h Y=>PySem.W.kIn_of Y) ?F (λK H a ns hl _ hS=>Kt.LI hS hl) (λ_ _ _ _ z=>z)
  case F =>
    intro w mg fa h KX G hmg
    refine' Kw.ZU KX G hmg ?u_ONE ?u_NOUGHT ?u_LOOKS_ON ?o_ONE ?o_NOUGHT ?d0 ?d1 ?d2 ?d3 ?d4 ?d5 ?d6 ?d7 ?d8 ?d9 ?d10 ?d11 ?d12 ?d13 ?d14 ?d15 ?d16 ?d17 ?d18 ?d19 ?d20 ?d21 ?d22 ?d23 ?d24 ?d25 ?d26 ?d27 ?d28 ?d29 ?d30 ?d31 ?d32 ?d33 ?d34 ?d35 ?d36 ?d37 ?d38 ?d39 ?d40 ?d41 ?d42 ?d43 ?d44 ?d45 ?d46 ?d47 ?d48 ?z0 ?z1 ?z2 ?z3 ?z4 ?z5 ?z6 ?z7 ?z8 ?z9 ?z10 ?z11 ?z12 ?z13
    (case u_ONE|u_NOUGHT|u_LOOKS_ON|z0|z1|z2|z3|z4|z5|z6|z7|z8|z9|z10|z11|z12|z13=>k_is);(case d0|d1|d2|d3|d4|d5|d6|d7|d8|d9|d10|d11|d12|d13|d14|d15|d16|d17|d18|d19|d20|d21|d22|d23|d24|d25|d26|d27|d28|d29|d30|d31|d32|d33|d34|d35|d36|d37|d38|d39|d40|d41|d42|d43|d44|d45|d46|d47|d48=>refine' Kw.Dn.mk ?a ?l ?c ?k;(case a=>k_is);(case l=>k_is);(case c=>k_is);(case k=>k_is));(case o_ONE=>kernel_rfl);(case o_NOUGHT=>kernel_rfl)
