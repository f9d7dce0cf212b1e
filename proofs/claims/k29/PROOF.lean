import PyProof.Rows.All
import Wide.All
import OpenK.AllK
import Wide.FinOn
import Lean
import PyProof.EqAt
import PyProof.EqKinds
import PyProof.TupleCall
import KE.IntBitsLaws
import PyProof.ZipIter
import PyProof.ListMulRoad
import PyProof.AutoListH
import PyProof.Rows.SeqMore
import PyProof.Rows.SumAny
import PyProof.SliceStr2
import PyProof.WalksMore
import KE.KSortTup
import PyProof.AttrMissHeap
import PyProof.TupleIter
import KE.KDictOf
import PyProof.DictWalks
import PyProof.DictValues
import KE.KDictList
import PyProof.Rows.MinMaxN
import PyProof.Rows.TupDisplay
import PyProof.DictTruth
import PyProof.Rows.SortRev
import PyProof.Rows.CallKwBuiltin
import PyProof.EnumMake
import PyProof.Rows.StrJoin2
import PyProof.StrBlockG
import PyProof.Rows.Digits
import PyProof.Rows.StrOr
import PyProof.StrCalls2
import PyProof.StrBlock2
import KE.KIntText
import KE.KRevIter
import KE.LcSums
import PyProof.StationsW
import PyProof.Rows.CatchBare
import OpenK.KRaise
import KE.KIsAll
import OpenK.KOwn
import PyProof.ExcInit
import KE.KLam
import PySem.Challenge.RW_earlystop_k29_mixed
set_option Elab.async false
set_option linter.all false
set_option maxHeartbeats 0
set_option maxRecDepth 100000
theorem Oo{p:Prop}(h:p:=by omega):p:=h
theorem Dd{p:Prop}(h:p:=by decide):p:=h
theorem Kk{p:Prop}(h:p:=by decide +kernel):p:=h
namespace PySem
abbrev aA:=@List.length_map
abbrev aB:=@Heap.get?_push_of_some
abbrev aC:=@List.getElem?_eq_getElem
abbrev aD:=@List.mem_map
abbrev aE:=@List.getElem?_map
abbrev aF:=@List.mem_cons_of_mem
abbrev aH:=@List.mem_cons_self
abbrev aJ:=@Nat.le_refl
abbrev aK:=@List.getElem?_eq_some_iff
abbrev aN:=@List.getD_eq_getElem?_getD
abbrev aO:=@List.map_cons
abbrev aP:=@List.mem_append_right
abbrev aQ:=@Nat.le_trans
abbrev aT:=@List.mem_cons
abbrev aV:=@Nat.lt_of_lt_of_le
abbrev aW:=@List.size_toArray
abbrev aX:=@Heap.lt_size
abbrev aY:=@Heap.get?_push_size
abbrev aZ:=@List.mem_of_getElem?
abbrev bB:=@Nat.lt_of_le_of_lt
abbrev bF:=@List.length_append
abbrev bG:=@Nat.pow_le_pow_right
abbrev bI:=@Bool.false_ne_true
abbrev bK:=@List.length_range
abbrev bM:=@List.map_append
abbrev bN:=@List.getElem?_range
abbrev bO:=@List.getElem?_eq_none
abbrev bP:=@Classical.byContradiction
abbrev bQ:=@List.mem_singleton
abbrev bV:=@decide_eq_true
abbrev bW:=@Nat.ne_of_lt
abbrev cB:=@List.length_replicate
abbrev cC:=@Nat.zero_le
abbrev cG:=@List.mem_range
abbrev cJ:=@decide_eq_false
abbrev cL:=@Rat.mul_nonneg
abbrev cM:=@List.length_cons
abbrev cP:=@Nat.lt_irrefl
abbrev cQ:=@List.take_length
abbrev cX:=@List.mem_append_left
abbrev cY:=@Bool.and_eq_true
abbrev cZ:=@Heap.get?_update_ne
abbrev dB:=@List.mem_append
abbrev dC:=@List.length_take
abbrev dE:=@Nat.mul_le_mul_right
abbrev dM:=@Nat.mul_le_mul_left
abbrev dN:=@List.map_congr_left
abbrev eB:=@Option.some.inj
abbrev eE:=@Option.map_eq_some_iff
abbrev eJ:=@List.take_add_one
abbrev gB:=@Heap.size_push
abbrev iR:=@List.mem_filter
abbrev jI:=@Int.natAbs_mul
end PySem
open PySem
namespace L2
open PySem PySem.Spec PyProof.Rows
abbrev dP:=Sum Int Str
def yI:dP->Value->Bool
 | .inl k,v=>Value.isInt k v
 | .inr x,v=>Value.isStrOf x v
def aDr(w:World):dP->Int
 | .inl k=>hashInt k
 | .inr x=>hashStr w x
theorem fM:∀{k:dP}{v:Value},yI k v=true->(∃i t,k=Sum.inl i/\v=Value.int i t)\/(∃x t,k=Sum.inr x/\v=Value.str x t)
 | .inl i,v,h=>by
  obtain ⟨t,e⟩:=Value.isInt_shape (k:=i) (v:=v) h;exact .inl ⟨i,t,rfl,e⟩
 | .inr x,v,h=>by
  obtain ⟨t,e⟩:=Value.isStrOf_shape (x:=x) (v:=v) h;exact .inr ⟨x,t,rfl,e⟩
theorem KG(i:Int)(t:Tok):yI (.inl i) (.int i t)=true:=by simp [yI,Value.isInt]
theorem KF(x:Str)(t:Tok):yI (.inr x) (.str x t)=true:=by simp [yI,Value.isStrOf]
theorem aAp(a b:Int):decide ((Sum.inl a:dP)=Sum.inl b)=(a == b):=by
 by_cases e:a=b
 ·subst e;simp
 ·have h:¬(Sum.inl a:dP)=Sum.inl b:=λq=>e (Sum.inl.inj q);rw [cJ h];exact (beq_eq_false_iff_ne.mpr e).symm
theorem aAm(a b:Str):decide ((Sum.inr a:dP)=Sum.inr b)=decide (a=b):=by
 by_cases e:a=b
 ·subst e;simp
 ·have h:¬(Sum.inr a:dP)=Sum.inr b:=λq=>e (Sum.inr.inj q);rw [cJ h,cJ e]
theorem aAo(a:Int)(b:Str):decide ((Sum.inl a:dP)=Sum.inr b)=false:=cJ (λq=>nomatch q)
theorem aAn(a:Str)(b:Int):decide ((Sum.inr a:dP)=Sum.inl b)=false:=cJ (λq=>nomatch q)
def eC(prog:Program)(w:World):PySem.KeyKind prog w dP where
 is:=yI
 hash:=aDr w
 inj:=λv a b ha hb=>by
  rcases fM ha with ⟨i,t,rfl,rfl⟩ | ⟨x,t,rfl,rfl⟩
  ·rcases fM hb with ⟨j,u,rfl,e⟩ | ⟨y,u,rfl,e⟩
   ·injection e with e1 _;rw [e1]
   ·exact nomatch e
  ·rcases fM hb with ⟨j,u,rfl,e⟩ | ⟨y,u,rfl,e⟩
   ·exact nomatch e
   ·injection e with e1 _;rw [e1]
 byValue:=λk v h=>by
  rcases fM h with ⟨i,t,rfl,rfl⟩ | ⟨x,t,rfl,rfl⟩ <;> rfl
 pyHash:=λhv h=>by
  rcases fM hv with ⟨i,t,rfl,rfl⟩ | ⟨x,t,rfl,rfl⟩
  ·exact wpAny_pyHash_int h
  ·exact wpAny_pyHash_str h
 eqBool:=λhu hv h=>by
  rcases fM hu with ⟨i,t,rfl,rfl⟩ | ⟨x,t,rfl,rfl⟩
  ·rcases fM hv with ⟨j,u,rfl,rfl⟩ | ⟨y,u,rfl,rfl⟩
   ·rw [aAp] at h;exact wpAny_eqBool_int h
   ·rw [aAo] at h;exact SeqAt.EqAt.int_str i t y u _ _ _ _ h
  ·rcases fM hv with ⟨j,u,rfl,rfl⟩ | ⟨y,u,rfl,rfl⟩
   ·rw [aAn] at h;exact SeqAt.EqAt.str_int x t j u _ _ _ _ h
   ·rw [aAm] at h;exact wpAny_eqBool_str h
 «strs» := λk x t v h=>by
  rcases fM h with ⟨i,u,rfl,e⟩ | ⟨y,u,rfl,e⟩
  ·exact nomatch e
  ·injection e with e1 _;subst e1;cases v <;> rfl
theorem CN(prog:Program)(w:World)(i:Int)(t:Tok):(eC prog w).is (.inl i) (.int i t)=true:=KG i t
theorem CM(prog:Program)(w:World)(x:Str)(t:Tok):(eC prog w).is (.inr x) (.str x t)=true:=KF x t
inductive V where
 | non | bl (b:Bool) | int (i:Int) | str (x:Str) | byt (b:Array UInt8) | flt (b:UInt64) | ref (a:Addr) | ty (n:String)
 deriving DecidableEq
def dH:V->Value->Prop
 | .non,u=>u=Value.none
 | .bl b,u=>u=Value.bool b
 | .int i,u=>∃t,u=Value.int i t
 | .str x,u=>∃t,u=Value.str x t
 | .byt b,u=>∃t,u=Value.bytes b t
 | .flt b,u=>∃t,u=Value.float b t
 | .ref a,u=>u=Value.ref a
 | .ty n,u=>u=Value.type n
abbrev cV:List V->List Value->Prop:=Paired dH
theorem cV.length{xs:List V}{us:List Value}(r:cV xs us):xs.length=us.length:=Paired.length r
theorem cV.get:∀{xs:List V}{us:List Value}{i:Nat}{x:V},cV xs us->xs[i]?=some x->∃u,us[i]?=some u/\dH x u
 | _,_,_,_,.nil,e=>by simp at e
 | _,_,0,_,.cons r _,e=>by simp at e;subst e;exact ⟨_,rfl,r⟩
 | _,_,i+1,x,.cons _ t,e=>by
  obtain ⟨u,h1,h2⟩:=cV.get (i:=i) (x:=x) t (by simpa using e);exact ⟨u,by simpa using h1,h2⟩
theorem cV.set{x:V}{u:Value}(r:dH x u):∀{xs:List V}{us:List Value}(i:Nat),cV xs us->cV (xs.set i x) (us.set i u)
 | _,_,_,.nil=>.nil
 | _,_,0,.cons _ t=>.cons r t
 | _,_,i+1,.cons q t=>.cons q (cV.set r i t)
theorem cV.append:∀{xs ys:List V}{us ws:List Value},cV xs us->cV ys ws->cV (xs++ys) (us++ws)
 | _,_,_,_,.nil,s=>s
 | _,_,_,_,.cons r t,s=>.cons r (cV.append t s)
theorem cV.take:∀{xs:List V}{us:List Value}(n:Nat),cV xs us->cV (xs.take n) (us.take n)
 | _,_,0,_=>.nil
 | _,_,_+1,.nil=>.nil
 | _,_,n+1,.cons r t=>.cons r (cV.take n t)
theorem cV.drop:∀{xs:List V}{us:List Value}(n:Nat),cV xs us->cV (xs.drop n) (us.drop n)
 | _,_,0,r=>r
 | _,_,_+1,.nil=>.nil
 | _,_,n+1,.cons _ t=>cV.drop n t
def tF:Option V->Option Value->Prop
 | some v,some u=>dH v u
 | none,none=>True
 | _,_=>False
def KV{κ:Type}:List (κ × V)->List (κ × Value)->Prop:=Paired λ(p:κ × V) (q:κ × Value)=>p.1=q.1/\dH p.2 q.2
def kV:dP->V
 | .inl i=>.int i
 | .inr x=>.str x
inductive HO where
 /-- a list -/
 | lst (xs:List V)
 /-- a tuple (never changes) -/
 | tup (xs:List V)
 /-- a dict whose keys are ints and texts;one whose keys are tuples of ints and texts (the empty one is both) -/
 | dK (kvs:List (dP × V)) | dT (kvs:List (List dP × V))
 /-- a set of ints: its members,its size -/
 | set (S:Int->Bool) (n:Nat)
 /-- an instance of the class at C,its dict at dx,its attributes -/
 | ins (C dx:Addr) (fs:List (Str × V))
 /-- the dict of the instance at x -/
 | own (x:Addr)
 /-- the dict of an exception -/
 | xd (fs:List (Str × V))
 /-- a bound method,f of x -/
 | met (f x:Addr)
 /-- a range object lo,lo+1,.. below hi -/
 | rng (lo hi:Int)
 /-- a thing that is known to the object (the script;a dict while a loop walks it): read,never written while it is so -/
 | frz (o:Obj) (u:HO)
 /-- a code object's table -/
 | tbl (ps:Array Value)
 /-- any other thing,by what is true of its one object (a def of one's own: SetO a S n:=HO.ext λh=>..) -/
 | ext (φ:Heap->Prop)
abbrev Hp:=Addr->Option HO
def upd(H:Hp)(a:Addr)(o:HO):Hp:=λb=>if b=a then some o else H b
theorem bH{H:Hp}{a:Addr}{o:HO}:upd H a o a=some o:=by unfold upd;rw [if_pos rfl]
theorem bT{H:Hp}{a b:Addr}{o:HO}(h:b≠a):upd H a o b=H b:=by unfold upd;rw [if_neg h]
theorem GN{H:Hp}{a:Addr}{o u:HO}:upd (upd H a o) a u=upd H a u:=by
 funext b;unfold upd;split <;> rfl
theorem vX{H:Hp}{a b:Addr}{o u:HO}(h:H a=some o)(h':H b=some u)(d:o≠u):a≠b:=by
 intro e;subst e;rw [h] at h';exact d (eB h')
theorem cU{H:Hp}{a b:Addr}{o:HO}(h:H a=some o)(h':H b=none):a≠b:=by
 intro e;subst e;rw [h] at h';cases h'
section
variable(P:Program)(w:World)
def eI(H:Hp)(h:Heap)(a:Addr):HO->Prop
 | .lst xs=>xs.length<=sizeLine/\∃(its:List Value) (n:Nat),cV xs its/\h.get? a=some { cls:=.type "list",data:=.seq its.toArray n }
 | .tup xs=>(xs.length<=sizeLine/\∃o,h.get? a=some o/\o.dict=none)/\∃its:List Value,cV xs its/\IsTup h a its.toArray
 | .dK kvs=>kvs.length<=sizeLine/\(a == sysModules)=false/\∃vs,KV kvs vs/\h.DictOf (eC P w) a vs
 | .dT kvs=>kvs.length<=sizeLine/\(a == sysModules)=false/\∃xs:List (List dP × Addr × Value),
   Paired (λ(p:List dP × V) (q:List dP × Addr × Value)=>p.1=q.1/\H q.2.1=some (.tup (p.1.map kV))/\dH p.2 q.2.2) kvs xs /\
   ∃o es ep,h.get? a=some o/\o.ExactDict/\o.data=.dict es ep/\es.toList=xs.map (entryOfKey (tupleKind (eC P w)))/\(xs.map (·.1)).Nodup
 | .set S n=>h.SetOf (intKind P w) a S n
 | .ins C dx fs=>H dx=some (.own a)/\fs.length<=1000/\dx≠a/\h.get? a=some (PySem.W.instObj C dx) /\
   ∃mA,h.Ns1 dx mA/\(∀f,tF (fs.lookup f) (mA f))/\PySem.Within mA (fs.map (·.1))
 | .own _=>∃o,h.get? a=some o
 | .xd fs=>∃mA,h.Ns1 a mA/\∀f,tF (fs.lookup f) (mA f)
 | .rng lo hi=>∃t u v,h.get? a=some { cls:=.type "range",data:=.fields #[.int lo t,.int hi u,.int 1 v] }
 | .frz o u=>h.get? a=some o/\eI H h a u
 | .tbl ps=>h.get? a=some { cls:=.none,data:=.fields ps }
 | .met f x=>h.get? a=some (PySem.W.methodObj (.ref f) (.ref x))
 | .ext φ=>φ h/\(∃o,h.get? a=some o)/\∀h1 h2:Heap,φ h1->(∀o,h1.get? a=some o->h2.get? a=some o)->φ h2
def nC(H:Hp)(h:Heap):Prop:=∀a o,H a=some o->eI P w H h a o
end
section
variable{P:Program}{w:World}{H H':Hp}{h h':Heap}{a:Addr}{o:HO}
theorem eI.lt(x:eI P w H h a o):a<h.objs.size:=by
 cases o with
 | lst xs=>obtain ⟨_,_,_,_,e⟩:=x;exact aX e
 | tup xs=>obtain ⟨_,_,_,p⟩:=x;exact p.lt
 | dK kvs=>obtain ⟨_,_,_,_,o,_,_,e,_⟩:=x;exact aX e
 | dT kvs=>obtain ⟨_,_,_,_,o,_,_,e,_⟩:=x;exact aX e
 | set S n=>obtain ⟨o,_,_,_,e,_⟩:=x;exact aX e
 | ins C dx fs=>obtain ⟨_,_,_,e,_⟩:=x;exact aX e
 | own y=>obtain ⟨_,e⟩:=x;exact aX e
 | xd fs=>obtain ⟨_,⟨_,_,_,e,_⟩,_⟩:=x;exact aX e
 | rng lo hi=>obtain ⟨_,_,_,e⟩:=x;exact aX e
 | frz ob u=>obtain ⟨e,_⟩:=x;exact aX e
 | tbl ps=>exact aX (show h.get? a=some _ from x)
 | met f y=>exact aX (show h.get? a=some _ from x)
 | ext φ=>obtain ⟨_,⟨_,e⟩,_⟩:=x;exact aX e
theorem Paired.mapP{α β:Type}{F G:α->β->Prop}:∀{l₁:List α}{l₂:List β},Paired F l₁ l₂->(∀a b,F a b->G a b)->Paired G l₁ l₂
 | _,_,.nil,_=>.nil
 | _,_,.cons r t,f=>.cons (f _ _ r) (Paired.mapP t f)
theorem Paired.imp'{α β:Type}{F G:α->β->Prop}(f:∀a b,F a b->G a b){l₁:List α}{l₂:List β}(r:Paired F l₁ l₂):Paired G l₁ l₂:=Paired.mapP r f
theorem eI.stay(x:eI P w H h a o)(k:∀b u,(b=a\/H b=some (.own a))->h.get? b=some u->h'.get? b=some u)
  (ho:∀b,H b=some (.own a)->H' b=some (.own a)) (ht:∀b xs,H b=some (.tup xs)->H' b=some (.tup xs)):eI P w H' h' a o:=by
 induction o with
 | lst xs=>obtain ⟨z,its,n,r,e⟩:=x;exact ⟨z,its,n,r,k _ _ (.inl rfl) e⟩
 | tup xs=>obtain ⟨⟨z,on,en,dn⟩,its,r,ob,e,c⟩:=x;exact ⟨⟨z,on,k _ _ (.inl rfl) en,dn⟩,its,r,ob,k _ _ (.inl rfl) e,c⟩
 | dK kvs=>obtain ⟨z,y,vs,r,ob,es,ep,e,c⟩:=x;exact ⟨z,y,vs,r,ob,es,ep,k _ _ (.inl rfl) e,c⟩
 | dT kvs =>
  obtain ⟨z,y,xs,r,ob,es,ep,e,c⟩:=x;exact ⟨z,y,xs,Paired.mapP r λp q z=>⟨z.1,ht _ _ z.2.1,z.2.2⟩,ob,es,ep,k _ _ (.inl rfl) e,c⟩
 | set S n=>obtain ⟨ob,es,ep,t,e,c⟩:=x;exact ⟨ob,es,ep,t,k _ _ (.inl rfl) e,c⟩
 | ins C dx fs =>
  obtain ⟨d,z,ne,e,mA,⟨od,es,ep,e2,c⟩,r⟩:=x;exact ⟨ho _ d,z,ne,k _ _ (.inl rfl) e,mA,⟨od,es,ep,k _ _ (.inr d) e2,c⟩,r⟩
 | own y=>obtain ⟨ob,e⟩:=x;exact ⟨ob,k _ _ (.inl rfl) e⟩
 | xd fs=>obtain ⟨mA,⟨od,es,ep,e,c⟩,r⟩:=x;exact ⟨mA,⟨od,es,ep,k _ _ (.inl rfl) e,c⟩,r⟩
 | rng lo hi=>obtain ⟨t,u,v,e⟩:=x;exact ⟨t,u,v,k _ _ (.inl rfl) e⟩
 | frz ob u ih=>obtain ⟨e,q⟩:=x;exact ⟨k _ _ (.inl rfl) e,ih q⟩
 | tbl ps =>
  have e:h.get? a=some { cls:=.none,data:=.fields ps }:=x;show h'.get? a=some { cls:=.none,data:=.fields ps };exact k a _ (.inl rfl) e
 | met f y =>
  have e:h.get? a=some (PySem.W.methodObj (.ref f) (.ref y)):=x;show h'.get? a=some (PySem.W.methodObj (.ref f) (.ref y));exact k a _ (.inl rfl) e
 | ext φ=>obtain ⟨p,⟨o,e⟩,st⟩:=x;exact ⟨st _ _ p λo q=>k _ _ (.inl rfl) q,⟨o,k _ _ (.inl rfl) e⟩,st⟩
theorem nC.lt(x:nC P w H h)(e:H a=some o):a<h.objs.size:=(x a o e).lt
theorem nC.fresh(x:nC P w H h)(e:h.objs.size<=a):H a=none:=by
 cases q:H a with
 | none=>rfl
 | some u=>exact absurd (aV (x.lt q) e) (cP _)
theorem nC.kept(x:nC P w H h)(k:∀b u,h.get? b=some u->h'.get? b=some u):nC P w H h':=λa o e =>
 (x a o e).stay (λb u _ q=>k b u q) (λ_ q=>q) λ_ _ q=>q
theorem nC.laid(x:nC P w H h)(k:∀b u,h.get? b=some u->h'.get? b=some u)(hp:h.objs.size<=a)(new:eI P w (upd H a o) h' a o):nC P w (upd H a o) h':=λb u e=>by
 have hn:=x.fresh hp;by_cases hb:b=a
 ·subst hb;rw [bH] at e;cases e;exact new
 ·rw [bT hb] at e;exact (x b u e).stay (λc v _ q=>k c v q) (λc q=>by rw [bT (cU q hn)];exact q) λc xs q=>by rw [bT (cU q hn)];exact q
end
def Rd(H:Hp)(a:Addr)(u:HO):Prop:=H a=some u\/∃o,H a=some (.frz o u)
theorem Rd.ok{P:Program}{w:World}{H:Hp}{h:Heap}{a:Addr}{u:HO}(r:Rd H a u)(x:nC P w H h):eI P w H h a u:=by
 rcases r with r | ⟨o,r⟩
 ·exact x a u r
 ·obtain ⟨_,q⟩:=x a _ r;exact q
def Mut:Option HO->Prop
 | some (.lst _)=>True
 | some (.dK _)=>True
 | some (.dT _)=>True
 | some (.set _ _)=>True
 | some (.ins _ _ _)=>True
 | some (.ext _)=>True
 | _=>False
section
variable{P:Program}{w:World}{H:Hp}{h h':Heap}{x e:Addr}{o':HO}
theorem nC.write(ok:nC P w H h)(mu:Mut (H x))(he:e=x\/H e=some (.own x))(k:∀b u,b≠e->h.get? b=some u->h'.get? b=some u)(heo:∃u,h'.get? e=some u)
  (new:eI P w (upd H x o') h' x o'):nC P w (upd H x o') h':=λb u q=>by
 have nown:∀c y,H c=some (.own y)->c≠x:=λc y r z=>by subst z;rw [r] at mu;exact mu
 have ntup:∀c xs,H c=some (.tup xs)->c≠x:=λc xs r z=>by subst z;rw [r] at mu;exact mu
 by_cases hb:b=x
 ·subst hb;rw [bH] at q;cases q;exact new
 ·rw [bT hb] at q;by_cases hbe:b=e
  ·have q':H b=some (.own x):=by
    rcases he with z | z
    ·exact absurd (hbe.trans z) hb
    ·rw [hbe];exact z
   rw [q] at q';cases q';obtain ⟨v,hv⟩:=heo;exact ⟨v,by rw [hbe];exact hv⟩
  ·refine (ok b u q).stay (λc v hc r=>k c v ?_ r) (λc r=>by rw [bT (nown c b r)];exact r) λc xs r=>by rw [bT (ntup c xs r)];exact r
   rcases hc with rfl | hc
   ·exact hbe
   ·rintro rfl;rcases he with z | z
    ·exact nown c b hc z
    ·rw [hc] at z;cases z;exact hb rfl
end
structure Un(fs ex:List Addr)(H H':Hp)(h h':Heap):Prop where
 keep:∀b o,h.get? b=some o->H b=none->b ∉ fs->b ∉ ex->h'.get? b=some o
 slot:∀b o,h.get? b=some o->H b=none->b∈fs->b ∉ ex->∃sl,h'.get? b=some { o with slots:=sl }
 free:∀b o,h.get? b=some o->H b=none->b ∉ ex->H' b=none
 there:∀b o,h.get? b=some o->b ∉ ex->∃o',h'.get? b=some o'
 tups:∀b xs,H b=some (.tup xs)->H' b=some (.tup xs)
 frzs:∀b o u,H b=some (.frz o u)->H' b=some (.frz o u)
 tbls:∀b ps,H b=some (.tbl ps)->∃more,H' b=some (.tbl (ps++more))
section
variable{fs fs' ex ex':List Addr}{H H1 H2:Hp}{h h1 h2 h':Heap}{a x e:Addr}{o:HO}
theorem Un.any(u:Un fs ex H H1 h h1){b:Addr}{ob:Obj}(q:h.get? b=some ob)(n:H b=none)(hx:b ∉ ex):∃sl,h1.get? b=some { ob with slots:=sl }:=by
 by_cases hb:b∈fs
 ·exact u.slot b ob q n hb hx
 ·exact ⟨ob.slots,u.keep b ob q n hb hx⟩
theorem Un.kept(k:∀b u,h.get? b=some u->h'.get? b=some u):Un fs ex H H h h' :=
 ⟨λb ob q _ _ _=>k b ob q,λb ob q _ _ _=>⟨ob.slots,k b ob q⟩,λ_ _ _ n _=>n,λb ob q _=>⟨ob,k b ob q⟩,λ_ _ q=>q,λ_ _ _ q=>q,λ_ ps q=>⟨#[],by rw [q];simp⟩⟩
theorem Un.refl:Un fs ex H H h h:=Un.kept λ_ _ q=>q
theorem Un.laid(k:∀b u,h.get? b=some u->h'.get? b=some u)(hp:h.objs.size<=a)(hn:H a=none):Un fs ex H (upd H a o) h h' where
 keep:=λb u q _ _ _=>k b u q
 slot:=λb u q _ _ _=>⟨u.slots,k b u q⟩
 free:=λb u q n _=>by rw [bT (bW (aV (aX q) hp))];exact n
 there:=λb u q _=>⟨u,k b u q⟩
 tups:=λb xs q=>by rw [bT (cU q hn)];exact q
 frzs:=λb u xs q=>by rw [bT (cU q hn)];exact q
 tbls:=λb ps q=>⟨#[],by rw [bT (cU q hn),q];simp⟩
theorem Un.write(mu:Mut (H x))(he:e=x\/H e=some (.own x))(k:∀b u,b≠e->h.get? b=some u->h'.get? b=some u)(heo:∃u,h'.get? e=some u):Un fs ex H (upd H x o) h h':=by
 have hx:∀b,H b=none->b≠x:=λb n z=>by subst z;rw [n] at mu;exact mu
 have hb:∀b,H b=none->b≠e:=λb n z=>by
  subst z;rcases he with r | r
  ·exact hx b n r
  ·rw [n] at r;cases r
 have hm:∀b u,H b=some u->¬Mut (some u)->b≠x:=λb u q nm z=>by subst z;rw [q] at mu;exact nm mu
 refine ⟨λb u q n _ _=>k b u (hb b n) q,λb u q n _ _=>⟨u.slots,k b u (hb b n) q⟩,λb u q n _=>by rw [bT (hx b n)];exact n,λb u q _=>?_,
  λb xs q=>by rw [bT (hm b _ q λz=>z)];exact q,λb u xs q=>by rw [bT (hm b _ q λz=>z)];exact q,λb ps q=>⟨#[],by rw [bT (hm b _ q λz=>z),q];simp⟩⟩
 by_cases hbe:b=e
 ·subst hbe;exact heo
 ·exact ⟨u,k b u hbe q⟩
end
def trk(h:Heap)(H:Hp):List Addr:=(List.range h.objs.size).filter λa=>(H a).isSome
def wI(h:Heap)(H:Hp):Heap:=PySem.W.hideAll h (trk h H)
theorem yM(h:Heap)(H:Hp):(wI h H).objs.size=h.objs.size:=PySem.W.hideAll_size _ _
theorem wH{h:Heap}{H:Hp}{b:Addr}{o:Obj}(e:h.get? b=some o)(n:H b=none):(wI h H).get? b=some o :=
 PySem.W.hideAll_get _ e λhm=>by
  have q:(H b).isSome=true:=(iR.mp hm).2;rw [n] at q;simp at q
theorem HH{h:Heap}{H:Hp}{b:Addr}{o:Obj}(e:(wI h H).get? b=some o):h.get? b=some o/\H b=none:=by
 have e':h.get? b=some o:=PySem.W.of_hideAll (trk h H) e;refine ⟨e',?_⟩;cases q:H b with
 | none=>rfl
 | some x =>
  have hm:b∈trk h H:=iR.mpr ⟨cG.mpr (aX e'),by simp [q]⟩;have z:(wI h H).get? b=none:=PySem.W.hideAll_none (trk h H) hm;rw [z] at e;cases e
structure LO(K:PySem.W.Frag)(mg:Str->Option Value)(base:Heap):Prop where
 kin:K.In base
 glob:base.Ns mainGlobals mg
 blt:∃mb,base.Ns builtinsNs mb/\∀x:Str,x ≠ "__name__" -> mb x=bootBuiltins x
 nolimit:base.NoLimit
/-- the context: a def's body (or a comprehension's block) running. base: fixed through the whole law;s₀,H₀: the entry;outer: the frames whose slots others may change (a def's callers);stack: all frames that run;
   ex: iterators that were made ahead of the entry and are walked here (a comprehension's);fn: the names whose cells were made at the entry (a def: all;a comprehension's block: its own);calm: not within an except suite;pn: pins that every state bears;xe: what is wanted of an exception that leaves the code -/
structure Cx where
 prog:Program
 w:World
 K:PySem.W.Frag
 mg:Str->Option Value
 base:Heap
 A:Around
 N:List Str
 s₀:Shared
 H₀:Hp
 env:Env
 outer:List Env
 stack:List Env
 ex:List Addr
 fn:Str->Bool
 calm:Bool
 pn:List (Addr × Obj)
 xe:Value->Shared->Prop
def frs(l:List Env):List Addr:=l.filterMap (·.frame)
abbrev Cx.fs(X:Cx):List Addr:=frs X.outer
def Vis(sc:Scope)(x:Str):Prop:=sc.names.lookup x=some .local\/sc.names.lookup x=some .cell\/sc.names.lookup x=some .free
def Loc(sc:Scope)(x:Str):Prop:=sc.names.lookup x=some .local\/sc.names.lookup x=some .cell
def aDQ(env:Env)(h:Heap)(m:Str->Option Value)(x:Str)(u:Value):Prop :=
 (env.kindOf x=some .local/\m x=some u)\/((env.kindOf x=some .cell\/env.kindOf x=some .free)/\∃c,env.cells.lookup x=some c/\h.IsCell c (some u))
structure Cx.Ok(X:Cx):Prop where
 mod:LO X.K X.mg X.base
 kind:X.env.scope.kind=.function
 glob:X.env.globals=mainGlobals
 blt:X.env.builtins=builtinsNs
 above:X.s₀.heap.objs.size<=X.env.locals
 inj:∀x y c,X.env.cells.lookup x=some c->X.env.cells.lookup y=some c->x=y
 has:∀x,(X.env.kindOf x=some .cell\/X.env.kindOf x=some .free)->∃c,X.env.cells.lookup x=some c
 cab:∀x c,X.fn x=true->X.env.cells.lookup x=some c->X.s₀.heap.objs.size<=c
 hd:X.calm=true->X.A.handled=none
 frames:X.A.frames=some X.stack
 stk:X.stack=X.outer\/(X.stack=X.env::X.outer/\X.env.frame=some X.env.locals)
 exf:∀b∈X.ex,b≠X.env.locals/\∀x c,X.env.cells.lookup x=some c->c≠b
 bs:∀b o,X.base.get? b=some o->X.s₀.heap.get? b=some o/\X.H₀ b=none
 bsz:X.base.objs.size<=X.s₀.heap.objs.size
 noex:∀b o,X.base.get? b=some o->b ∉ X.ex
 exfs:∀b∈X.ex,b ∉ X.fs
 funs:X.s₀.heap.FunFrames X.base X.outer
 frf:∀b∈X.fs,X.H₀ b=none
structure cE(X:Cx)(pins:List (Addr × Obj))(σ:List (Option V))(H:Hp)(s:Shared):Prop where
 ok:X.Ok
 os:s.os=X.s₀.os
 bare:AllBare s.gens
 base:Un X.fs X.ex X.H₀ H X.s₀.heap s.heap
 loc:∃m,s.heap.Ns X.env.locals m/\∀(i:Nat) (x:Str) (v:V),X.N[i]?=some x->σ[i]?=some (some v)->Vis X.env.scope x->∃u,dH v u/\aDQ X.env s.heap m x u
 cell:∀x c,X.env.cells.lookup x=some c->∃v,s.heap.IsCell c v
 free:H X.env.locals=none
 freeC:∀x c,X.env.cells.lookup x=some c->H c=none
 pin:∀p∈X.pn++pins,s.heap.get? p.1=some p.2/\H p.1=none/\p.1≠X.env.locals/\p.1 ∉ X.fs/\∀v,p.2.data ≠ .cell v
 hok:nC X.prog X.w H s.heap
 len:σ.length=X.N.length
section
variable{X:Cx}{pins:List (Addr × Obj)}{σ:List (Option V)}{H H':Hp}{s:Shared}{h':Heap}
theorem Cx.Ok.nofr(ok:X.Ok){b:Addr}{o:Obj}(e:X.base.get? b=some o):b ∉ X.fs:=λhb=>by
 have:=(ok.funs.mem hb).1;rw [e] at this;cases this
theorem cE.bs(I:cE X pins σ H s):∀b o,X.base.get? b=some o->s.heap.get? b=some o/\H b=none:=λb o e =>
 ⟨I.base.keep b o (I.ok.bs b o e).1 (I.ok.bs b o e).2 (I.ok.nofr e) (I.ok.noex b o e),I.base.free b o (I.ok.bs b o e).1 (I.ok.bs b o e).2 (I.ok.noex b o e)⟩
theorem cE.bk(I:cE X pins σ H s):∀b o,X.base.get? b=some o->s.heap.get? b=some o:=λb o e=>(I.bs b o e).1
theorem cE.mod(I:cE X pins σ H s):LO X.K X.mg X.base:=I.ok.mod
theorem cE.kIn(I:cE X pins σ H s):X.K.In s.heap:=I.ok.mod.kin.keeps I.bk
theorem cE.lt(I:cE X pins σ H s):X.env.locals<s.heap.objs.size:=let ⟨_,hn,_⟩:=I.loc;hn.lt
theorem cE.sz(I:cE X pins σ H s):X.s₀.heap.objs.size<=s.heap.objs.size:=aQ I.ok.above (Nat.le_of_lt I.lt)
theorem cE.nofs(I:cE X pins σ H s){a:Addr}(h:s.heap.objs.size<=a):a ∉ X.fs:=λhb=>by
 obtain ⟨_,o,ho,_⟩:=I.ok.funs.mem hb;exact absurd (aV (aX ho) (aQ I.sz h)) (cP _)
theorem cE.cne(I:cE X pins σ H s):∀x c,X.env.cells.lookup x=some c->c≠X.env.locals:=λx c e z=>by
 obtain ⟨v,o,ho,hd⟩:=I.cell x c e;obtain ⟨m,⟨o',es,ep,ho',hd',_⟩,_⟩:=I.loc;rw [z,ho'] at ho;cases ho;rw [hd'] at hd;cases hd
theorem cE.funs(I:cE X pins σ H s):s.heap.FunFrames X.base X.outer:=by
 have all:∀(l:List Env),(∀b∈frs l,b∈X.fs)->X.s₀.heap.FunFrames X.base l->s.heap.FunFrames X.base l:=by
  intro l
  induction l with
  | nil=>intro _ _;trivial
  | cons env r ih =>
   intro hs hl;obtain ⟨hk,⟨L,o,hf,hn,ho,hd⟩,hr⟩:=hl;have hL:L∈X.fs:=hs L (by unfold frs;rw [List.filterMap_cons,hf];exact aH);obtain ⟨sl,e⟩:=I.base.slot L o ho (I.ok.frf L hL) hL λz=>I.ok.exfs L z hL;exact ⟨hk,⟨L,_,hf,hn,e,hd⟩,ih (λb hb=>hs b (by unfold frs;rw [List.filterMap_cons,hf];exact aF _ hb)) hr⟩
 exact all X.outer (λ_ hb=>hb) I.ok.funs
theorem cE.stack(I:cE X pins σ H s):s.heap.FunFrames X.base X.stack:=by
 rcases I.ok.stk with e | ⟨e,hf⟩
 ·rw [e];exact I.funs
 ·rw [e];obtain ⟨m,hn,_⟩:=I.loc;refine .cons (by rw [I.ok.kind];decide) hf hn ?_ I.funs;exact Heap.get?_none_of_le (aQ I.ok.bsz I.ok.above)
theorem cE.stkSub(I:cE X pins σ H s):∀b∈frs X.stack,b∈X.env.locals::X.fs:=λb hb=>by
 rcases I.ok.stk with e | ⟨e,hf⟩
 ·rw [e] at hb;exact aF _ hb
 ·rw [e] at hb;unfold frs at hb;rw [List.filterMap_cons,hf] at hb;exact hb
theorem cE.stkFree(I:cE X pins σ H s):∀b∈frs X.stack,H b=none:=λb hb=>by
 rcases aT.mp (I.stkSub b hb) with e | hb
 ·rw [e];exact I.free
 ·obtain ⟨_,o,ho,_⟩:=I.ok.funs.mem hb;exact I.base.free b o ho (I.ok.frf b hb) λz=>I.ok.exfs b z hb
theorem cE.step{g':Array GenState}{t':Nat}{d':Drawn}{ch:List Addr}(I:cE X pins σ H s)
  (hch:∀b∈ch,(b∈X.ex\/X.s₀.heap.objs.size<=b)/\b≠X.env.locals/\(∀x c,X.env.cells.lookup x=some c->c≠b)/\∀p∈X.pn++pins,p.1≠b)
  (keep:∀b o,b≠X.env.locals->b ∉ X.fs->b ∉ ch->s.heap.get? b=some o->H b=none->h'.get? b=some o)
  (slot:∀b o,b≠X.env.locals->b∈X.fs->b ∉ ch->s.heap.get? b=some o->H b=none->∃sl,h'.get? b=some { o with slots:=sl }) (free:∀b o,b ∉ ch->s.heap.get? b=some o->H b=none->H' b=none)
  (there:∀b o,b ∉ ch->s.heap.get? b=some o->∃o',h'.get? b=some o')
  (tups:∀b xs,H b=some (.tup xs)->H' b=some (.tup xs)) (frzs:∀b o u,H b=some (.frz o u)->H' b=some (.frz o u)) (tbls:∀b ps,H b=some (.tbl ps)->∃more,H' b=some (.tbl (ps++more)))
  (ns:∀m,s.heap.Ns X.env.locals m->h'.Ns X.env.locals m) (hok:nC X.prog X.w H' h') (hg:AllBare g') :
  cE X pins σ H' { s with heap:=h',gens:=g',drawn:=d',toks:=t' }:=by
 have neL:∀b o,X.s₀.heap.get? b=some o->b≠X.env.locals:=λb o e=>bW (aV (aX e) I.ok.above);have neC:∀b o,X.s₀.heap.get? b=some o->b ∉ X.ex->b ∉ ch:=λb o e hx hb=>by
  rcases (hch b hb).1 with z | z
  ·exact hx z
  ·exact absurd (aV (aX e) z) (cP _)
 have cellK:∀x c,X.env.cells.lookup x=some c->∀v,s.heap.IsCell c v->h'.IsCell c v:=λx c e v ⟨o,ho,hd⟩=>by
  have nch:c ∉ ch:=λz=>(hch c z).2.2.1 x c e rfl;by_cases hc:c∈X.fs
  ·obtain ⟨sl,q⟩:=slot c o (I.cne x c e) hc nch ho (I.freeC x c e);exact ⟨_,q,hd⟩
  ·exact ⟨o,keep c o (I.cne x c e) hc nch ho (I.freeC x c e),hd⟩
 refine ⟨I.ok,I.os,hg,⟨λb o e n hb hx=>?_,λb o e n hb hx=>?_,λb o e n hx=>?_,λb o e hx=>?_,λb xs e=>tups b xs (I.base.tups b xs e),λb o xs e=>frzs b o xs (I.base.frzs b o xs e),λb ps e=>?_⟩,?_,λx c e=>?_,?_,λx c e=>?_,λp hp=>?_,hok,I.len⟩
 ·exact keep b o (neL b o e) hb (neC b o e hx) (I.base.keep b o e n hb hx) (I.base.free b o e n hx)
 ·obtain ⟨sl,e1⟩:=I.base.slot b o e n hb hx;obtain ⟨sl',e2⟩:=slot b _ (neL b o e) hb (neC b o e hx) e1 (I.base.free b o e n hx);exact ⟨sl',e2⟩
 ·obtain ⟨o',e1⟩:=I.base.there b o e hx;exact free b o' (neC b o e hx) e1 (I.base.free b o e n hx)
 ·obtain ⟨o',e1⟩:=I.base.there b o e hx;exact there b o' (neC b o e hx) e1
 ·obtain ⟨m1,e1⟩:=I.base.tbls b ps e;obtain ⟨m2,e2⟩:=tbls b _ e1;exact ⟨m1++m2,by rw [e2,Array.append_assoc]⟩
 ·obtain ⟨m,hn,hl⟩:=I.loc;refine ⟨m,ns m hn,λi x v e1 e2 e3=>?_⟩;obtain ⟨u,r,l⟩:=hl i x v e1 e2 e3;refine ⟨u,r,?_⟩;rcases l with l | ⟨k,c,e,z⟩
  ·exact .inl l
  ·exact .inr ⟨k,c,e,cellK x c e _ z⟩
 ·obtain ⟨v,z⟩:=I.cell x c e;exact ⟨v,cellK x c e v z⟩
 ·obtain ⟨m,⟨o,_,_,ho,_⟩,_⟩:=I.loc;exact free _ o (λz=>(hch _ z).2.1 rfl) ho I.free
 ·obtain ⟨v,o,ho,hd⟩:=I.cell x c e;exact free c o (λz=>(hch c z).2.2.1 x c e rfl) ho (I.freeC x c e)
 ·obtain ⟨e,n,ne,nf,d⟩:=I.pin p hp;have nch:p.1 ∉ ch:=λz=>(hch p.1 z).2.2.2 p hp rfl;exact ⟨keep p.1 p.2 ne nf nch e n,free p.1 p.2 nch e n,ne,nf,d⟩
theorem cE.un{t':Nat}(I:cE X pins σ H s)(u:Un X.fs [] H H' s.heap h')(hok:nC X.prog X.w H' h'):cE X pins σ H' { s with heap:=h',toks:=t' }:=by
 obtain ⟨m,⟨o,es,ep,ho,r⟩,_⟩:=id I.loc;obtain ⟨sl,hL⟩:=u.any ho I.free (by simp);exact I.step (g':=s.gens) (d':=s.drawn) (ch:=[]) (λ_ z=>nomatch z) (λb o _ hb _ e n=>u.keep b o e n hb (by simp)) (λb o _ hb _ e n=>u.slot b o e n hb (by simp)) (λb o _ e n=>u.free b o e n (by simp)) (λb o _ e=>u.there b o e (by simp)) u.tups u.frzs u.tbls (λm' hm=>by
  obtain ⟨o',es',ep',ho',r'⟩:=hm;rw [ho] at ho';cases ho';exact ⟨_,es',ep',hL,r'⟩) hok I.bare
theorem cE.call{g':Array GenState}{t':Nat}{d':Drawn}{ch:List Addr}(I:cE X pins σ H s)(u:Un (frs X.stack) ch H H' s.heap h')(hok:nC X.prog X.w H' h')(hg:AllBare g')
  (hch:∀b∈ch,(b∈X.ex\/X.s₀.heap.objs.size<=b)/\b≠X.env.locals/\(∀x c,X.env.cells.lookup x=some c->c≠b)/\∀p∈X.pn++pins,p.1≠b) :
  cE X pins σ H' { s with heap:=h',gens:=g',drawn:=d',toks:=t' }:=by
 obtain ⟨m,⟨o,es,ep,ho,r⟩,_⟩:=id I.loc;obtain ⟨sl,hL⟩:=u.any ho I.free λz=>(hch _ z).2.1 rfl;exact I.step (ch:=ch) hch (λb o hL hb hc e n=>u.keep b o e n (λz=>(aT.mp (I.stkSub b z)).elim hL hb) hc) (λb o _ _ hc e n=>u.any e n hc) (λb o hc e n=>u.free b o e n hc) (λb o hc e=>u.there b o e hc) u.tups u.frzs u.tbls (λm' hm=>by
  obtain ⟨o',es',ep',ho',r'⟩:=hm;rw [ho] at ho';cases ho';exact ⟨_,es',ep',hL,r'⟩) hok hg
theorem cE.turned{t':Nat}{it:Addr}(I:cE X pins σ H s)(k:∀b o,b≠it->s.heap.get? b=some o->h'.get? b=some o)(hn:H it=none)(hL:it≠X.env.locals)
  (h1:it∈X.ex\/X.s₀.heap.objs.size<=it) (h2:∀x c,X.env.cells.lookup x=some c->c≠it) (h3:∀p∈X.pn++pins,p.1≠it):cE X pins σ H { s with heap:=h',toks:=t' }:=by
 have nit:∀b u,H b=some u->b≠it:=λb u e z=>by rw [z,hn] at e;cases e
 refine I.step (g':=s.gens) (d':=s.drawn) (ch:=[it]) (λb hb=>?_) (λb o _ _ hc e _=>k b o (λz=>hc (by simp [z])) e) (λb o _ _ hc e _=>⟨o.slots,k b o (λz=>hc (by simp [z])) e⟩) (λ_ _ _ _ n=>n)
  (λb o hc e=>⟨o,k b o (λz=>hc (by simp [z])) e⟩) (λ_ _ e=>e) (λ_ _ _ e=>e) (λb ps e=>⟨#[],by rw [e];simp⟩) (λm hm=>?_) (λb u e=>?_) I.bare
 ·have e:b=it:=by simpa using hb
  subst e;exact ⟨h1,hL,h2,h3⟩
 ·obtain ⟨o,es,ep,ho,r⟩:=hm;exact ⟨o,es,ep,k _ o (Ne.symm hL) ho,r⟩
 ·refine (I.hok b u e).stay (λc v hc q=>k c v ?_ q) (λ_ q=>q) λ_ _ q=>q;rcases hc with z | z
  ·rw [z];exact nit b u e
  ·exact nit c _ z
theorem cE.tok(I:cE X pins σ H s)(t:Nat):cE X pins σ H { s with toks:=t }:=I.un (h':=s.heap) (t':=t) Un.refl I.hok
theorem cE.kept{t':Nat}(I:cE X pins σ H s)(k:∀b u,s.heap.get? b=some u->h'.get? b=some u):cE X pins σ H { s with heap:=h',toks:=t' }:=I.un (Un.kept k) (I.hok.kept k)
theorem cE.laid{a:Addr}{o:HO}{t':Nat}(I:cE X pins σ H s)(k:∀b u,s.heap.get? b=some u->h'.get? b=some u)(hp:s.heap.objs.size<=a)(new:eI X.prog X.w (upd H a o) h' a o) :
  cE X pins σ (upd H a o) { s with heap:=h',toks:=t' }:=I.un (Un.laid k hp (I.hok.fresh hp)) (I.hok.laid k hp new)
theorem cE.write{x e:Addr}{o:HO}{t':Nat}(I:cE X pins σ H s)(mu:Mut (H x))(he:e=x\/H e=some (.own x))(k:∀b u,b≠e->s.heap.get? b=some u->h'.get? b=some u)(heo:∃u,h'.get? e=some u)
  (new:eI X.prog X.w (upd H x o) h' x o):cE X pins σ (upd H x o) { s with heap:=h',toks:=t' }:=I.un (Un.write mu he k heo) (I.hok.write mu he k heo new)
theorem cE.pins_of{pins':List (Addr × Obj)}(I:cE X pins σ H s)(h:∀p∈pins',s.heap.get? p.1=some p.2/\H p.1=none/\p.1≠X.env.locals/\p.1 ∉ X.fs/\∀v,p.2.data ≠ .cell v):cE X pins' σ H s :=
 ⟨I.ok,I.os,I.bare,I.base,I.loc,I.cell,I.free,I.freeC,λp hp=>(dB.mp hp).elim (λz=>I.pin p (cX _ z)) (h p),I.hok,I.len⟩
theorem CK{N:List Str}(hN:N.Nodup){i j:Nat}{x:Str}(a:N[i]?=some x)(b:N[j]?=some x):i=j:=by
 obtain ⟨h1,e1⟩:=aK.mp a;obtain ⟨h2,e2⟩:=aK.mp b;exact (List.getElem_inj hN).mp (e1.trans e2.symm)
theorem xZ{M:Model}{A:Around}{E:Value->Shared->Prop}{i:Nat}{x:Str}{v:V}{u:Value}{Q:Unit->Shared->Prop}(I:cE X pins σ H s)(hN:X.N.Nodup)(hi:X.N[i]?=some x)(hx:Loc X.env.scope x)(r:dH v u)
  (h:∀s',cE X pins (σ.set i (some v)) H s'->(∃a,Heap.SameBut a s.heap s'.heap/\(a=X.env.locals\/X.env.cells.lookup x=some a))->Q () s') (hf:X.fn x=true\/X.env.scope.names.lookup x=some .local:=by first | exact .inl rfl | exact .inr rfl | assumption):wpAny M A (storeName X.env x u) Q E s:=by
 obtain ⟨m,hn,hl⟩:=id I.loc;have hcls:(X.env.scope.kind == .class || (X.env.scope.kind == .module&&X.env.locals != X.env.globals))=false:=by rw [I.ok.kind];rfl
 have hiσ:i<σ.length:=by rw [I.len];exact (aK.mp hi).1
 have cne:=I.cne;have tracked:∀{a:Addr} {h':Heap},(∃o,s.heap.get? a=some o/\H a=none)->Heap.SameBut a s.heap h'->nC X.prog X.w H h':=λ{a h'} ha hs b ob e=>by
  obtain ⟨_,_,hfree⟩:=ha;refine (I.hok b ob e).stay (λc w' hc q=>(hs.2 c ?_).trans q) (λ_ q=>q) λ_ _ q=>q;rintro rfl;rcases hc with rfl | hc
  ·rw [hfree] at e;cases e
  ·rw [hfree] at hc;cases hc
 rcases hx with hk | hk
 ·refine wpAny_storeName_local hk hn (λh' hn' hs=>?_) hcls;obtain ⟨oL,_,_,hoL,_⟩:=id hn;refine h _ ⟨I.ok,I.os,I.bare,⟨λb o e n hb hx=>?_,λb o e n hb hx=>?_,I.base.free,λb o e hx=>?_,I.base.tups,I.base.frzs,I.base.tbls⟩,⟨_,hn',λj y v' e1 e2 e3=>?_⟩,λy c e=>?_,I.free,I.freeC,λp hp=>?_,tracked ⟨oL,hoL,I.free⟩ hs,by simpa using I.len⟩ ⟨_,hs,.inl rfl⟩
  ·exact (hs.2 b (bW (aV (aX e) I.ok.above))).trans (I.base.keep b o e n hb hx)
  ·obtain ⟨sl,e1⟩:=I.base.slot b o e n hb hx;exact ⟨sl,(hs.2 b (bW (aV (aX e) I.ok.above))).trans e1⟩
  ·obtain ⟨o',e1⟩:=I.base.there b o e hx;exact ⟨o',(hs.2 b (bW (aV (aX e) I.ok.above))).trans e1⟩
  ·by_cases hj:j=i
   ·subst hj;rw [hi] at e1;cases e1;rw [List.getElem?_set_self hiσ] at e2;cases e2;exact ⟨u,r,.inl ⟨hk,by simp⟩⟩
   ·rw [List.getElem?_set_ne (Ne.symm hj)] at e2;obtain ⟨u',r',q⟩:=hl j y v' e1 e2 e3;refine ⟨u',r',?_⟩;rcases q with ⟨k,e⟩ | ⟨k,c,e,z⟩
    ·refine .inl ⟨k,?_⟩;have:y≠x:=λe=>hj (CK hN e1 (e ▸ hi));simp [this,e]
    ·exact .inr ⟨k,c,e,z.sameBut hs (cne y c e)⟩
  ·obtain ⟨w',z⟩:=I.cell y c e;exact ⟨w',z.sameBut hs (cne y c e)⟩
  ·obtain ⟨e,n,ne,nf,d⟩:=I.pin p hp;exact ⟨(hs.2 p.1 ne).trans e,n,ne,nf,d⟩
 ·have hfn:X.fn x=true:=by
   rcases hf with z | z
   ·exact z
   ·rw [z] at hk;cases hk
  obtain ⟨c,hc⟩:=I.ok.has x (.inl hk);obtain ⟨w',z⟩:=I.cell x c hc;refine wpAny_storeName_cell I.ok.kind hk hc z (λh' hc' hs=>?_);obtain ⟨oc,hoc,hocd⟩:=id z;refine h { s with heap:=h' } ⟨I.ok,I.os,I.bare,⟨λb o e n hb hx=>?_,λb o e n hb hx=>?_,I.base.free,λb o e hx=>?_,I.base.tups,I.base.frzs,I.base.tbls⟩,⟨m,hn.sameBut hs (Ne.symm (cne x c hc)),λj y v' e1 e2 e3=>?_⟩,λy c' e=>?_,I.free,I.freeC,λp hp=>?_,tracked ⟨oc,hoc,I.freeC x c hc⟩ hs,by simpa using I.len⟩ ⟨c,hs,.inr hc⟩
  ·exact (hs.2 b (bW (aV (aX e) (I.ok.cab x c hfn hc)))).trans (I.base.keep b o e n hb hx)
  ·obtain ⟨sl,e1⟩:=I.base.slot b o e n hb hx;exact ⟨sl,(hs.2 b (bW (aV (aX e) (I.ok.cab x c hfn hc)))).trans e1⟩
  ·obtain ⟨o',e1⟩:=I.base.there b o e hx;exact ⟨o',(hs.2 b (bW (aV (aX e) (I.ok.cab x c hfn hc)))).trans e1⟩
  ·by_cases hj:j=i
   ·subst hj;rw [hi] at e1;cases e1;rw [List.getElem?_set_self hiσ] at e2;cases e2;exact ⟨u,r,.inr ⟨.inl hk,c,hc,hc'⟩⟩
   ·rw [List.getElem?_set_ne (Ne.symm hj)] at e2;obtain ⟨u',r',q⟩:=hl j y v' e1 e2 e3;refine ⟨u',r',?_⟩;rcases q with q | ⟨k,c',e,z'⟩
    ·exact .inl q
    ·refine .inr ⟨k,c',e,z'.sameBut hs ?_⟩;rintro rfl;exact hj (CK hN e1 (I.ok.inj _ _ _ e hc ▸ hi))
  ·by_cases hcc:c'=c
   ·subst hcc;exact ⟨_,hc'⟩
   ·obtain ⟨w2,z2⟩:=I.cell y c' e;exact ⟨w2,z2.sameBut hs hcc⟩
  ·obtain ⟨e,n,ne,nf,d⟩:=I.pin p hp;refine ⟨(hs.2 p.1 ?_).trans e,n,ne,nf,d⟩;intro q;rw [q,hoc] at e;have q':oc=p.2:=eB e;exact d w' (by rw [<-q'];exact hocd)
theorem nO{M:Model}{A:Around}{E:Value->Shared->Prop}{i:Nat}{x:Str}{v:V}{u:Value}{Q:Unit->Shared->Prop}(I:cE X pins σ H s)(hN:X.N.Nodup)(hi:X.N[i]?=some x)(hx:Loc X.env.scope x)(r:dH v u)
  (h:∀s',cE X pins (σ.set i (some v)) H s'->Q () s') (hf:X.fn x=true\/X.env.scope.names.lookup x=some .local:=by first | exact .inl rfl | exact .inr rfl | assumption):wpAny M A (storeName X.env x u) Q E s :=
 xZ I hN hi hx r (λs' I' _=>h s' I') hf
theorem cE.call'{s':Shared}{ch:List Addr}(I:cE X pins σ H s)(ho:s'.os=s.os)(u:Un (frs X.stack) ch H H' s.heap s'.heap)(hok:nC X.prog X.w H' s'.heap)(hg:AllBare s'.gens)
  (hch:∀b∈ch,(b∈X.ex\/X.s₀.heap.objs.size<=b)/\b≠X.env.locals/\(∀x c,X.env.cells.lookup x=some c->c≠b)/\∀p∈X.pn++pins,p.1≠b):cE X pins σ H' s':=by
 obtain ⟨h',g',d',t',o'⟩:=s';have e:o'=s.os:=ho;subst e;exact I.call (g':=g') (t':=t') (d':=d') u hok hg hch
end
abbrev XK:=Value->Option Addr->Hp->Prop
abbrev St:=List (Option V)
abbrev VK:=V->Hp->Prop
abbrev TE:=St->Hp->VK->Prop
abbrev TT:=St->Hp->(Bool->Hp->Prop)->Prop
abbrev TA:=St->Hp->(List V->Hp->Prop)->Prop
structure tI where
 nx:St->Hp->Prop
 rt:VK
 bk:St->Hp->Prop:=λ_ _=>False
 ct:St->Hp->Prop:=λ_ _=>False
abbrev TS:=tI->St->Hp->Prop
def EP(X:Cx)(pins:List (Addr × Obj))(σ:St)(Q:VK)(u:Value)(s':Shared):Prop:=∃v H',cE X pins σ H' s'/\dH v u/\Q v H'
def TP(X:Cx)(pins:List (Addr × Obj))(σ:St)(Q:Bool->Hp->Prop)(b:Bool)(s':Shared):Prop:=∃H',cE X pins σ H' s'/\Q b H'
def AP(X:Cx)(pins:List (Addr × Obj))(σ:St)(Q:List V->Hp->Prop)(us:List Value)(s':Shared):Prop:=∃vs H',cE X pins σ H' s'/\cV vs us/\Q vs H'
def SP(X:Cx)(pins:List (Addr × Obj))(D:tI)(f:Flow)(s':Shared):Prop :=
 match f with
 | .next=>∃σ' H',cE X pins σ' H' s'/\D.nx σ' H'
 | .brk=>∃σ' H',cE X pins σ' H' s'/\D.bk σ' H'
 | .cont=>∃σ' H',cE X pins σ' H' s'/\D.ct σ' H'
 | .ret u=>∃v σ' H',cE X pins σ' H' s'/\dH v u/\D.rt v H'
def PE(X:Cx)(e:Expr)(t:TE):Prop :=
 ∀(pins:List (Addr × Obj)) (s:Shared) (σ:St) (H:Hp) (Q:VK),cE X pins σ H s->t σ H Q->wpAny (model X.prog X.w) X.A (eval e X.env) (EP X pins σ Q) X.xe s
def PT(X:Cx)(e:Expr)(t:TT):Prop :=
 ∀(pins:List (Addr × Obj)) (s:Shared) (σ:St) (H:Hp) (Q:Bool->Hp->Prop),cE X pins σ H s->t σ H Q->wpAny (model X.prog X.w) X.A (isTrue e X.env (eval e X.env)) (TP X pins σ Q) X.xe s
def PW(X:Cx)(e:Expr)(t:TT):Prop :=
 ∀(whole:Sem Value) (pins:List (Addr × Obj)) (s:Shared) (σ:St) (H:Hp) (Q:Bool->Hp->Prop),cE X pins σ H s->t σ H Q->wpAny (model X.prog X.w) X.A (isTrue e X.env whole) (TP X pins σ Q) X.xe s
theorem PW.pt{X:Cx}{e:Expr}{t:TT}(h:PW X e t):PT X e t:=h _
def PA(X:Cx)(es:List Expr)(t:TA):Prop :=
 ∀(pos:Pos) (pins:List (Addr × Obj)) (s:Shared) (σ:St) (H:Hp) (Q:List V->Hp->Prop),cE X pins σ H s->t σ H Q->wpAny (model X.prog X.w) X.A (spliced (backTo pos (starEach es X.env))) (AP X pins σ Q) X.xe s
def PS(X:Cx)(st:Stmt)(t:TS):Prop :=
 ∀(pins:List (Addr × Obj)) (s:Shared) (σ:St) (H:Hp) (D:tI),cE X pins σ H s->t D σ H->wpAny (model X.prog X.w) X.A (exec st X.env) (SP X pins D) X.xe s
def GF(X:Cx)(st:List Stmt)(t:TS):Prop :=
 ∀(pins:List (Addr × Obj)) (s:Shared) (σ:St) (H:Hp) (D:tI),cE X pins σ H s->t D σ H->wpAny (model X.prog X.w) X.A (execs st X.env) (SP X pins D) X.xe s
theorem thn{α:Type}{t:Sem α}{Q Q':α->Shared->Prop}{M:Model}{A:Around}{E:Value->Shared->Prop}{s:Shared}(h:wpAny M A t Q E s)(hQ:∀a s,Q a s->Q' a s):wpAny M A t Q' E s:=wpAny_mono h hQ λ_ _ x=>x
section
variable{X:Cx}
def XI(i:Nat):TE:=λσ H Q=>∃v,σ[i]?=some (some v)/\Q v H
def tC(v:V):TE:=λ_ H Q=>Q v H
theorem ZP{i:Nat}{x:Str}{pos:Pos}(hN:X.N[i]?=some x)(hv:Vis X.env.scope x)(hd:(x == ("__debug__" : Str))=false:=by decide)(hcd:(x == ("__classdict__" : Str))=false:=by decide):PE X (.Name x pos) (XI i):=by
 intro pins s σ H Q I h;obtain ⟨v,e,h⟩:=h;obtain ⟨m,hn,hl⟩:=I.loc;obtain ⟨u,r,l⟩:=hl i x v hN e hv;have fin:EP X pins σ Q u s:=⟨v,H,I,r,h⟩;rcases l with ⟨hk,hm⟩ | ⟨hk,c,hc,hcell⟩
 ·exact wpAny_Name (wpAny_loadName_local I.ok.kind hk hn hm fin) hd
 ·rcases hk with hk | hk
  ·exact wpAny_Name (wpAny_loadName_cell I.ok.kind hk hc hcell fin) hd
  ·exact wpAny_Name (wpAny_loadName_free I.ok.kind hk hc hcell fin hcd) hd
theorem pe_int{i j pos}:PE X (.Constant (.int i) j pos) (tC (.int i)):=λ_ _ _ H _ I h=>wpAny_Constant_int ⟨.int i,H,I.tok _,⟨_,rfl⟩,h⟩
theorem pe_bl{b j pos}:PE X (.Constant (.bool b) j pos) (tC (.bl b)):=λ_ _ _ H _ I h=>Constant_bool ⟨.bl b,H,I,rfl,h⟩
theorem pe_non{j pos}:PE X (.Constant .none j pos) (tC .non):=λ_ _ _ H _ I h=>Constant_none ⟨.non,H,I,rfl,h⟩
theorem pe_str{x j pos}:PE X (.Constant (.str x) j pos) (tC (.str x)):=λ_ _ _ H _ I h=>Calls.Constant_str ⟨.str x,H,I.tok _,⟨_,rfl⟩,h⟩
def Gl(X:Cx)(x:Str):Prop:=X.env.kindOf x=some .globalImplicit
theorem HK{E:Value->Shared->Prop}{pins:List (Addr × Obj)}{s:Shared}{σ:St}{H:Hp}{x:Str}{u:Value}{pos:Pos}{Q:Value->Shared->Prop}(I:cE X pins σ H s)(hg:Gl X x)(hm:X.mg x=some u)(h:Q u s)
  (hd:(x == ("__debug__" : Str))=false:=by decide):wpAny (model X.prog X.w) X.A (eval (.Name x pos) X.env) Q E s :=
 Calls.Name_function_global I.ok.kind hg (Calls.loadGlobal_global (by rw [I.ok.glob];exact I.mod.glob.keeps I.bk) hm h) hd
theorem sN{E:Value->Shared->Prop}{pins:List (Addr × Obj)}{s:Shared}{σ:St}{H:Hp}{x:Str}{u:Value}{pos:Pos}{Q:Value->Shared->Prop}(I:cE X pins σ H s)(hg:Gl X x)(hm:X.mg x=none)(hv:bootBuiltins x=some u)(h:Q u s)
  (hn:x ≠ "__name__" := by decide) (hd:(x == ("__debug__" : Str))=false:=by decide):wpAny (model X.prog X.w) X.A (eval (.Name x pos) X.env) Q E s:=by
 obtain ⟨mb,h1,h2⟩:=I.mod.blt;exact Calls.Name_function_global I.ok.kind hg (Calls.loadGlobal_builtin (by rw [I.ok.glob];exact I.mod.glob.keeps I.bk) hm (by rw [I.ok.blt];exact h1.keeps I.bk) ((h2 x hn).trans hv) h) hd
theorem SY{x:Str}{v:V}{u:Value}{pos:Pos}(hg:Gl X x)(hm:X.mg x=some u)(r:dH v u)(hd:(x == ("__debug__" : Str))=false:=by decide):PE X (.Name x pos) (tC v) :=
 λ_ _ _ H _ I h=>HK I hg hm ⟨v,H,I,r,h⟩ hd
theorem TJ{x:Str}{v:V}{u:Value}{pos:Pos}(hg:Gl X x)(hm:X.mg x=none)(hv:bootBuiltins x=some u)(r:dH v u)(hn:x ≠ "__name__" := by decide)(hd:(x == ("__debug__" : Str))=false:=by decide):PE X (.Name x pos) (tC v) :=
 λ_ _ _ H _ I h=>sN I hg hm hv ⟨v,H,I,r,h⟩ hn hd
variable{a b:Expr}{ta tb:TE}{pos:Pos}
def tB(t:TE):TT:=λσ H Q=>t σ H λx H1=>∃c,x=.bl c/\Q c H1
theorem ZA{e:Expr}{t:TE}(h:PE X e t)(he:∀whole,isTrue e X.env whole=(do let v <-whole;standAt e.pos;holding [v] (truthy v)):=by intro _;rfl):PT X e (tB t):=by
 intro pins s σ H Q I hw;refine isTrue_plain (thn (h pins s σ H _ I hw) λv s1 ⟨x,H1,I1,r1,q1⟩=>?_) (he _);obtain ⟨d,rfl,q⟩:=q1;cases r1;exact wpAny_truthy_bool ⟨H1,I1,q⟩
variable{tA tB':TT}{rest:List Expr}
def aBr(t u:TT):TT:=λσ H Q=>t σ H λc H1=>if c=true then u σ H1 Q else Q false H1
def tOr(t u:TT):TT:=λσ H Q=>t σ H λc H1=>if c=true then Q true H1 else u σ H1 Q
def aBk(t:TT):TT:=λσ H Q=>t σ H λc H1=>Q (!c) H1
theorem SM(ha:PT X a tA):PW X (.BoolOp .And [a] pos) tA:=by
 intro wh pins s σ H Q I h;refine isTrue_and (thn (ha pins s σ H Q I h) λc s1 e=>?_);cases c with
 | true=>exact isTrue_and_nil e
 | false=>exact e
theorem YY(ha:PT X a tA):PW X (.BoolOp .Or [a] pos) tA:=by
 intro wh pins s σ H Q I h;refine isTrue_or (thn (ha pins s σ H Q I h) λc s1 e=>?_);cases c with
 | false=>exact isTrue_or_nil e
 | true=>exact e
theorem YZ(ha:PT X a tA)(hb:PW X (.BoolOp .And (b::rest) pos) tB'):PW X (.BoolOp .And (a::b::rest) pos) (aBr tA tB'):=by
 intro wh pins s σ H Q I h;refine isTrue_and (thn (ha pins s σ H _ I h) λc s1 ⟨H1,I1,q1⟩=>?_);cases c with
 | true=>exact hb wh pins s1 σ H1 Q I1 q1
 | false=>exact ⟨H1,I1,q1⟩
theorem aBI(ha:PT X a tA)(hb:PW X (.BoolOp .Or (b::rest) pos) tB'):PW X (.BoolOp .Or (a::b::rest) pos) (tOr tA tB'):=by
 intro wh pins s σ H Q I h;refine isTrue_or (thn (ha pins s σ H _ I h) λc s1 ⟨H1,I1,q1⟩=>?_);cases c with
 | true=>exact ⟨H1,I1,q1⟩
 | false=>exact hb wh pins s1 σ H1 Q I1 q1
theorem ZB(ha:PT X a tA):PT X (.UnaryOp .Not a pos) (aBk tA):=by
 intro pins s σ H Q I h;exact isTrue_not (ha pins s σ H (λc H1=>Q (!c) H1) I h)
def VY(ta tb:TE):TE:=λσ H Q=>ta σ H λx H1=>∃c,x=.bl c/\if c=true then tb σ H1 Q else Q (.bl false) H1
def VQ(ta:TE):TE:=λσ H Q=>ta σ H λx H1=>∃c,x=.bl c/\Q (.bl (!c)) H1
theorem ZR{op}{t:TE}(h:PE X a t):PE X (.BoolOp op [a] pos) t:=λpins s σ H Q I hw=>BoolOp_one (h pins s σ H Q I hw)
theorem ZU(ha:PE X a ta)(hb:PE X (.BoolOp .And (b::rest) pos) tb):PE X (.BoolOp .And (a::b::rest) pos) (VY ta tb):=by
 intro pins s σ H Q I h;refine BoolOp_and (thn (ha pins s σ H _ I h) λv s1 ⟨x,H1,I1,r1,q1⟩=>?_);obtain ⟨c,rfl,q1⟩:=q1;cases r1;refine wpAny_truthy_bool ?_;cases c with
 | true=>exact hb pins s1 σ H1 Q I1 q1
 | false=>exact ⟨.bl false,H1,I1,rfl,q1⟩
theorem ZS(ha:PE X a ta):PE X (.UnaryOp .Not a pos) (VQ ta):=by
 intro pins s σ H Q I h;refine UnaryOp_ (thn (ha pins s σ H _ I h) λv s1 ⟨x,H1,I1,r1,q1⟩=>?_);obtain ⟨c,rfl,q1⟩:=q1;cases r1;exact not_of (wpAny_truthy_bool ⟨.bl (!c),H1,I1,rfl,q1⟩)
end
def fS(K:PySem.W.Frag)(H:Hp)(a:Addr)(xs:List V):Prop :=
 Rd H a (.lst xs) \/
  ∃(o:Obj) (its:Array Value) (n:Nat),K.lookup a=some o/\o.cls=.type "list" /\ o.dict=none/\o.data=.seq its n/\its.size<=sizeLine/\cV xs its.toList
def eZ(K:PySem.W.Frag)(H:Hp)(a:Addr)(xs:List V):Prop :=
 Rd H a (.tup xs) \/
  ∃(o:Obj) (its:Array Value) (n:Nat),K.lookup a=some o/\o.cls=.type "tuple" /\ o.data=.seq its n/\its.size<=sizeLine/\cV xs its.toList
def aDP:Value->Option V
 | .none=>some .non
 | .bool b=>some (.bl b)
 | .int i _=>some (.int i)
 | .str x _=>some (.str x)
 | .bytes b _=>some (.byt b)
 | .float b _=>some (.flt b)
 | .ref a=>some (.ref a)
 | .type n=>some (.ty n)
 | _=>none
theorem dH.abs{x:V}{u:Value}(r:dH x u):aDP u=some x:=by
 cases x with
 | non=>cases r;rfl
 | bl _=>cases r;rfl
 | int _=>obtain ⟨t,rfl⟩:=r;rfl
 | str _=>obtain ⟨t,rfl⟩:=r;rfl
 | byt _=>obtain ⟨t,rfl⟩:=r;rfl
 | flt _=>obtain ⟨t,rfl⟩:=r;rfl
 | ref _=>cases r;rfl
 | ty _=>cases r;rfl
theorem dH.inj{x y:V}{u:Value}(r:dH x u)(q:dH y u):x=y:=eB (r.abs.symm.trans q.abs)
theorem cV.inj:∀{xs ys:List V}{us:List Value},cV xs us->cV ys us->xs=ys
 | _,_,_,.nil,.nil=>rfl
 | _,_,_,.cons r t,.cons r' t'=>by rw [r.inj r',cV.inj t t']
section
variable{X:Cx}{pins:List (Addr × Obj)}{σ:St}{H:Hp}{s:Shared}{a:Addr}{xs ys:List V}
theorem fS.of{K:PySem.W.Frag}(h:H a=some (.lst xs)):fS K H a xs:=.inl (.inl h)
theorem eZ.of{K:PySem.W.Frag}(h:H a=some (.tup xs)):eZ K H a xs:=.inl (.inl h)
theorem cE.list(I:cE X pins σ H s)(h:fS X.K H a xs):∃its:List Value,cV xs its/\PlainL s.heap a its.toArray/\xs.length<=sizeLine:=by
 rcases h with h | ⟨o,its,n,hk,hc,hd,hs,hz,r⟩
 ·obtain ⟨z,its,n,r,e⟩:=h.ok I.hok;exact ⟨its,r,⟨_,n,e,rfl,rfl,rfl⟩,z⟩
 ·refine ⟨its.toList,r,⟨o,n,I.kIn a o hk,hc,hd,by simpa using hs⟩,?_⟩;have e:=r.length;simp only [Array.length_toList] at e;omega
theorem cE.tuple(I:cE X pins σ H s)(h:eZ X.K H a xs):∃its:List Value,cV xs its/\IsTup s.heap a its.toArray/\xs.length<=sizeLine:=by
 rcases h with h | ⟨o,its,n,hk,hc,hs,hz,r⟩
 ·obtain ⟨⟨z,_⟩,its,r,p⟩:=h.ok I.hok;exact ⟨its,r,p,z⟩
 ·refine ⟨its.toList,r,⟨o,I.kIn a o hk,hc,n,by simpa using hs⟩,?_⟩;have e:=r.length;simp only [Array.length_toList] at e;omega
theorem cE.list_inj(I:cE X pins σ H s)(h:fS X.K H a xs)(h':fS X.K H a ys):xs=ys:=by
 obtain ⟨its,r,⟨o,n,e,_,_,d⟩,_⟩:=I.list h;obtain ⟨its',r',⟨o',n',e',_,_,d'⟩,_⟩:=I.list h';rw [e] at e';cases e';rw [d] at d';injection d' with d1 _;have:its=its':=by simpa using congrArg Array.toList d1
 subst this;exact r.inj r'
theorem cE.tuple_inj(I:cE X pins σ H s)(h:eZ X.K H a xs)(h':eZ X.K H a ys):xs=ys:=by
 obtain ⟨its,r,⟨o,e,_,n,d⟩,_⟩:=I.tuple h;obtain ⟨its',r',⟨o',e',_,n',d'⟩,_⟩:=I.tuple h';rw [e] at e';cases e';rw [d] at d';injection d' with d1 _;have:its=its':=by simpa using congrArg Array.toList d1
 subst this;exact r.inj r'
end
abbrev Cx.wish(X:Cx)(E:Value->Shared->Prop):Cx:={ X with xe:=E }
abbrev Cx.nox(X:Cx):Cx:=X.wish λ_ _=>False
theorem Cx.Ok.wish{X:Cx}(ok:X.Ok)(E:Value->Shared->Prop):(X.wish E).Ok :=
 ⟨ok.mod,ok.kind,ok.glob,ok.blt,ok.above,ok.inj,ok.has,ok.cab,ok.hd,ok.frames,ok.stk,ok.exf,ok.bs,ok.bsz,ok.noex,ok.exfs,ok.funs,ok.frf⟩
theorem Cx.Ok.unwish{X:Cx}{E:Value->Shared->Prop}(ok:(X.wish E).Ok):X.Ok :=
 ⟨ok.mod,ok.kind,ok.glob,ok.blt,ok.above,ok.inj,ok.has,ok.cab,ok.hd,ok.frames,ok.stk,ok.exf,ok.bs,ok.bsz,ok.noex,ok.exfs,ok.funs,ok.frf⟩
section
variable{X:Cx}{pins:List (Addr × Obj)}{σ:St}{H:Hp}{s:Shared}{E:Value->Shared->Prop}
theorem cE.wish(I:cE X pins σ H s)(E:Value->Shared->Prop):cE (X.wish E) pins σ H s:=⟨I.ok.wish E,I.os,I.bare,I.base,I.loc,I.cell,I.free,I.freeC,I.pin,I.hok,I.len⟩
theorem cE.unwish(I:cE (X.wish E) pins σ H s):cE X pins σ H s:=⟨I.ok.unwish,I.os,I.bare,I.base,I.loc,I.cell,I.free,I.freeC,I.pin,I.hok,I.len⟩
theorem SP.unwish{D:tI}{f:Flow}{s':Shared}(h:SP (X.wish E) pins D f s'):SP X pins D f s':=by
 cases f with
 | next=>obtain ⟨σ',H',I,q⟩:=h;exact ⟨σ',H',I.unwish,q⟩
 | brk=>obtain ⟨σ',H',I,q⟩:=h;exact ⟨σ',H',I.unwish,q⟩
 | cont=>obtain ⟨σ',H',I,q⟩:=h;exact ⟨σ',H',I.unwish,q⟩
 | ret u=>obtain ⟨v,σ',H',I,r,q⟩:=h;exact ⟨v,σ',H',I.unwish,r,q⟩
theorem PE.nox{e:Expr}{t:TE}(h:PE X.nox e t):PE X e t:=λpins s σ H Q I hw =>
 wpAny_mono (h pins s σ H Q (I.wish _) hw) (λ_ _ ⟨v,H',I',r,q⟩=>⟨v,H',I'.unwish,r,q⟩) λ_ _ z=>False.elim z
theorem GF.nox{st:List Stmt}{t:TS}(h:GF X.nox st t):GF X st t:=λpins s σ H D I hw =>
 wpAny_mono (h pins s σ H D (I.wish _) hw) (λ_ _ q=>q.unwish) λ_ _ z=>False.elim z
end
section
variable{X:Cx}{st:Stmt}{rest:List Stmt}{t u:TS}{e:Expr}{te:TE}{pos:Pos}
def VR:TS:=λD σ H=>D.nx σ H
def aBh(t u:TS):TS:=λD σ H=>t { D with nx:=u D } σ H
theorem pss_nil:GF X [] VR:=λ_ _ σ H _ I h=>wpAny_execs_nil ⟨σ,H,I,h⟩
theorem ND(h1:PS X st t)(h2:GF X rest u):GF X (st::rest) (aBh t u):=by
 intro pins s σ H D I h;refine wpAny_execs_cons (thn (h1 pins s σ H { D with nx:=u D } I h) λf s1 q=>?_);cases f with
 | next =>
  obtain ⟨σ',H',I',q⟩:=q;exact h2 pins s1 σ' H' D I' q
 | ret v=>exact q
 | brk=>exact q
 | cont=>exact q
theorem SQ(h1:PS X st t):GF X [st] t:=by
 intro pins s σ H D I h;refine wpAny_execs_cons (thn (h1 pins s σ H D I h) λf s1 q=>?_);cases f with
 | next=>exact wpAny_execs_nil q
 | ret v=>exact q
 | brk=>exact q
 | cont=>exact q
theorem cE.quiet{pins:List (Addr × Obj)}{σ:St}{H:Hp}{s:Shared}(I:cE X pins σ H s):interactive X.env=false:=by simp [interactive,I.ok.kind]
def VS(te:TE):TS:=λD σ H=>te σ H λ_ H1=>D.nx σ H1
theorem SR(he:PE X e te)(hs:swapsWith e none pos.line X.env=pure false:=by rfl):PS X (.Expr e pos) (VS te):=by
 intro pins s σ H D I h;exact wpAny_Expr_any (thn (he pins s σ H _ I h) λv s1 ⟨x,H1,I1,r1,q1⟩=>⟨σ,H1,I1,q1⟩) I.quiet hs
def aBi(te:TE):TS:=λD σ H=>te σ H D.rt
theorem ZE(he:PE X e te):PS X (.Return (some e) pos) (aBi te):=by
 intro pins s σ H D I h;exact wpAny_Return_some (thn (he pins s σ H _ I h) λv s1 ⟨x,H1,I1,r1,q1⟩=>⟨x,σ,H1,I1,r1,q1⟩)
def aBm(c:TT)(t u:TS):TS:=λD σ H=>c σ H λb H1=>if b=true then t D σ H1 else u D σ H1
theorem aBJ{c:Expr}{a b:List Stmt}{tc:TT}(hc:PT X c tc)(ha:GF X a t)(hb:GF X b u):PS X (.If c a b pos) (aBm tc t u):=by
 intro pins s σ H D I h;refine wpAny_If (thn (hc pins s σ H _ I h) λd s1 ⟨H1,I1,q1⟩=>?_);cases d with
 | true=>exact ha pins s1 σ H1 D I1 q1
 | false=>exact hb pins s1 σ H1 D I1 q1
end
abbrev TG:=V->St->Hp->(St->Hp->Prop)->Prop
abbrev QE:=List V->St->Hp->(St->Hp->Prop)->Prop
def PG(X:Cx)(target:Expr)(t:TG):Prop :=
 ∀(pins:List (Addr × Obj)) (s:Shared) (σ:St) (H:Hp) (v:V) (u:Value) (Q:St->Hp->Prop),cE X pins σ H s->dH v u->t v σ H Q ->
  wpAny (model X.prog X.w) X.A (assign target X.env u) (λ_ s'=>∃σ' H',cE X pins σ' H' s'/\Q σ' H') X.xe s
def PGs(X:Cx)(ts:List Expr)(t:QE):Prop :=
 ∀(pins:List (Addr × Obj)) (s:Shared) (σ:St) (H:Hp) (vs:List V) (us:List Value) (Q:St->Hp->Prop),cE X pins σ H s->cV vs us->t vs σ H Q ->
  wpAny (model X.prog X.w) X.A (assignInOrder ((assignEach ts X.env).map (·.2)) us) (λ_ s'=>∃σ' H',cE X pins σ' H' s'/\Q σ' H') X.xe s
abbrev VF:=V->V->V->Hp->(Hp->Prop)->Prop
def aAX(X:Cx)(t:VF):Prop :=
 ∀(pins:List (Addr × Obj)) (s:Shared) (σ:St) (H:Hp) (o i v:V) (ov iv u:Value) (Q:Hp->Prop),cE X pins σ H s->dH o ov->dH i iv->dH v u->t o i v H Q ->
  wpAny (model X.prog X.w) X.A (setItem ov iv u) (λ_ s'=>∃H',cE X pins σ H' s'/\Q H') X.xe s
section
variable{X:Cx}{pos:Pos}
def rH(i:Nat):TG:=λv σ H Q=>Q (σ.set i (some v)) H
theorem SX{i:Nat}{x:Str}(hN:X.N.Nodup)(hi:X.N[i]?=some x)(hx:Loc X.env.scope x)(hf:X.fn x=true\/X.env.scope.names.lookup x=some .local:=by first | exact .inl rfl | exact .inr rfl | assumption):PG X (.Name x pos) (rH i):=by
 intro pins s σ H v u Q I r h;exact wpAny_assign_Name (nO I hN hi hx r (λs' I'=>⟨_,H,I',h⟩) hf)
def aAy:QE:=λvs σ H Q=>vs=[]/\Q σ H
def OO(t:TG)(u:QE):QE:=λvs σ H Q=>∃v r,vs=v::r/\t v σ H λσ' H'=>u r σ' H' Q
theorem pgs_nil:PGs X [] aAy:=by
 intro pins s σ H vs us Q I r h;obtain ⟨e,h⟩:=h;subst e;cases r;exact assignInOrder_nil ⟨σ,H,I,h⟩
theorem NI{e:Expr}{es:List Expr}{t:TG}{u:QE}(h1:PG X e t)(h2:PGs X es u)
  (hs:(assignEach (e::es) X.env).map (·.2)=assign e X.env::(assignEach es X.env).map (·.2):=by rfl):PGs X (e::es) (OO t u):=by
 intro pins s σ H vs us Q I r h;obtain ⟨v,vr,e1,h⟩:=h;subst e1;cases r with
 | cons r rr =>
  rw [hs];refine assignInOrder_cons (thn (h1 pins s σ H _ _ _ I r h) λ_ s1 ⟨σ1,H1,I1,q1⟩=>?_);exact h2 pins s1 σ1 H1 _ _ Q I1 rr q1
def aAw(K:PySem.W.Frag)(n:Nat)(t:QE):TG:=λv σ H Q=>∃a xs,v=.ref a/\eZ K H a xs/\xs.length=n/\t xs σ H Q
theorem ZN{es:List Expr}{k:Nat}{t:QE}{n:Nat}(hc:X.calm=true)(h:PGs X es t)
  (hn:(assignEach es X.env).length=n:=by rfl) (hst:(assignEach es X.env).findIdx? (·.1)=none:=by rfl):PG X (.Tuple es k pos) (aAw X.K n t):=by
 intro pins s σ H v u Q I r hw;obtain ⟨a,xs,e1,hq,hl,hw⟩:=hw;subst e1;cases r;obtain ⟨its,rv,ht,hz⟩:=I.tuple hq;refine assign_Tuple_tuple (I.ok.hd hc) ht (by simp [hn,<-hl,rv.length]) hst λh' hx=>?_;have I1:cE X pins σ H { s with heap:=h' }:=I.kept (t':=s.toks) λb o e=>hx b o (bW (aX e)) e;exact h pins _ σ H xs _ Q I1 (by simpa using rv) hw
def aB0(to ti:TE)(t:VF):TG:=λv σ H Q=>to σ H λo H1=>ti σ H1 λi H2=>t o i v H2 λH3=>Q σ H3
theorem ZO{o i:Expr}{to ti:TE}{t:VF}(ho:PE X o to)(hi:PE X i ti)(hs:aAX X t)
  (ha:∀v,assign (.Subscript o i pos) X.env v=(do
   let ov <-holding [v] (eval o X.env)
   let iv <-holding [v,ov] (eval i X.env)
   standAt pos
   holding [v,ov,iv] (setItem ov iv v)
   release [v,ov,iv] []):=by intro _;rfl):PG X (.Subscript o i pos) (aB0 to ti t):=by
 intro pins s σ H v u Q I r h;rw [ha];refine wpAny_bind (wpAny_holding (thn (ho pins s σ H _ I h) λov s1 ⟨x,H1,I1,r1,q1⟩=>?_));refine wpAny_bind (wpAny_holding (thn (hi pins s1 σ H1 _ I1 q1) λiv s2 ⟨y,H2,I2,r2,q2⟩=>?_));refine wpAny_bind (wpAny_standAt (wpAny_bind (wpAny_holding (thn (hs pins s2 σ H2 x y v ov iv u _ I2 r1 r2 r q2) λ_ s3 ⟨H3,I3,q3⟩=>?_))));exact wpAny_release ⟨σ,H3,I3,q3⟩
def IW(te:TE)(g:TG):TS:=λD σ H=>te σ H λx H1=>g x σ H1 D.nx
theorem ZI{tg e:Expr}{te:TE}{g:TG}(he:PE X e te)(hg:PG X tg g)(hs:swapsWithSole [tg] e pos.line X.env=pure false:=by rfl)(hw:swappedStores [tg] e X.env=pure none:=by rfl)
  (h1:(assignEach [tg] X.env).map (·.2)=[assign tg X.env]:=by rfl):PS X (.Assign [tg] e pos) (IW te g):=by
 intro pins s σ H D I h;refine wpAny_Assign_stores (thn (he pins s σ H _ I h) λv s1 ⟨x,H1,I1,r1,q1⟩=>?_) hs hw;rw [h1];exact thn (hg pins s1 σ H1 x v _ I1 r1 q1) λ_ s2 q=>q
theorem ZC{i:Nat}{x:Str}{e:Expr}{te:TE}{pos':Pos}(hN:X.N.Nodup)(hi:X.N[i]?=some x)(hx:Loc X.env.scope x)(he:PE X e te)(hs:swapsWith e (some (.Name x pos')) pos.line X.env=pure false:=by rfl)(hf:X.fn x=true\/X.env.scope.names.lookup x=some .local:=by first | exact .inl rfl | exact .inr rfl | assumption) :
  PS X (.Assign [.Name x pos'] e pos) (IW te (rH i)):=by
 intro pins s σ H D I h;refine wpAny_Assign_Name (thn (he pins s σ H _ I h) λv s1 ⟨y,H1,I1,r1,q1⟩=>?_) hs;exact nO I1 hN hi hx r1 (λs2 I2=>⟨_,H1,I2,q1⟩) hf
def aBj(i j:Nat)(ta:TA):TS:=λD σ H=>ta σ H λvs H1=>∃v w,vs=[v,w]/\D.nx ((σ.set i (some v)).set j (some w)) H1
theorem ZF{i j:Nat}{x y:Str}{a b:Expr}{ta:TA}{px py pt:Pos}{kt k2 pt2}(hc:X.calm=true)(hN:X.N.Nodup)(hi:X.N[i]?=some x)(hj:X.N[j]?=some y)(hij:i≠j)
  (hx:X.env.scope.names.lookup x=some .local) (hy:X.env.scope.names.lookup y=some .local) (ha:PA X [a,b] ta)
  (hw:swappedStores [.Tuple [.Name x px,.Name y py] kt pt] (.Tuple [a,b] k2 pt2) X.env=pure (some [x,y]))
  (hs:swapsWithSole [.Tuple [.Name x px,.Name y py] kt pt] (.Tuple [a,b] k2 pt2) pos.line X.env=pure false:=by rfl) :
  PS X (.Assign [.Tuple [.Name x px,.Name y py] kt pt] (.Tuple [a,b] k2 pt2) pos) (aBj i j ta):=by
 intro pins s σ H D I h;rw [exec_Assign_arm];refine wpAny_bind (wpAny_standAt ?_);rw [hs];refine wpAny_bind (wpAny_pure ?_);rw [if_neg Dd];refine wpAny_bind (Tuple_ (thn (ha _ pins s σ H _ I h) λus s1 ⟨vs,H1,I1,r1,q1⟩=>?_));obtain ⟨v,w,e1,q1⟩:=q1;subst e1;obtain ⟨u1,u2,rfl,rv,rw'⟩:∃u1 u2,us=[u1,u2]/\dH v u1/\dH w u2:=by
  cases r1 with
  | cons p q =>
   cases q with
   | cons p' q' =>
    cases q';exact ⟨_,_,rfl,p,p'⟩
 refine wpAny_newObj_type ?_ (by show 2<=sizeLine;decide);have I2:cE X pins σ H1 { s1 with heap:=s1.heap.push { cls:=.type "tuple",data:=.seq [u1,u2].toArray } }:=I1.kept (t':=s1.toks) λb o e=>aB _ e;rw [hw];refine wpAny_bind (wpAny_pure ?_);show wpAny (model X.prog X.w) X.A (do rule "assign.swapped-stores";let items <-unpackItems (.ref s1.heap.objs.size) 2 none;assignInOrder [λv=>bindName X.env y v,λv=>bindName X.env x v] items.reverse;pure Flow.next) _ _ _;refine wpAny_bind (wpAny_rule (wpAny_bind (unpackItems_tuple (items:=#[u1,u2]) (I.ok.hd hc) (IsTup.new s1.heap _) λh' hx'=>?_)));have I3:=I2.kept (h':=h') (t':=s1.toks) λb o e=>hx' b o (bW (aX e)) e;show wpAny _ _ (assignInOrder [λv=>bindName X.env y v,λv=>bindName X.env x v] [u2,u1] >>= λ_=>pure Flow.next) _ _ _;refine wpAny_bind (assignInOrder_cons (wpAny_bindName (nO I3 hN hj (.inl hy) rw' (λs2 I4=>?_) (.inr hy))));refine assignInOrder_cons (wpAny_bindName (nO I4 hN hi (.inl hx) rv (λs3 I5=>assignInOrder_nil (wpAny_pure ?_)) (.inr hx)));rw [List.set_comm _ _ (Ne.symm hij)] at I5;exact ⟨_,H1,I5,q1⟩
end
section
variable{X:Cx}{pos:Pos}
def zR(c:TT)(tb:TS):TS:=λD σ H=>∃W:Nat->St->Hp->Prop,(∃m,W m σ H)/\∀m σ H,W m σ H ->
 c σ H λb H1=>if b=true then ∃N:St->Hp->Prop,(∀σ' H',N σ' H'->∃m',m' < m/\W m' σ' H')/\tb { D with nx:=N,ct:=N,bk:=D.nx } σ H1 else D.nx σ H1
theorem NE{c:Expr}{body:List Stmt}{tc:TT}{tb:TS}(hp:PassesOwn (model X.prog X.w) X.A X.env X.xe)(hc:PT X c tc)(hb:GF X body tb):PS X (.While c body [] pos) (zR tc tb):=by
 intro pins s σ H D I h;obtain ⟨W,⟨m0,w0⟩,turn⟩:=h;refine wpAny_While (codeAny_whileLoop (λn s'=>∃σ' H',cE X pins σ' H' s'/\W n σ' H') ?_ m0 ⟨σ,H,I,w0⟩);rintro n s1 ⟨σ1,H1,I1,w1⟩;refine wpAny_passesOwn hp (thn (hc pins s1 σ1 H1 _ I1 (turn n σ1 H1 w1)) λb s2 ⟨H2,I2,q2⟩=>?_);cases b with
 | true =>
  obtain ⟨N,hN,q2⟩:=q2;rw [if_pos rfl];refine wpAny_passesOwn hp (thn (hb pins s2 σ1 H2 _ I2 q2) λf s3 q3=>?_);cases f with
  | next =>
   obtain ⟨σ3,H3,I3,n3⟩:=q3;obtain ⟨m',hm,w3⟩:=hN σ3 H3 n3;exact ⟨m',hm,σ3,H3,I3,w3⟩
  | cont =>
   obtain ⟨σ3,H3,I3,n3⟩:=q3;obtain ⟨m',hm,w3⟩:=hN σ3 H3 n3;exact ⟨m',hm,σ3,H3,I3,w3⟩
  | brk=>exact q3
  | ret v=>exact q3
 | false =>
  rw [if_neg bI];exact wpAny_execs_nil ⟨σ1,H2,I2,q2⟩
end
structure It where
 go:Nat->Hp->Prop
 yld:Nat->Hp->V->Hp->Prop
 stop:Nat->Hp->Prop
def jP(X:Cx)(pins:List (Addr × Obj))(H:Hp)(b:Addr):Prop :=
 H b=none/\b≠X.env.locals/\b ∉ X.fs/\(b∈X.ex\/X.s₀.heap.objs.size<=b)/\(∀x c,X.env.cells.lookup x=some c->c≠b)/\∀p∈X.pn++pins,p.1≠b
theorem cE.fpOk{X:Cx}{pins:List (Addr × Obj)}{σ:St}{H H':Hp}{s:Shared}{b:Addr}(I:cE X pins σ H s)(hb:s.heap.objs.size<=b)(hn:H' b=none):jP X pins H' b:=by
 refine ⟨hn,Nat.ne_of_gt (aV I.lt hb),I.nofs hb,.inr (aQ I.sz hb),λx c e z=>?_,λp hp z=>?_⟩
 ·obtain ⟨v,q⟩:=I.cell x c e;exact absurd (aV q.lt (by rw [z];exact hb)) (cP _)
 ·exact absurd (aV (aX (I.pin p hp).1) (by rw [z];exact hb)) (cP _)
structure GC(P:Program)(w:World)(K:PySem.W.Frag)(tg:Expr)(J:It)(fp:List Addr)(it:Addr)(tn:Nat->Heap->Prop):Prop where
 mem:it∈fp
 obj:∀i h,tn i h->∀b∈fp,∃o,h.get? b=some o/\∀v,o.data ≠ .cell v
 keep:∀i h h',tn i h->(∀b∈fp,∀o,h.get? b=some o->h'.get? b=some o)->tn i h'
 item:∀(X:Cx),X.prog=P->X.w=w->X.K=K->X.calm=true->∀(i:Nat) (pins:List (Addr × Obj)) (s:Shared) (σ:St) (H:Hp) (E:Value->Shared->Prop),cE X pins σ H s->(∀b∈fp,jP X pins H b)->tn i s.heap->J.go i H ->
  wpAny (model P w) X.A (pyNext (.ref it)) (λr s1=>∃u,r=some u /\
   wpAny (model P w) X.A (letOwnedTupleGo tg (.ref it) u) (λ_ s2=>∃x H',cE X pins σ H' s2/\dH x u/\J.yld i H x H'/\tn (i+1) s2.heap/\∀b∈fp,H' b=none) E s1) E s
 done:∀(X:Cx),X.prog=P->X.w=w->X.K=K->X.calm=true->∀(i:Nat) (pins:List (Addr × Obj)) (s:Shared) (σ:St) (H:Hp) (E:Value->Shared->Prop),cE X pins σ H s->(∀b∈fp,jP X pins H b)->tn i s.heap->J.stop i H ->
  wpAny (model P w) X.A (pyNext (.ref it)) (λr s1=>r=none/\cE X pins σ H s1) E s
 self:∀(A:Around) (i:Nat) (s:Shared) (Q:Value->Shared->Prop) (E:Value->Shared->Prop),tn i s.heap->Q (.ref it) s->wpAny (model P w) A (pyIter (.ref it)) Q E s
abbrev TI:=St->Hp->(It->Hp->Prop)->Prop
def PIE(X:Cx)(pins:List (Addr × Obj))(σ:St)(tg:Expr)(R:It->Hp->Prop)(itv:Value)(s2:Shared):Prop :=
 ∃(it:Addr) (fp:List Addr) (tn:Nat->Heap->Prop) (J:It) (H':Hp),itv=.ref it/\cE X pins σ H' s2/\GC X.prog X.w X.K tg J fp it tn/\tn 0 s2.heap/\(∀b∈fp,jP X pins H' b)/\R J H'
def PI(X:Cx)(tg iter:Expr)(wi:TI):Prop :=
 ∀(pins:List (Addr × Obj)) (s:Shared) (σ:St) (H:Hp) (R:It->Hp->Prop),cE X pins σ H s->wi σ H R ->
  wpAny (model X.prog X.w) X.A (eval iter X.env) (λv s1=>wpAny (model X.prog X.w) X.A (pyIter v) (PIE X pins σ tg R) X.xe s1) X.xe s
theorem ON{M:Model}{A:Around}{E:Value->Shared->Prop}{s:Shared}{tg:Expr}{it:Addr}{u:Value}{o:Obj}{n:String}{vs:Array Value}{Q:Unit->Shared->Prop}(ho:s.heap.get? it=some o)(hc:o.cls=.type n)(hd:o.data=.fields vs)
    (hn:["enumerate","zip","dict_itemiterator","dict_reverseitemiterator","odict_iterator","itertools.zip_longest","itertools.pairwise"].contains n=false) (hQ:Q () s):wpAny M A (letOwnedTupleGo tg (.ref it) u) Q E s:=by
  unfold letOwnedTupleGo;cases tg <;> first
    | exact wpAny_pure hQ
    | (cases u <;> first
        | exact wpAny_pure hQ
        | (refine wpAny_bind (wpAny_load ho ?_)
           rw [hc,hd];show wpAny M A (if (["enumerate","zip","dict_itemiterator","dict_reverseitemiterator","odict_iterator","itertools.zip_longest","itertools.pairwise"].contains n&&vs[0]? == some (rawInt _))=true then _ else _) Q E s;rw [if_neg (by intro h;rw [hn,Bool.false_and] at h;cases h)];exact wpAny_pure hQ))
def Itl(K:PySem.W.Frag)(a:Addr):It :=
 ⟨λi H=>∃xs x,fS K H a xs/\xs[i]?=some x,λi H x H'=>H'=H/\∀xs,fS K H a xs->xs[i]?=some x,λi H=>∃xs,fS K H a xs/\xs.length<=i⟩
def Itt(K:PySem.W.Frag)(a:Addr):It :=
 ⟨λi H=>∃xs x,eZ K H a xs/\xs[i]?=some x,λi H x H'=>H'=H/\∀xs,eZ K H a xs->xs[i]?=some x,λi H=>∃xs,eZ K H a xs/\xs.length<=i⟩
def XA(lo:Int)(n:Nat):It:=⟨λi _=>i<n,λi H x H'=>H'=H/\x=.int (lo+i),λi _=>n<=i⟩
theorem IU{P:Program}{w:World}{K:PySem.W.Frag}{tg:Expr}(a it:Addr):GC P w K tg (Itl K a) [it] it (λi h=>h.IsListIter it a i) where
 mem:=by simp
 obj:=λi h st b hb=>by
  have e:b=it:=by simpa using hb
  subst e;obtain ⟨o,e,c,d⟩:=st;exact ⟨o,e,λv z=>by rw [d] at z;cases z⟩
 keep:=λi h h' st k=>st.at λo e=>k it (by simp) o e
 item:=by
  intro X hP hw hK hc i pins s σ H E I hf st hg;subst hP hw hK;obtain ⟨xs,x,hq,hx⟩:=hg;obtain ⟨its,rv,p,hz⟩:=I.list hq;obtain ⟨u,hu,ru⟩:=rv.get hx;obtain ⟨f0,f1,f2,f3,f4,f5⟩:=hf it (by simp);refine wpAny_pyNext_list_item st p.isList (x:=u) (by simpa using hu) λh' st' sb=>?_;have I1:cE X pins σ H { s with heap:=h' }:=I.turned (t':=s.toks) (λb o hb e=>(sb.2 b hb).trans e) f0 f1 f3 f4 f5;obtain ⟨o,e,c,d⟩:=id st';exact ⟨u,rfl,ON (s:={ s with heap:=h' }) e c d Dd ⟨x,H,I1,ru,⟨rfl,λys hy=>by rw [I.list_inj hy hq];exact hx⟩,st',λb hb=>(hf b hb).1⟩⟩
 done:=by
  intro X hP hw hK hc i pins s σ H E I hf st hg;subst hP hw hK;obtain ⟨xs,hq,hx⟩:=hg;obtain ⟨its,rv,p,hz⟩:=I.list hq;obtain ⟨f0,f1,f2,f3,f4,f5⟩:=hf it (by simp);have hl:=rv.length;exact wpAny_pyNext_list_end (I.ok.hd hc) st p.isList (by simp;omega) λh' eb=>⟨rfl,I.turned (t':=s.toks) (λb o hb e=>eb b o hb e) f0 f1 f3 f4 f5⟩
 self:=λ_ _ _ _ _ st h=>wpAny_pyIter_listiter st h
theorem EH{P:Program}{w:World}{K:PySem.W.Frag}{tg:Expr}(a it:Addr):GC P w K tg (Itt K a) [it] it (λi h=>h.IsTupleIter it a i) where
 mem:=by simp
 obj:=λi h st b hb=>by
  have e:b=it:=by simpa using hb
  subst e;obtain ⟨o,e,c,d⟩:=st;exact ⟨o,e,λv z=>by rw [d] at z;cases z⟩
 keep:=λi h h' st k=>st.at λo e=>k it (by simp) o e
 item:=by
  intro X hP hw hK hc i pins s σ H E I hf st hg;subst hP hw hK;obtain ⟨xs,x,hq,hx⟩:=hg;obtain ⟨its,rv,p,hz⟩:=I.tuple hq;obtain ⟨u,hu,ru⟩:=rv.get hx;obtain ⟨f0,f1,f2,f3,f4,f5⟩:=hf it (by simp);refine wpAny_pyNext_tuple_item st (show s.heap.IsTuple a its.toArray from p) (x:=u) (by simpa using hu) λh' st' sb=>?_;have I1:cE X pins σ H { s with heap:=h' }:=I.turned (t':=s.toks) (λb o hb e=>(sb.2 b hb).trans e) f0 f1 f3 f4 f5;obtain ⟨o,e,c,d⟩:=id st';exact ⟨u,rfl,ON (s:={ s with heap:=h' }) e c d Dd ⟨x,H,I1,ru,⟨rfl,λys hy=>by rw [I.tuple_inj hy hq];exact hx⟩,st',λb hb=>(hf b hb).1⟩⟩
 done:=by
  intro X hP hw hK hc i pins s σ H E I hf st hg;subst hP hw hK;obtain ⟨xs,hq,hx⟩:=hg;obtain ⟨its,rv,p,hz⟩:=I.tuple hq;obtain ⟨f0,f1,f2,f3,f4,f5⟩:=hf it (by simp);have hl:=rv.length;exact wpAny_pyNext_tuple_end (I.ok.hd hc) st (show s.heap.IsTuple a its.toArray from p) (by simp;omega) λh' eb=>⟨rfl,I.turned (t':=s.toks) (λb o hb e=>eb b o hb e) f0 f1 f3 f4 f5⟩
 self:=λ_ _ _ _ _ st h=>wpAny_pyIter_tupleiter st h
theorem EI{P:Program}{w:World}{K:PySem.W.Frag}{tg:Expr}(it:Addr)(lo:Int)(n:Nat):GC P w K tg (XA lo n) [it] it (λi h=>IsRangeIter h it (lo+(i:Nat)*1) ((n:Int)-(i:Nat)) 1) where
 mem:=by simp
 obj:=λi h st b hb=>by
  have e:b=it:=by simpa using hb
  subst e;exact ⟨_,st,λv z=>by
   have z':Data.fields _=Data.cell v:=z;cases z'⟩
 keep:=λi h h' st k=>k it (by simp) _ st
 item:=by
  intro X hP hw hK hc i pins s σ H E I hf st hg;subst hP hw hK;obtain ⟨f0,f1,f2,f3,f4,f5⟩:=hf it (by simp);have W:=Walks.range (prog:=X.prog) (w:=X.w) (I.ok.hd hc) it lo 1 n;refine W.item i s _ _ hg st λv h' tk hv st' kk=>?_;obtain ⟨t,rfl⟩:=hv;have I1:cE X pins σ H { s with heap:=h',toks:=tk }:=I.turned (λb o hb e=>kk b o (by simpa using hb) e) f0 f1 f3 f4 f5;refine ⟨_,rfl,ON (s:={ s with heap:=h',toks:=tk }) (n := "range_iterator") st' rfl rfl Dd ⟨.int (lo+i),H,I1,⟨t,?_⟩,⟨rfl,rfl⟩,st',λb hb=>(hf b hb).1⟩⟩;rw [Int.mul_one]
 done:=by
  intro X hP hw hK hc i pins s σ H E I hf st hg;subst hP hw hK;obtain ⟨f0,f1,f2,f3,f4,f5⟩:=hf it (by simp);exact wpAny_pyNext_range_end (I.ok.hd hc) st (by have:n<=i:=hg;omega) λh' eb=>⟨rfl,I.turned (t':=s.toks) (λb o hb e=>eb b o hb e) f0 f1 f3 f4 f5⟩
 self:=λ_ _ _ _ _ st h=>wpAny_pyIter_rangeiter st h
section
variable{X:Cx}{tg:Expr}
def WL(K:PySem.W.Frag)(tl:TE):TI:=λσ H R=>tl σ H λx H1=>∃a,x=.ref a/\(∃xs,fS K H1 a xs)/\R (Itl K a) H1
def aBY(K:PySem.W.Frag)(tl:TE):TI:=λσ H R=>tl σ H λx H1=>∃a,x=.ref a/\(∃xs,eZ K H1 a xs)/\R (Itt K a) H1
theorem SV{l:Expr}{tl:TE}(hl:PE X l tl):PI X tg l (WL X.K tl):=by
 intro pins s σ H R I h;refine thn (hl pins s σ H _ I h) λv s1 ⟨x,H1,I1,r1,q1⟩=>?_;obtain ⟨a,e,⟨xs,hq⟩,q⟩:=q1;subst e;cases r1;obtain ⟨its,rv,p,hz⟩:=I1.list hq;refine wpAny_pyIter_list p.isList ?_;refine ⟨s1.heap.objs.size,[s1.heap.objs.size],_,_,H1,rfl,I1.kept (t':=s1.toks) λb o e=>aB _ e,IU a _,⟨_,aY _ rfl,rfl,rfl⟩,λb hb=>?_,q⟩;have e:b=s1.heap.objs.size:=by simpa using hb
 subst e;exact I1.fpOk (aJ _) (I1.hok.fresh (aJ _))
theorem ZL{l:Expr}{tl:TE}(hl:PE X l tl):PI X tg l (aBY X.K tl):=by
 intro pins s σ H R I h;refine thn (hl pins s σ H _ I h) λv s1 ⟨x,H1,I1,r1,q1⟩=>?_;obtain ⟨a,e,⟨xs,hq⟩,q⟩:=q1;subst e;cases r1;obtain ⟨its,rv,p,hz⟩:=I1.tuple hq;refine wpAny_pyIter_tuple (show s1.heap.IsTuple a its.toArray from p) ?_;refine ⟨s1.heap.objs.size,[s1.heap.objs.size],_,_,H1,rfl,I1.kept (t':=s1.toks) λb o e=>aB _ e,EH a _,⟨_,aY _ rfl,rfl,rfl⟩,λb hb=>?_,q⟩;have e:b=s1.heap.objs.size:=by simpa using hb
 subst e;exact I1.fpOk (aJ _) (I1.hok.fresh (aJ _))
theorem NA{pins:List (Addr × Obj)}{σ:St}{H:Hp}{s:Shared}{R:It->Hp->Prop}{E:Value->Shared->Prop}{lo hi:Int}{t u v:Tok}{tk:Nat}(I:cE X pins σ H s)(h1:-(2^62)<=lo)(h2:lo<2^62)(h3:-(2^62)<=hi)(h4:hi<2^62)
  (q:R (XA lo (hi-lo).toNat) H):wpAny (model X.prog X.w) X.A (pyIter (.ref s.heap.objs.size)) (PIE X pins σ tg R) E { s with heap:=s.heap.push { cls:=.type "range",data:=.fields #[.int lo t,.int hi u,.int 1 v] },toks:=tk }:=by
 refine wpAny_pyIter_range (IsRange.new ..) (small_one h1 h2 h3 h4) ?_;have I1:cE X pins σ H { s with heap:=s.heap.push { cls:=.type "range",data:=.fields #[.int lo t,.int hi u,.int 1 v] },toks:=tk }:=I.kept λb o e=>aB _ e;refine ⟨(s.heap.push { cls:=.type "range",data:=.fields #[.int lo t,.int hi u,.int 1 v] }).objs.size,[(s.heap.push { cls:=.type "range",data:=.fields #[.int lo t,.int hi u,.int 1 v] }).objs.size],_,_,H,rfl,
  I1.kept (t':=tk) λb o e=>aB _ e,EI _ lo (hi-lo).toNat,?_,λb hb=>?_,q⟩
 ·have e1:lo+((0:Nat):Int)*1=lo:=by simp
  have e2:(((hi-lo).toNat:Nat):Int)-((0:Nat):Int)=Builtin.Range.rangeSize lo hi 1:=by rw [rangeSize_one];split <;> omega
  show IsRangeIter _ _ (lo+((0:Nat):Int)*1) ((((hi-lo).toNat:Nat):Int)-((0:Nat):Int)) 1;rw [e1,e2];exact aY _ rfl
 ·have e:b=(s.heap.push { cls:=.type "range",data:=.fields #[.int lo t,.int hi u,.int 1 v] }).objs.size:=by simpa using hb
  subst e;exact I1.fpOk (aJ _) (I1.hok.fresh (aJ _))
def WK(ta:TA):TI:=λσ H R=>ta σ H λvs H1=>∃j:Int,vs=[.int j]/\-(2^62)<=j/\j<2^62/\R (XA 0 j.toNat) H1
theorem JS{a:Expr}{ta:TA}{p pos:Pos}(hg:Gl X "range")(hm:X.mg "range" = none)(ha:PA X [a] ta)(hs:starEach [a] X.env=[(false,eval a X.env)]:=by rfl):PI X tg (.Call (.Name "range" p) [a] [] pos) (WK ta):=by
 intro pins s σ H R I h;refine Call_ (sN I hg hm boot_range (PyProof.Rows.callWith_type1 (thn (ha pos pins s σ H _ I h) λus s1 ⟨vs,H1,I1,r1,q1⟩=>?_) hs rfl));obtain ⟨j,e,q1,q2,q⟩:=q1;subst e;cases r1 with
 | cons r rr =>
  cases rr;obtain ⟨t,rfl⟩:=r;exact call_range_1 (NA I1 Oo Oo q1 q2 (by simpa using q))
def aBn(wi:TI)(g:TG)(tb:TS):TS:=λD σ H=>wi σ H λJ H1=>∃W:Nat->Nat->St->Hp->Prop,(∃m,W 0 m σ H1)/\∀i m σ H,W i m σ H ->
 (J.stop i H/\D.nx σ H)\/(J.go i H/\∃N:St->Hp->Prop,(∀σ' H',N σ' H'->∃m',m' < m/\W (i+1) m' σ' H')/\∀x H',J.yld i H x H'->g x σ H' λσ2 H2=>tb { D with nx:=N,ct:=N,bk:=D.nx } σ2 H2)
def sJ(fp:List Addr)(h:Heap):List (Addr × Obj):=fp.filterMap λb=>(h.get? b).map λo=>(b,o)
theorem jG{fp:List Addr}{h:Heap}{b:Addr}{o:Obj}(hb:b∈fp)(e:h.get? b=some o):(b,o)∈sJ fp h:=List.mem_filterMap.mpr ⟨b,hb,by rw [e];rfl⟩
theorem JW{fp:List Addr}{h:Heap}{p:Addr × Obj}(hp:p∈sJ fp h):p.1∈fp/\h.get? p.1=some p.2:=by
 obtain ⟨b,hb,e⟩:=List.mem_filterMap.mp hp;cases q:h.get? b with
 | none=>rw [q] at e;cases e
 | some o =>
  rw [q] at e;have e':(b,o)=p:=eB e;subst e';exact ⟨hb,q⟩
theorem cE.pinned{pins:List (Addr × Obj)}{σ:St}{H:Hp}{s:Shared}{fp:List Addr}(I:cE X pins σ H s)(hf:∀b∈fp,jP X pins H b)(ho:∀b∈fp,∃o,s.heap.get? b=some o/\∀v,o.data ≠ .cell v):cE X (pins++sJ fp s.heap) σ H s :=
 I.pins_of λp hp=>(dB.mp hp).elim (λz=>I.pin p (aP _ z)) λz=>by
  obtain ⟨hb,e⟩:=JW z;obtain ⟨f0,f1,f2,_⟩:=hf p.1 hb;obtain ⟨o,e',d⟩:=ho p.1 hb;rw [e] at e';cases e';exact ⟨e,f0,f1,f2,d⟩
theorem cE.unpinned{pins pl:List (Addr × Obj)}{σ:St}{H:Hp}{s:Shared}(I:cE X (pins++pl) σ H s):cE X pins σ H s:=I.pins_of λp hp=>I.pin p (aP _ (cX _ hp))
theorem ZG{iter:Expr}{body:List Stmt}{wi:TI}{g:TG}{tb:TS}{pos:Pos}(hp:PassesOwn (model X.prog X.w) X.A X.env X.xe)(hc:X.calm=true)(hi:PI X tg iter wi)(hg:PG X tg g)(hb:GF X body tb)
  (hs:∀x,foldedSetIterable iter X.env x=pure x:=by intro _;rfl):PS X (.For tg iter body [] pos) (aBn wi g tb):=by
 intro pins s σ H D I h;refine wpAny_For (thn (hi pins s σ H _ I h) λv s1 h1=>thn h1 λitv s2 h2=>?_) hs;obtain ⟨it,fp,tn,J,H2,e,I2,T,st2,f2,W,⟨m0,w0⟩,turn⟩:=h2;subst e;have stat:∀{H':Hp},(∀b∈fp,H' b=none)->∀b∈fp,jP X pins H' b:=λhn b hb=>⟨hn b hb,(f2 b hb).2⟩;refine codeAny_forLoop_any (λn s'=>∃i σ' H',cE X pins σ' H' s'/\tn i s'.heap/\(∀b∈fp,H' b=none)/\W i n σ' H') ?_ m0 ⟨0,σ,H2,I2,st2,λb hb=>(f2 b hb).1,w0⟩;rintro n s3 ⟨i,σ3,H3,I3,st3,fr3,w3⟩;rcases turn i n σ3 H3 w3 with ⟨stop,qn⟩ | ⟨go,N,hN,step⟩
 ·refine wpAny_passesOwn hp (thn (T.done X rfl rfl rfl hc i pins s3 σ3 H3 X.xe I3 (stat fr3) st3 stop) λr s4 ⟨hr,I4⟩=>?_);subst hr;exact wpAny_execs_nil ⟨σ3,H3,I4,qn⟩
 ·refine wpAny_passesOwn hp (thn (T.item X rfl rfl rfl hc i pins s3 σ3 H3 X.xe I3 (stat fr3) st3 go) λr s4 ⟨u,hr,h4⟩=>?_);subst hr;refine wpAny_passesOwn hp (thn h4 λ_ s5 ⟨x,H5,I5,r5,y5,st5,fr5⟩=>?_);have I5':=I5.pinned (stat fr5) (T.obj _ _ st5);refine wpAny_passesOwn hp (thn (hg _ s5 σ3 H5 x u _ I5' r5 (step x H5 y5)) λ_ s6 ⟨σ6,H6,I6,q6⟩=>?_);refine wpAny_passesOwn hp (thn (hb _ s6 σ6 H6 _ I6 q6) λf s7 q7=>?_);have again:∀{σ7:St} {H7:Hp},cE X (pins++sJ fp s5.heap) σ7 H7 s7->N σ7 H7->∃m,m<n/\∃i σ' H',cE X pins σ' H' s7/\tn i s7.heap/\(∀b∈fp,H' b=none)/\W i m σ' H':=λ{σ7 H7} I7 n7=>by
   obtain ⟨m',hm,w7⟩:=hN σ7 H7 n7;refine ⟨m',hm,i+1,σ7,H7,I7.unpinned,T.keep _ _ _ st5 λb hb o e=>(I7.pin (b,o) (aP _ (aP _ (jG hb e)))).1,λb hb=>?_,w7⟩;obtain ⟨o,e,d⟩:=T.obj _ _ st5 b hb;exact (I7.pin (b,o) (aP _ (aP _ (jG hb e)))).2.1
  cases f with
  | next=>obtain ⟨σ7,H7,I7,n7⟩:=q7;exact again I7 n7
  | cont=>obtain ⟨σ7,H7,I7,n7⟩:=q7;exact again I7 n7
  | brk=>obtain ⟨σ7,H7,I7,q7⟩:=q7;exact ⟨σ7,H7,I7.unpinned,q7⟩
  | ret v=>obtain ⟨x7,σ7,H7,I7,r7,q7⟩:=q7;exact ⟨x7,σ7,H7,I7.unpinned,r7,q7⟩
end
theorem iW{K:PySem.W.Frag}{a:Addr}{xs:List V}{g:TG}{tb:TS}{D:tI}{σ:St}{H:Hp}(Pv:Nat->St->Hp->Prop)(h0:Pv 0 σ H)(hl:∀i σ H,i<=xs.length->Pv i σ H->fS K H a xs)
  (hs:∀i x σ H,xs[i]?=some x->Pv i σ H->g x σ H λσ2 H2=>tb { D with nx:=Pv (i+1),ct:=Pv (i+1),bk:=D.nx } σ2 H2) (hd:∀σ H,Pv xs.length σ H->D.nx σ H) :
  ∃W:Nat->Nat->St->Hp->Prop,(∃m,W 0 m σ H)/\∀i m σ H,W i m σ H ->
   ((Itl K a).stop i H/\D.nx σ H)\/((Itl K a).go i H/\∃N:St->Hp->Prop,(∀σ' H',N σ' H'->∃m',m' < m/\W (i+1) m' σ' H')/\∀x H',(Itl K a).yld i H x H'->g x σ H' λσ2 H2=>tb { D with nx:=N,ct:=N,bk:=D.nx } σ2 H2):=by
 refine ⟨λi m σ H=>m=xs.length-i/\i<=xs.length/\Pv i σ H,⟨xs.length,by simp,cC _,h0⟩,?_⟩;rintro i m σ H ⟨rfl,hi,p⟩;have q:=hl i σ H hi p;by_cases hlt:i<xs.length
 ·refine .inr ⟨⟨xs,xs[i],q,by simp [hlt]⟩,Pv (i+1),λσ' H' p'=>⟨xs.length-(i+1),Oo,rfl,hlt,p'⟩,λx H' y=>?_⟩;obtain ⟨e,y⟩:=y;subst e;exact hs i x σ _ (y xs q) p
 ·have e:i=xs.length:=Oo;subst e;exact .inl ⟨⟨xs,q,aJ _⟩,hd σ H p⟩
theorem AZ{K:PySem.W.Frag}{a:Addr}{xs:List V}{g:TG}{tb:TS}{D:tI}{σ:St}{H:Hp}(Pv:Nat->St->Hp->Prop)(h0:Pv 0 σ H)(hl:∀i σ H,i<=xs.length->Pv i σ H->eZ K H a xs)
  (hs:∀i x σ H,xs[i]?=some x->Pv i σ H->g x σ H λσ2 H2=>tb { D with nx:=Pv (i+1),ct:=Pv (i+1),bk:=D.nx } σ2 H2) (hd:∀σ H,Pv xs.length σ H->D.nx σ H) :
  ∃W:Nat->Nat->St->Hp->Prop,(∃m,W 0 m σ H)/\∀i m σ H,W i m σ H ->
   ((Itt K a).stop i H/\D.nx σ H)\/((Itt K a).go i H/\∃N:St->Hp->Prop,(∀σ' H',N σ' H'->∃m',m' < m/\W (i+1) m' σ' H')/\∀x H',(Itt K a).yld i H x H'->g x σ H' λσ2 H2=>tb { D with nx:=N,ct:=N,bk:=D.nx } σ2 H2):=by
 refine ⟨λi m σ H=>m=xs.length-i/\i<=xs.length/\Pv i σ H,⟨xs.length,by simp,cC _,h0⟩,?_⟩;rintro i m σ H ⟨rfl,hi,p⟩;have q:=hl i σ H hi p;by_cases hlt:i<xs.length
 ·refine .inr ⟨⟨xs,xs[i],q,by simp [hlt]⟩,Pv (i+1),λσ' H' p'=>⟨xs.length-(i+1),Oo,rfl,hlt,p'⟩,λx H' y=>?_⟩;obtain ⟨e,y⟩:=y;subst e;exact hs i x σ _ (y xs q) p
 ·have e:i=xs.length:=Oo;subst e;exact .inl ⟨⟨xs,q,aJ _⟩,hd σ H p⟩
theorem pH{lo:Int}{n:Nat}{g:TG}{tb:TS}{D:tI}{σ:St}{H:Hp}(Pv:Nat->St->Hp->Prop)(h0:Pv 0 σ H)
  (hs:∀i σ H,i<n->Pv i σ H->g (.int (lo+i)) σ H λσ2 H2=>tb { D with nx:=Pv (i+1),ct:=Pv (i+1),bk:=D.nx } σ2 H2) (hd:∀σ H,Pv n σ H->D.nx σ H) :
  ∃W:Nat->Nat->St->Hp->Prop,(∃m,W 0 m σ H)/\∀i m σ H,W i m σ H ->
   ((XA lo n).stop i H/\D.nx σ H)\/((XA lo n).go i H/\∃N:St->Hp->Prop,(∀σ' H',N σ' H'->∃m',m' < m/\W (i+1) m' σ' H')/\∀x H',(XA lo n).yld i H x H'->g x σ H' λσ2 H2=>tb { D with nx:=N,ct:=N,bk:=D.nx } σ2 H2):=by
 refine ⟨λi m σ H=>m=n-i/\i<=n/\Pv i σ H,⟨n,by simp,cC _,h0⟩,?_⟩;rintro i m σ H ⟨rfl,hi,p⟩;by_cases hlt:i<n
 ·refine .inr ⟨hlt,Pv (i+1),λσ' H' p'=>⟨n-(i+1),Oo,rfl,hlt,p'⟩,λx H' y=>?_⟩;obtain ⟨e,y⟩:=y;subst e y;exact hs i σ _ hlt p
 ·have e:i=n:=Oo;subst e;exact .inl ⟨aJ _,hd σ H p⟩
abbrev R2:=V->V->Hp->VK->Prop
def mN(X:Cx)(f:Value->Value->Sem Value)(r:R2):Prop :=
 ∀(pins:List (Addr × Obj)) (s:Shared) (σ:St) (H:Hp) (x y:V) (v u:Value) (Q:VK),cE X pins σ H s->dH x v->dH y u->r x y H Q ->
  wpAny (model X.prog X.w) X.A (f v u) (EP X pins σ Q) X.xe s
def UnR(X:Cx)(f:Value->Sem Value)(r:V->Hp->VK->Prop):Prop :=
 ∀(pins:List (Addr × Obj)) (s:Shared) (σ:St) (H:Hp) (x:V) (v:Value) (Q:VK),cE X pins σ H s->dH x v->r x H Q ->
  wpAny (model X.prog X.w) X.A (f v) (EP X pins σ Q) X.xe s
def fX(X:Cx)(f:Value)(r:List V->Hp->VK->Prop):Prop :=
 ∀(pins:List (Addr × Obj)) (s:Shared) (σ:St) (H:Hp) (xs:List V) (us:List Value) (Q:VK),cE X pins σ H s->cV xs us->r xs H Q ->
  wpAny (model X.prog X.w) X.A (call f us) (EP X pins σ Q) X.xe s
def RD(r:R2)(ta tb:TE):TE:=λσ H Q=>ta σ H λx H1=>tb σ H1 λy H2=>r x y H2 Q
def tUn(r:V->Hp->VK->Prop)(ta:TE):TE:=λσ H Q=>ta σ H λx H1=>r x H1 Q
def rI(C:Int->Int->Prop)(g:Int->Int->V):R2:=λx y H Q=>∃i j,x=.int i/\y=.int j/\C i j/\Q (g i j) H
def WC(g:Int->Int->V):R2:=λx y H Q=>∃i j,x=.int i/\y=.int j/\Q (g i j) H
def rU(g:Int->V):V->Hp->VK->Prop:=λx H Q=>∃i,x=.int i/\Q (g i) H
section
variable{X:Cx}{a b c:Expr}{ta tb tc:TE}{pos:Pos}
theorem aAU(ha:PE X a ta)(hb:PE X b tb){pins:List (Addr × Obj)}{s:Shared}{σ:St}{H:Hp}{R:V->V->Hp->Prop}(I:cE X pins σ H s)
  (h:ta σ H λx H1=>tb σ H1 λy H2=>R x y H2) {Q:Value->Shared->Prop} {f:Value->Value->Sem Value}
  (hf:∀v u s2 x y H2,cE X pins σ H2 s2->dH x v->dH y u->R x y H2->wpAny (model X.prog X.w) X.A (f v u) Q X.xe s2) :
  wpAny (model X.prog X.w) X.A (eval a X.env) (λv s₁=>wpAny (model X.prog X.w) X.A (eval b X.env) (λu s₂=>wpAny (model X.prog X.w) X.A (f v u) Q X.xe s₂) X.xe s₁) X.xe s:=by
 refine thn (ha pins s σ H _ I h) λv s1 ⟨x,H1,I1,r1,q1⟩=>?_;refine thn (hb pins s1 σ H1 _ I1 q1) λu s2 ⟨y,H2,I2,r2,q2⟩=>?_;exact hf v u s2 x y H2 I2 r1 r2 q2
theorem aBL{op:Operator}{r:R2}(ho:mN X (binaryOp op) r)(ha:PE X a ta)(hb:PE X b tb):PE X (.BinOp a op b pos) (RD r ta tb):=by
 intro pins s σ H Q I h;exact wpAny_BinOp (aAU ha hb I h λv u s2 x y H2 I2 rx ry q=>ho pins s2 σ H2 x y v u Q I2 rx ry q)
theorem aBK{op:UnaryOp}{r:V->Hp->VK->Prop}(ho:UnR X (unaryOp op) r)(ha:PE X a ta):PE X (.UnaryOp op a pos) (tUn r ta):=by
 intro pins s σ H Q I h;exact UnaryOp_ (thn (ha pins s σ H _ I h) λv s1 ⟨x,H1,I1,r1,q1⟩=>ho pins s1 σ H1 x v Q I1 r1 q1)
theorem opI{f:Value->Value->Sem Value}{C:Int->Int->Prop}{g:Int->Int->Int}
  (rule:∀(i j:Int) (t u:Tok) (s:Shared) (Q:Value->Shared->Prop) (E:Value->Shared->Prop),C i j->Q (.int (g i j) s.toks) { s with toks:=s.toks+1 }->wpAny (model X.prog X.w) X.A (f (.int i t) (.int j u)) Q E s) :
  mN X f (rI C λi j=>.int (g i j)):=by
 intro pins s σ H x y v u Q I rx ry h;obtain ⟨i,j,rfl,rfl,hc,q⟩:=h;obtain ⟨t,rfl⟩:=rx;obtain ⟨t',rfl⟩:=ry;exact rule i j t t' s _ _ hc ⟨.int (g i j),H,I.tok _,⟨_,rfl⟩,q⟩
theorem aBQ{f:Value->Value->Sem Value}{g:Int->Int->Int}
  (rule:∀(i j:Int) (t u:Tok) (s:Shared) (Q:Value->Shared->Prop) (E:Value->Shared->Prop),Q (.int (g i j) s.toks) { s with toks:=s.toks+1 }->wpAny (model X.prog X.w) X.A (f (.int i t) (.int j u)) Q E s) :
  mN X f (WC λi j=>.int (g i j)):=by
 intro pins s σ H x y v u Q I rx ry h;obtain ⟨i,j,rfl,rfl,q⟩:=h;obtain ⟨t,rfl⟩:=rx;obtain ⟨t',rfl⟩:=ry;exact rule i j t t' s _ _ ⟨.int (g i j),H,I.tok _,⟨_,rfl⟩,q⟩
theorem TN{f:Value->Value->Sem Value}{g:Int->Int->Bool}
  (rule:∀(i j:Int) (t u:Tok) (s:Shared) (Q:Value->Shared->Prop) (E:Value->Shared->Prop),Q (.bool (g i j)) s->wpAny (model X.prog X.w) X.A (f (.int i t) (.int j u)) Q E s) :
  mN X f (WC λi j=>.bl (g i j)):=by
 intro pins s σ H x y v u Q I rx ry h;obtain ⟨i,j,rfl,rfl,q⟩:=h;obtain ⟨t,rfl⟩:=rx;obtain ⟨t',rfl⟩:=ry;exact rule i j t t' s _ _ ⟨.bl (g i j),H,I,rfl,q⟩
def aDT(i j:Int):Prop:=0<=j/\j<=1000000/\i.natAbs<2^64
theorem fZ:mN X (binaryOp .Add) (WC λi j=>.int (i+j)):=aBQ λ_ _ _ _ _ _ _ q=>add_int q
theorem AL:mN X (binaryOp .Sub) (WC λi j=>.int (i-j)):=aBQ λ_ _ _ _ _ _ _ q=>sub_int q
theorem oJ:mN X (binaryOp .Mod) (rI (λ_ j=>0<j) λi j=>.int (i % j)):=opI λi j _ _ _ _ _ hc q=>by
 have h1:(0:Int)<j:=hc;exact mod_int' Oo (by rw [Int.fmod_eq_emod_of_nonneg i Oo];exact q)
theorem ZW:mN X (binaryOp .Pow) (rI aDT λi j=>.int (i^j.toNat)):=opI λ_ _ _ _ _ _ _ hc q=>pow_int_small hc.1 hc.2.1 hc.2.2 q
theorem unI{f:Value->Sem Value}{g:Int->Int}
  (rule:∀(i:Int) (t:Tok) (s:Shared) (Q:Value->Shared->Prop) (E:Value->Shared->Prop),Q (.int (g i) s.toks) { s with toks:=s.toks+1 }->wpAny (model X.prog X.w) X.A (f (.int i t)) Q E s) :
  UnR X f (rU λi=>.int (g i)):=by
 intro pins s σ H x v Q I rx h;obtain ⟨i,rfl,q⟩:=h;obtain ⟨t,rfl⟩:=rx;exact rule i t s _ _ ⟨.int (g i),H,I.tok _,⟨_,rfl⟩,q⟩
theorem EG:UnR X (unaryOp .USub) (rU λi=>.int (-i)):=unI λ_ _ _ _ _ q=>neg_int q
end
def scal:V->V->Bool
 | .non,.non=>true | .non,.int _=>true | .int _,.non=>true | .non,.bl _=>true | .bl _,.non=>true | .non,.str _=>true | .str _,.non=>true
 | .int _,.int _=>true | .bl _,.bl _=>true | .str _,.str _=>true | .byt _,.byt _=>true
 | .int _,.str _=>true | .str _,.int _=>true | .bl _,.str _=>true | .str _,.bl _=>true
 | _,_=>false
def rEq:R2:=λx y H Q=>scal x y=true/\Q (.bl (decide (x=y))) H
def rNe:R2:=λx y H Q=>scal x y=true/\Q (.bl (!decide (x=y))) H
theorem IA{i j:Int}:decide (V.int i=V.int j)=(i == j):=by
 rw [Bool.eq_iff_iff];simp
theorem OX{i j:Bool}:decide (V.bl i=V.bl j)=(i == j):=by
 rw [Bool.eq_iff_iff];simp
theorem HZ{i j:Str}:decide (V.str i=V.str j)=(i == j):=by
 rw [Bool.eq_iff_iff];simp
theorem ID{i j:Array UInt8}:decide (V.byt i=V.byt j)=(i.toList == j.toList):=by
 rw [Bool.eq_iff_iff];cases i;cases j;simp
section
variable{X:Cx}{a b c:Expr}{ta tb tc:TE}{pos:Pos}
theorem dW{pins:List (Addr × Obj)}{σ:St}{H:Hp}{s:Shared}{Q:VK}{k k':Bool}(I:cE X pins σ H s)(q:Q (.bl k) H)(e:k=k'):EP X pins σ Q (.bool k') s:=by
 subst e;exact ⟨.bl k,H,I,rfl,q⟩
theorem nB:mN X (compareOp .Eq) rEq:=by
 intro pins s σ H x y v u Q I rx ry h;obtain ⟨hs,q⟩:=h;cases x with
 | non =>
  cases rx;cases y with
  | non=>cases ry;exact PySem.EqNone.eq_none_none (dW I q (by simp))
  | bl j=>cases ry;exact PySem.EqNone.eq_none_bool (dW I q (by simp))
  | int j=>obtain ⟨t',rfl⟩:=ry;exact PySem.EqNone.eq_none_int (dW I q (by simp))
  | str j=>obtain ⟨t',rfl⟩:=ry;exact PySem.EqNone.eq_none_str (dW I q (by simp))
  | _=>exact absurd (show false=true from hs) bI
 | bl i =>
  cases rx;cases y with
  | non=>cases ry;exact PySem.EqNone.eq_bool_none (dW I q (by simp))
  | bl j=>cases ry;exact eq_bool (dW I q OX)
  | str j=>obtain ⟨t',rfl⟩:=ry;exact PySem.EqMixed.eq_bool_str (dW I q (by simp))
  | _=>exact absurd (show false=true from hs) bI
 | int i =>
  obtain ⟨t,rfl⟩:=rx;cases y with
  | non=>cases ry;exact PySem.EqNone.eq_int_none (dW I q (by simp))
  | int j=>obtain ⟨t',rfl⟩:=ry;exact eq_int (dW I q IA)
  | str j=>obtain ⟨t',rfl⟩:=ry;exact PySem.EqMixed.eq_int_str (dW I q (by simp))
  | _=>exact absurd (show false=true from hs) bI
 | str i =>
  obtain ⟨t,rfl⟩:=rx;cases y with
  | non=>cases ry;exact PySem.EqNone.eq_str_none (dW I q (by simp))
  | bl j=>cases ry;exact PySem.EqMixed.eq_str_bool (dW I q (by simp))
  | int j=>obtain ⟨t',rfl⟩:=ry;exact PySem.EqMixed.eq_str_int (dW I q (by simp))
  | str j=>obtain ⟨t',rfl⟩:=ry;exact eq_str (dW I q HZ)
  | _=>exact absurd (show false=true from hs) bI
 | byt i =>
  obtain ⟨t,rfl⟩:=rx;cases y with
  | byt j=>obtain ⟨t',rfl⟩:=ry;exact PySem.W.eq_bytes (dW I q ID)
  | _=>exact absurd (show false=true from hs) bI
 | _=>cases y <;> exact absurd (show false=true from hs) bI
theorem HE:mN X (compareOp .NotEq) rNe:=by
 intro pins s σ H x y v u Q I rx ry h;obtain ⟨hs,q⟩:=h;cases x with
 | non =>
  cases rx;cases y with
  | non=>cases ry;exact PySem.EqNone.ne_none_none (dW I q (by simp))
  | bl j=>cases ry;exact PySem.EqNone.ne_none_bool (dW I q (by simp))
  | int j=>obtain ⟨t',rfl⟩:=ry;exact PySem.EqNone.ne_none_int (dW I q (by simp))
  | str j=>obtain ⟨t',rfl⟩:=ry;exact PySem.EqNone.ne_none_str (dW I q (by simp))
  | _=>exact absurd (show false=true from hs) bI
 | bl i =>
  cases rx;cases y with
  | non=>cases ry;exact PySem.EqNone.ne_bool_none (dW I q (by simp))
  | bl j=>cases ry;exact ne_bool (dW I q (congrArg not OX))
  | str j=>obtain ⟨t',rfl⟩:=ry;exact PySem.EqMixed.ne_bool_str (dW I q (by simp))
  | _=>exact absurd (show false=true from hs) bI
 | int i =>
  obtain ⟨t,rfl⟩:=rx;cases y with
  | non=>cases ry;exact PySem.EqNone.ne_int_none (dW I q (by simp))
  | int j=>obtain ⟨t',rfl⟩:=ry;exact ne_int (dW I q (congrArg not IA))
  | str j=>obtain ⟨t',rfl⟩:=ry;exact PySem.EqMixed.ne_int_str (dW I q (by simp))
  | _=>exact absurd (show false=true from hs) bI
 | str i =>
  obtain ⟨t,rfl⟩:=rx;cases y with
  | non=>cases ry;exact PySem.EqNone.ne_str_none (dW I q (by simp))
  | bl j=>cases ry;exact PySem.EqMixed.ne_str_bool (dW I q (by simp))
  | int j=>obtain ⟨t',rfl⟩:=ry;exact PySem.EqMixed.ne_str_int (dW I q (by simp))
  | str j=>obtain ⟨t',rfl⟩:=ry;exact ne_str (dW I q (congrArg not HZ))
  | _=>exact absurd (show false=true from hs) bI
 | byt i =>
  obtain ⟨t,rfl⟩:=rx;cases y with
  | byt j=>obtain ⟨t',rfl⟩:=ry;exact PySem.W.ne_bytes (dW I q (congrArg not ID))
  | _=>exact absurd (show false=true from hs) bI
 | _=>cases y <;> exact absurd (show false=true from hs) bI
theorem aBP:mN X (compareOp .Lt) (WC λi j=>.bl (decide (i<j))):=TN λ_ _ _ _ _ _ _ q=>lt_int q
theorem WF:mN X (compareOp .LtE) (WC λi j=>.bl (decide (i<=j))):=TN λ_ _ _ _ _ _ _ q=>le_int q
theorem vV:mN X (compareOp .Gt) (WC λi j=>.bl (decide (j<i))):=TN λ_ _ _ _ _ _ _ q=>gt_int q
theorem WG:mN X (compareOp .GtE) (WC λi j=>.bl (decide (j<=i))):=TN λ_ _ _ _ _ _ _ q=>ge_int q
theorem NR:mN X (compareOp .Is) (λx y H Q=>y=.non/\Q (.bl (decide (x=.non))) H):=by
 intro pins s σ H x y v u Q I rx ry h;obtain ⟨rfl,q⟩:=h;cases ry;refine is_none_gen (dW I q ?_);cases x <;> first
  | (cases rx;rfl)
  | (obtain ⟨t,rfl⟩:=rx;rfl)
theorem TL:mN X (compareOp .IsNot) (λx y H Q=>y=.non/\Q (.bl (!decide (x=.non))) H):=by
 intro pins s σ H x y v u Q I rx ry h;obtain ⟨rfl,q⟩:=h;cases ry;refine isnot_none_gen (dW I q ?_);cases x <;> first
  | (cases rx;rfl)
  | (obtain ⟨t,rfl⟩:=rx;rfl)
theorem nomark(b:Expr){op:CmpOp}(h:op ≠ .In:=by decide)(h2:op ≠ .NotIn:=by decide):behindInMarks op b=false:=by
 have e1:(op == CmpOp.In)=false:=by cases op <;> first | rfl | exact absurd rfl h
 have e2:(op == CmpOp.NotIn)=false:=by cases op <;> first | rfl | exact absurd rfl h2
 cases b <;> simp [behindInMarks,e1,e2]
theorem TF{op:CmpOp}{r:R2}(ho:mN X (compareOp op) r)(ha:PE X a ta)(hb:PE X b tb)(hm:behindInMarks op b=false):PE X (.Compare a [op] [b] pos) (RD r ta tb):=by
 intro pins s σ H Q I h;exact wpAny_Compare1 (aAU ha hb I h λv u s2 x y H2 I2 rx ry q=>ho pins s2 σ H2 x y v u Q I2 rx ry q) hm
def VO(t:TE):TT:=λσ H Q=>t σ H λx H'=>∃k,x=.bl k/\Q k H'
theorem SO{op:CmpOp}{r:R2}(ho:mN X (compareOp op) r)(ha:PE X a ta)(hb:PE X b tb)(hm:behindInMarks op b=false):PT X (.Compare a [op] [b] pos) (VO (RD r ta tb)):=by
 intro pins s σ H Q I h;refine wpAny_isTrue_Compare1 (thn (ha pins s σ H _ I h) λv s1 ⟨x,H1,I1,r1,q1⟩=>thn (hb pins s1 σ H1 _ I1 q1) λu s2 ⟨y,H2,I2,r2,q2⟩ =>
  thn (ho pins s2 σ H2 x y v u _ I2 r1 r2 q2) λc s3 ⟨z,H3,I3,r3,k,e,q3⟩=>?_) hm
 subst e;cases r3;exact wpAny_truthy_bool ⟨H3,I3,q3⟩
def MJ(r r':R2)(ta tb tc:TE):TE:=λσ H Q=>ta σ H λx H1=>tb σ H1 λy H2=>r x y H2 λz H3=>∃k,z=.bl k /\
 (if k=true then tc σ H3 λw' H4=>r' y w' H4 Q else Q (.bl false) H3)
theorem NO{op op':CmpOp}{r r':R2}(ho:mN X (compareOp op) r)(ho':mN X (compareOp op') r')(ha:PE X a ta)(hb:PE X b tb)(hc:PE X c tc)
  (hm:lastMarks [op,op'] [b,c]=false:=by with_unfolding_all rfl):PE X (.Compare a [op,op'] [b,c] pos) (MJ r r' ta tb tc):=by
 intro pins s σ H Q I h;refine Compare_chain (thn (ha pins s σ H _ I h) λv s1 ⟨x,H1,I1,r1,q1⟩=>chain_link (thn (hb pins s1 σ H1 _ I1 q1) λu s2 ⟨y,H2,I2,r2,q2⟩ =>
  thn (ho pins s2 σ H2 x y v u _ I2 r1 r2 q2) λd s3 ⟨z,H3,I3,r3,k,e,q3⟩=>?_)) hm
 subst e;cases r3;refine wpAny_truthy_bool ?_;cases k with
 | false=>exact ite_ff ⟨.bl false,H3,I3,rfl,q3⟩
 | true=>exact ite_tt (chain_last (thn (hc pins s3 σ H3 _ I3 q3) λw' s4 ⟨z',H4,I4,r4,q4⟩=>ho' pins s4 σ H4 y z' u w' Q I4 r2 r4 q4))
theorem wA:(sizeLine:Nat)<2^63:=by rw [sizeLine_eq];decide
theorem jJ{x:V}{us:List Value}(r:cV [x] us):∃u,us=[u]/\dH x u:=by
 cases r with
 | cons r1 r2=>cases r2;exact ⟨_,rfl,r1⟩
theorem GM{x y:V}{us:List Value}(r:cV [x,y] us):∃u w',us=[u,w']/\dH x u/\dH y w':=by
 cases r with
 | cons r1 r2 =>
  cases r2 with
  | cons r3 r4=>cases r4;exact ⟨_,_,rfl,r1,r3⟩
theorem PP:fX X (.builtin "abs") (λxs H Q=>∃i,xs=[.int i]/\Q (.int (if i<0 then -i else i)) H):=by
 intro pins s σ H xs us Q I r h;obtain ⟨i,rfl,q⟩:=h;obtain ⟨u,rfl,t,rfl⟩:=jJ r;exact call_abs_int λu tk=>⟨.int (if i<0 then -i else i),H,I.tok _,⟨_,rfl⟩,q⟩
theorem yU(hc:X.calm=true):fX X (.builtin "max") (λxs H Q=>∃i j,xs=[.int i,.int j]/\Q (.int (if j > i then j else i)) H):=by
 intro pins s σ H xs us Q I r h;obtain ⟨i,j,rfl,q⟩:=h;obtain ⟨u,w',rfl,⟨t,rfl⟩,⟨t',rfl⟩⟩:=GM r;refine max_two_ints (I.ok.hd hc) λh' tk k=>⟨_,H,I.kept k,?_,q⟩;by_cases hj:j > i
 ·rw [if_pos hj,if_pos hj];exact ⟨_,rfl⟩
 ·rw [if_neg hj,if_neg hj];exact ⟨_,rfl⟩
theorem yV:fX X (.type "int") (λxs H Q=>(∃i,xs=[.int i]/\Q (.int i) H)\/∃k,xs=[.bl k]/\Q (.int (if k then 1 else 0)) H):=by
 intro pins s σ H xs us Q I r h;rcases h with ⟨i,rfl,q⟩ | ⟨k,rfl,q⟩
 ·obtain ⟨u,rfl,t,rfl⟩:=jJ r;exact call_int_int ⟨.int i,H,I,⟨_,rfl⟩,q⟩
 ·obtain ⟨u,rfl,r1⟩:=jJ r;cases r1;exact call_int_bool ⟨.int (if k then 1 else 0),H,I.tok _,⟨_,rfl⟩,q⟩
def aCg(K:PySem.W.Frag)(x:V)(H:Hp)(n:Nat):Prop :=
 match x with
 | .str y=>y.length<=sizeLine/\n=y.length
 | .byt y=>y.size<=sizeLine/\n=y.size
 | .ref p=>(∃xs,fS K H p xs/\n=xs.length)\/∃xs,eZ K H p xs/\n=xs.length
 | _=>False
theorem PN:fX X (.builtin "len") (λxs H Q=>∃x n,xs=[x]/\aCg X.K x H n/\Q (.int n) H):=by
 intro pins s σ H xs us Q I r h;obtain ⟨x,n,rfl,e,q⟩:=h;obtain ⟨u,rfl,rx⟩:=jJ r;have hl:=wA;have hs:sizeLine=16777216:=sizeLine_eq;cases x with
 | str y =>
  obtain ⟨t,rfl⟩:=rx;obtain ⟨hy,e'⟩:y.length<=sizeLine/\n=y.length:=e;subst e';exact len_str Oo ⟨.int _,H,I.tok _,⟨_,rfl⟩,q⟩
 | byt y =>
  obtain ⟨t,rfl⟩:=rx;obtain ⟨hy,e'⟩:y.size<=sizeLine/\n=y.size:=e;subst e';exact PySem.W.len_bytes Oo ⟨.int _,H,I.tok _,⟨_,rfl⟩,q⟩
 | ref p =>
  cases rx;have e':(∃xs,fS X.K H p xs/\n=xs.length)\/∃xs,eZ X.K H p xs/\n=xs.length:=e;rcases e' with ⟨xs,hx,e'⟩ | ⟨xs,hx,e'⟩
  ·subst e';obtain ⟨its,r',pl,hz⟩:=I.list hx;have hlen:=r'.length;exact Calls.call_len_list pl.isList (by simp only [aW];omega) ⟨.int xs.length,H,I.tok _,⟨_,by simp only [aW];rw [hlen]⟩,q⟩
  ·subst e';obtain ⟨its,r',pl,hz⟩:=I.tuple hx;have hlen:=r'.length;exact len_tuple pl (by simp only [aW];omega) ⟨.int xs.length,H,I.tok _,⟨_,by simp only [aW];rw [hlen]⟩,q⟩
 | _=>exact (show False from e).elim
end
structure aAY(h:Heap)(x dx C:Addr)(mA:Str->Option Value):Prop where
 obj:h.get? x=some (PySem.W.instObj C dx)
 ns:h.Ns1 dx mA
 ne:dx≠x
theorem JZ{h:Heap}{dx:Addr}{mA:Str->Option Value}(n:h.Ns1 dx mA):∃od,h.get? dx=some od/\∀name,PySem.W.lookIn name od=some (mA name):=by
 obtain ⟨o,es,ep,ho,hd,hk,_,hm⟩:=n;refine ⟨o,ho,λname=>?_⟩;have e:=hm name;unfold nsFind findBy at e;rw [<-Array.find?_toList] at e;unfold PySem.W.lookIn;rw [hd];dsimp only;split
 ·rename_i y q
  rw [q] at e;exact congrArg some e
 ·rename_i q
  rw [q] at e;have a:es.toList.any (·.refKey)=false:=by
   rw [List.any_eq_false];intro y hy;obtain ⟨z,t,hkey⟩:=hk y (Array.mem_toList_iff.mp hy);simp [DictEntry.refKey,hkey]
  have a':¬es.toList.any (·.refKey)=true:=by rw [a];exact bI
  rw [if_neg a'];exact congrArg some e
theorem aAY.look{h:Heap}{x dx C:Addr}{mA:Str->Option Value}(I:aAY h x dx C mA):∃od,PySem.W.InstAt h x (PySem.W.instObj C dx) C (some od)/\∀name,PySem.W.lookIn name od=some (mA name) :=
 let ⟨od,ho,hl⟩:=JZ I.ns
 ⟨od,⟨I.obj,rfl,rfl,ho⟩,hl⟩
section
variable{prog:Program}{w:World}{A:Around}{E:Value->Shared->Prop}{s:Shared}{K:PySem.W.Frag}{x dx C f:Addr}{mA:Str->Option Value}{name:Str}{v:Value}
end
theorem tF.some_of{v:V}{o:Option Value}(r:tF (some v) o):∃u,o=some u/\dH v u:=by
 cases o with
 | none=>exact (show False from r).elim
 | some u=>exact ⟨u,rfl,r⟩
section
variable{P:Program}{w:World}{H H':Hp}{h h':Heap}{a C dx:Addr}{fs fs':List (Str × V)}
theorem UF(hok:nC P w H h)(e:H a=some (.ins C dx fs)):∃mA,aAY h a dx C mA/\(∀f,tF (fs.lookup f) (mA f))/\PySem.Within mA (fs.map (·.1))/\fs.length<=1000/\H dx=some (.own a):=by
 obtain ⟨d,z,ne,ob,mA,n,r,q⟩:=(show eI P w H h a (.ins C dx fs) from hok a _ e);exact ⟨mA,⟨ob,n,ne⟩,r,q,z,d⟩
end
structure Cls(K:PySem.W.Frag)(C:Addr):Prop where
 pg:PySem.W.plainGet K C Str.empty=true
 hd:PySem.W.hasDictIn K C=true
 po:PySem.W.plainOver K C=true
 sa:PySem.W.findIn K (.ref C) "__setattr__" = some (some (.builtin "object.__setattr__"))
theorem Cls.get{K:PySem.W.Frag}{C:Addr}(c:Cls K C)(f:Str):PySem.W.plainGet K C f=true:=c.pg
section
variable{X:Cx}{pins:List (Addr × Obj)}{σ:St}{H:Hp}{s:Shared}{a C dx:Addr}{fs:List (Str × V)}{f:Str}{v:V}{A:Around}{E:Value->Shared->Prop}
end
section
variable{X:Cx}{o e value:Expr}{f:Str}{pos pos' tpos:Pos}{ta tv:TE}
end
section
variable{X:Cx}{pins:List (Addr × Obj)}{σ:St}{H:Hp}{s:Shared}{A:Around}{E:Value->Shared->Prop}{Q:Value->Shared->Prop}{c:Value}{b:Bool}
inductive tE (K:PySem.W.Frag) (H:Hp):V->Value->Prop where
 | non:tE K H .non (.type "NoneType")
 | bl (x:Bool):tE K H (.bl x) (.type "bool")
 | int (i:Int):tE K H (.int i) (.type "int")
 | str (x:Str):tE K H (.str x) (.type "str")
 | flt (x:UInt64):tE K H (.flt x) (.type "float")
 | lst {a:Addr} {xs:List V} (e:H a=some (.lst xs)):tE K H (.ref a) (.type "list")
 | frz {a:Addr} {o:Obj} {xs:List V} (e:H a=some (.frz o (.lst xs))):tE K H (.ref a) (.type "list")
 | tup {a:Addr} {xs:List V} (e:H a=some (.tup xs)):tE K H (.ref a) (.type "tuple")
 | dK {a:Addr} {kvs:List (dP × V)} (e:H a=some (.dK kvs)):tE K H (.ref a) (.type "dict")
 | dT {a:Addr} {kvs:List (List dP × V)} (e:H a=some (.dT kvs)):tE K H (.ref a) (.type "dict")
 | ins {a C dx:Addr} {fs:List (Str × V)} (e:H a=some (.ins C dx fs)) (cl:Cls K C) (ha:PySem.W.findIn K (.ref C) "__class__" = some (some (.builtin "object.__class__")))
   (hn:PySem.W.specialIn K (.builtin "object.__class__") "__get__" = some (some (.builtin "getset_descriptor.__get__"))) (htk:PySem.W.takesIn K (.builtin "object.__class__")=some true)
   (hm:PySem.W.mroIn K C (.type "object")=some true):tE K H (.ref a) (.ref C)
theorem KH{x:V}{u t:Value}(I:cE X pins σ H s)(rx:dH x u)(ty:tE X.K H x t)(e:PySem.W.kitOne X.K t c=some b)(h:∀tk,Q (.bool b) { s with toks:=tk }) :
  wpAny (model X.prog X.w) A (call (.builtin "isinstance") [u,c]) Q E s:=by
 cases ty with
 | non=>cases (show u=Value.none from rx);exact PySem.W.kia_one PySem.W.kitx_none I.kIn True.intro e (λz=>nomatch z) h
 | bl y=>cases (show u=Value.bool y from rx);exact PySem.W.kia_one PySem.W.kitx_bool I.kIn True.intro e (λz=>nomatch z) h
 | int i=>obtain ⟨t,q⟩:=(show ∃t,u=Value.int i t from rx);cases q;exact PySem.W.kia_one PySem.W.kitx_int I.kIn True.intro e (λz=>nomatch z) h
 | str y=>obtain ⟨t,q⟩:=(show ∃t,u=Value.str y t from rx);cases q;exact PySem.W.kia_one PySem.W.kitx_str I.kIn True.intro e (λz=>nomatch z) h
 | flt y=>obtain ⟨t,q⟩:=(show ∃t,u=Value.float y t from rx);cases q;exact PySem.W.kia_one PySem.W.kitx_float I.kIn True.intro e (λz=>nomatch z) h
 | @lst a xs ea =>
  cases (show u=Value.ref a from rx);obtain ⟨_,_,n,_,h1⟩:=(show eI X.prog X.w H s.heap a (.lst xs) from I.hok a _ ea);exact PySem.W.kia_one PySem.W.kitx_list I.kIn ⟨_,h1,rfl⟩ e (λz=>nomatch z) h
 | @frz a ob xs ea =>
  cases (show u=Value.ref a from rx);obtain ⟨_,_,_,n,_,h1⟩:=(show eI X.prog X.w H s.heap a (.frz ob (.lst xs)) from I.hok a _ ea);exact PySem.W.kia_one PySem.W.kitx_list I.kIn ⟨_,h1,rfl⟩ e (λz=>nomatch z) h
 | @tup a xs ea =>
  cases (show u=Value.ref a from rx);obtain ⟨_,_,_,p⟩:=(show eI X.prog X.w H s.heap a (.tup xs) from I.hok a _ ea);obtain ⟨o,h1,h2,_⟩:=p;exact PySem.W.kia_one PySem.W.kitx_tuple I.kIn ⟨o,h1,h2⟩ e (λz=>nomatch z) h
 | @dK a kvs ea =>
  cases (show u=Value.ref a from rx);obtain ⟨_,_,vs,_,p⟩:=(show eI X.prog X.w H s.heap a (.dK kvs) from I.hok a _ ea);obtain ⟨o,es,ep,h1,h2,_⟩:=p;exact PySem.W.kia_one PySem.W.kitx_dict I.kIn ⟨o,h1,h2.1⟩ e (λz=>nomatch z) h
 | @dT a kvs ea =>
  cases (show u=Value.ref a from rx);obtain ⟨_,_,xs,_,o,es,ep,h1,h2,_⟩:=(show eI X.prog X.w H s.heap a (.dT kvs) from I.hok a _ ea);exact PySem.W.kia_one PySem.W.kitx_dict I.kIn ⟨o,h1,h2.1⟩ e (λz=>nomatch z) h
 | @ins a C dx fs ea cl ha hn htk hm =>
  cases (show u=Value.ref a from rx);obtain ⟨mA,O,_⟩:=UF I.hok ea;obtain ⟨od,J,_⟩:=O.look;exact PySem.W.kia_one (PySem.W.kitx_own (cl.get _) cl.hd ha hn htk hm) I.kIn J e (λz=>nomatch z) h
end
structure iD(k:Nat)(A:Around):Prop where
 hd:A.handled=none
 dp:A.depth+3*k+5<recursionLimit
 un:A.units+16*k+200<cLine
 gd:A.guards=some []
theorem iD.mono{j k:Nat}{A:Around}(r:iD k A)(h:j<=k):iD j A:=⟨r.hd,by have:=r.dp;omega,by have:=r.un;omega,r.gd⟩
theorem iD.deeper{k:Nat}{A:Around}(r:iD (k+1) A)(env:Env):iD k (A.deeper env) :=
 ⟨r.hd,by have:=r.dp;show A.depth+1+3*k+5<_;omega,by have:=r.un;show A.units+3+16*k+200<_;omega,r.gd⟩
theorem iD.in1{k:Nat}{A:Around}(r:iD (k+1) A):iD k A.in1 :=
 ⟨r.hd,by have:=r.dp;show A.depth+3*k+5<_;omega,by have:=r.un;show A.units+1+16*k+200<_;omega,r.gd⟩
theorem iD.depth{k:Nat}{A:Around}(r:iD k A):A.depth<recursionLimit:=by have:=r.dp;omega
theorem iD.units{k:Nat}{A:Around}(r:iD k A):A.units+64<cLine:=by have:=r.un;omega
def aBl:TA:=λ_ H Q=>Q [] H
def VW(ta:TE)(tr:TA):TA:=λσ H Q=>ta σ H λx H1=>tr σ H1 λxs H2=>Q (x::xs) H2
section
variable{X:Cx}{e:Expr}{es:List Expr}{te:TE}{t:TA}{pos:Pos}
theorem pa_nil:PA X [] aBl:=λ_ _ _ _ H Q I h=>Calls.spliced_nil ⟨[],H,I,.nil,h⟩
theorem TK(ha:PE X e te)(hr:PA X es t)(hs:starEach (e::es) X.env=(false,eval e X.env)::starEach es X.env:=by rfl):PA X (e::es) (VW te t):=by
 intro pos pins s σ H Q I h;rw [hs];show wpAny _ _ (spliced ((false,eval e X.env)::backTo pos (starEach es X.env))) _ _ s;refine Calls.spliced_cons (thn (ha pins s σ H _ I h) λu s1 ⟨x,H1,I1,r1,q1⟩=>?_);exact thn (hr pos pins s1 σ H1 _ I1 q1) λus s2 ⟨xs,H2,I2,r2,q2⟩=>⟨x::xs,H2,I2,.cons r1 r2,q2⟩
def aCy(t:TA):TE:=λσ H Q=>t σ H λxs H1=>xs.length<=sizeLine/\∀p,H1 p=none->Q (.ref p) (upd H1 p (.tup xs))
def aCz(t:TA):TE:=λσ H Q=>t σ H λxs H1=>xs.length<=sizeLine/\∀p,H1 p=none->Q (.ref p) (upd H1 p (.lst xs))
theorem ZQ{x1}(h:PA X es t):PE X (.Tuple es x1 pos) (aCy t):=by
 intro pins s σ H Q I hq;refine wpAny_Tuple_spliced (thn (h pos pins s σ H _ I hq) λus s1 ⟨xs,H1,I1,r,z,q⟩=>⟨by rw [<-r.length];exact z,?_⟩);have hf:H1 s1.heap.objs.size=none:=I1.hok.fresh (aJ _);refine ⟨.ref s1.heap.objs.size,upd H1 s1.heap.objs.size (.tup xs),I1.laid (t':=s1.toks) (λb u e=>aB _ e) (aJ _) ?_,rfl,q _ hf⟩;exact ⟨⟨z,_,aY _ rfl,rfl⟩,us,r,⟨_,aY _ rfl,rfl,_,rfl⟩⟩
theorem ZT(h:PA X es t):PE X (.List es pos) (aCz t):=by
 intro pins s σ H Q I hq;refine wpAny_List_spliced (thn (h pos pins s σ H _ I hq) λus s1 ⟨xs,H1,I1,r,z,q⟩=>⟨by rw [<-r.length];exact z,?_⟩);have hf:H1 s1.heap.objs.size=none:=I1.hok.fresh (aJ _);refine ⟨.ref s1.heap.objs.size,upd H1 s1.heap.objs.size (.lst xs),I1.laid (t':=s1.toks) (λb u e=>aB _ e) (aJ _) ?_,rfl,q _ hf⟩;exact ⟨z,us,0,r,aY _ rfl⟩
end
abbrev Sp:=List V->Hp->VK->XK->Prop
abbrev LP:=List Env->Hp->Shared->XK->Value->Shared->Prop
structure DZ(P:Program)(w:World)(K:PySem.W.Frag)(mg:Str->Option Value)(base:Heap)(A:Around)(outer:List Env)(s:Shared)(H:Hp):Prop where
 frames:A.frames=some outer
 mod:LO K mg base
 bs:∀b o,base.get? b=some o->s.heap.get? b=some o/\H b=none
 bsz:base.objs.size<=s.heap.objs.size
 funs:s.heap.FunFrames base outer
 frf:∀b∈frs outer,H b=none
 hok:nC P w H s.heap
 bare:AllBare s.gens
def CE(outer:List Env)(P:Program)(w:World)(H:Hp)(s:Shared)(Q:VK)(u:Value)(s':Shared):Prop :=
 ∃v H',s'.os=s.os/\AllBare s'.gens/\Un (frs outer) [] H H' s.heap s'.heap/\nC P w H' s'.heap/\dH v u/\Q v H'
def CR(CX:LP)(outer:List Env)(P:Program)(w:World)(H:Hp)(s:Shared)(Q:VK)(E:XK)(r:Result)(s':Shared):Prop :=
 match r with
 | .ok (.ret u)=>CE outer P w H s Q u s'
 | .ok _=>False
 | .error e=>CX outer H s E e s'
structure dZ(P:Program)(w:World)(K:PySem.W.Frag)(mg:Str->Option Value)(base:Heap)(CX:LP)(k:Nat)(f:Addr)(fd:FuncData)(ps:List Str)(sp:Sp):Prop where
 len:∀vs H Q E,sp vs H Q E->vs.length=ps.length
 run:∀(A:Around) (outer:List Env) (s:Shared) (H:Hp) (args:Args) (us:List Value) (vs:List V) (Q:VK) (E:XK),iD k A->DZ P w K mg base A outer s H->BindsTo s fd args (ps.zip us)->cV vs us->sp vs H Q E ->
  codeAny (model P w) A (.call (.ref f) args) (CR CX outer P w H s Q E) s
theorem DZ.in1{P:Program}{w:World}{K:PySem.W.Frag}{mg:Str->Option Value}{base:Heap}{A:Around}{outer:List Env}{s:Shared}{H:Hp}(e:DZ P w K mg base A outer s H) :
  DZ P w K mg base A.in1 outer s H:=⟨e.frames,e.mod,e.bs,e.bsz,e.funs,e.frf,e.hok,e.bare⟩
section
variable{X:Cx}{pins:List (Addr × Obj)}{σ:St}{H:Hp}{s s':Shared}
theorem cE.env0(I:cE X pins σ H s):DZ X.prog X.w X.K X.mg X.base X.A X.stack s H :=
 ⟨I.ok.frames,I.ok.mod,I.bs,aQ I.ok.bsz I.sz,I.stack,I.stkFree,I.hok,I.bare⟩
theorem cE.after{Q:VK}{u:Value}(I:cE X pins σ H s)(h:CE X.stack X.prog X.w H s Q u s'):EP X pins σ Q u s':=by
 obtain ⟨v,H',os,bare,un,hok,r,q⟩:=h;obtain ⟨hh,g,d,t,os'⟩:=s';obtain rfl:os'=s.os:=os;exact ⟨v,H',I.call (h':=hh) (g':=g) (d':=d) (t':=t) (ch:=[]) un hok bare (λb z=>absurd z (by simp)),r,q⟩
end
def MK(sp:Sp)(dvs:List V)(E:XK)(t:TA):TE:=λσ H Q=>t σ H λvs H1=>sp (vs++dvs) H1 Q E
def pR(K:PySem.W.Frag)(fd:FuncData)(ps:List Str)(ds:List Value):Prop :=
 ∀(s:Shared) (us:List Value),K.In s.heap->(us++ds).length=ps.length->BindsTo s fd ⟨us,[]⟩ (ps.zip (us++ds))
theorem pR.all{K:PySem.W.Frag}{fd:FuncData}{ps:List Str}(h:∀us:List Value,us.length=ps.length->bindArgs fd ⟨us,[]⟩=pure (ps.zip us)):pR K fd ps []:=λs us _ hl=>by
 rw [List.append_nil] at hl ⊢;exact .of_eq (h us hl)
def GD(CX:LP)(X:Cx)(E:XK):Prop:=∀(pins:List (Addr × Obj)) (σ:St) (H:Hp) (s:Shared) (e:Value) (s':Shared),cE X pins σ H s->CX X.stack H s E e s'->X.xe e s'
section
variable{X:Cx}{CX:LP}{k:Nat}{f C:Addr}{fd:FuncData}{ps:List Str}{sp:Sp}{dvs:List V}{ds:List Value}{E:XK}{x m:Str}{p pos apos:Pos}{e o:Expr}{es:List Expr}{ta:TE}{t:TA}
theorem YV{pins:List (Addr × Obj)}{σ:St}{H:Hp}{s:Shared}{Q:VK}{us:List Value}{vs:List V}(F:dZ X.prog X.w X.K X.mg X.base CX k f fd ps sp)(hr:iD k X.A)(hb:pR X.K fd ps ds)(hd:cV dvs ds)(hx:GD CX X E)
  (I:cE X pins σ H s) (r:cV vs us) (h:sp (vs++dvs) H Q E):wpAny (model X.prog X.w) X.A (call (.ref f) us) (EP X pins σ Q) X.xe s:=by
 have r2:cV (vs++dvs) (us++ds):=r.append hd;have hl:(us++ds).length=ps.length:=by rw [<-r2.length];exact F.len _ _ _ _ h
 refine wpAny_call (codeAny_mono (F.run X.A X.stack s H ⟨us,[]⟩ (us++ds) (vs++dvs) Q E hr I.env0 (hb s us I.kIn hl) r2 h) λr s' hq=>?_);cases r with
 | error e=>exact hx pins σ H s e s' I hq
 | ok fl =>
  cases fl with
  | ret u=>exact I.after hq
  | next=>exact False.elim hq
  | brk=>exact False.elim hq
  | cont=>exact False.elim hq
theorem TH(F:dZ X.prog X.w X.K X.mg X.base CX k f fd ps sp)(hr:iD k X.A)(hg:Gl X x)(hm:X.mg x=some (.ref f))(hk:PySem.W.keepIn X.K (.ref f)=true)(hb:pR X.K fd ps ds)(hd:cV dvs ds)(hx:GD CX X E)
  (ha:PA X (e::es) t) (hdb:(x == ("__debug__" : Str))=false:=by decide) (he:starEach (e::es) X.env=(false,eval e X.env)::starEach es X.env:=by rfl) (hpl:(backTo pos (starEach es X.env)).any (·.1)=false:=by rfl) :
  PE X (.Call (.Name x p) (e::es) [] pos) (MK sp dvs E t):=by
 intro pins s σ H Q I h;refine wpAny_Call_Name_kw (HK I hg hm ?_ hdb);refine PySem.W.callWith_K (h₀:=X.base) I.ok.mod.kin hk (thn (ha pos pins s σ H _ I h) λus s1 ⟨vs,H1,I1,r,q⟩=>⟨I1.kIn,?_⟩) he hpl;exact YV F hr hb hd hx I1 r q
end
section
variable{X:Cx}{CX:LP}{k:Nat}{f C:Addr}{fd:FuncData}{ps ks:List Str}{sp:Sp}{E:XK}{x m:Str}{p pos apos kpos:Pos}{e o:Expr}{es:List Expr}{kws:List Keyword}{te ta:TE}{t tk:TA}{nm:Option Str}
variable{g:List Value->List Value->List Value}{gV:List V->List V->List V}
end
structure bZ(N P:List Str)(sc:Scope):Prop where
 kind:sc.kind=.function
 co:sc.isCoroutine=false
 gen:sc.isGenerator=false
 nd:N.Nodup
 pre:N.take P.length=P
 par:∀x∈P,sc.names.lookup x=some .local\/sc.names.lookup x=some .cell
 nofree:∀y∈sc.names,y.2 ≠ .free
theorem yW{kindOf:Str->Option NameKind}{x:Str}:∀{binds:List (Str × Value)}{m:Str->Option Value},(∀v,(x,v) ∉ binds)->bindL kindOf binds m x=m x
 | [],_,_=>rfl
 | (n,v)::r,m,h=>by
  unfold bindL;rw [yW λw hw=>h w (aF _ hw)];split
  ·have:x≠n:=by rintro rfl;exact h v aH
   simp [this]
  ·rfl
theorem yY{kindOf:Str->Option NameKind}{x:Str}:∀{binds:List (Str × Value)}{m:Str->Option Value},(∀v,(x,v) ∉ binds)->bindC kindOf binds m x=m x
 | [],_,_=>rfl
 | (n,v)::r,m,h=>by
  unfold bindC;rw [yY λw hw=>h w (aF _ hw)];split
  ·rfl
  ·have:x≠n:=by rintro rfl;exact h v aH
   simp [this]
theorem yX{kindOf:Str->Option NameKind}{x:Str}{v:Value}:∀{P:List Str}{vs:List Value}{i:Nat}{m:Str->Option Value},P.Nodup->P[i]?=some x->vs[i]?=some v->kindOf x=some .local ->
  bindL kindOf (P.zip vs) m x=some v
 | [],_,_,_,_,h,_,_=>by simp at h
 | _::_,[],_,_,_,_,h,_=>by simp at h
 | p::P,w::vs,0,m,nd,h1,h2,hk=>by
  simp at h1 h2;subst h1;subst h2;show bindL kindOf ((p,w)::P.zip vs) m p=_;unfold bindL;rw [yW λv hv=>(List.nodup_cons.mp nd).1 (List.of_mem_zip hv).1,if_pos hk];simp
 | p::P,w::vs,i+1,m,nd,h1,h2,hk=>by
  show bindL kindOf ((p,w)::P.zip vs) m x=_;unfold bindL;exact yX (i:=i) (List.nodup_cons.mp nd).2 (by simpa using h1) (by simpa using h2) hk
theorem yZ{kindOf:Str->Option NameKind}{x:Str}{v:Value}:∀{P:List Str}{vs:List Value}{i:Nat}{m:Str->Option Value},P.Nodup->P[i]?=some x->vs[i]?=some v->kindOf x≠some .local ->
  bindC kindOf (P.zip vs) m x=some v
 | [],_,_,_,_,h,_,_=>by simp at h
 | _::_,[],_,_,_,_,h,_=>by simp at h
 | p::P,w::vs,0,m,nd,h1,h2,hk=>by
  simp at h1 h2;subst h1;subst h2;show bindC kindOf ((p,w)::P.zip vs) m p=_;unfold bindC;rw [yY λv hv=>(List.nodup_cons.mp nd).1 (List.of_mem_zip hv).1,if_neg hk];simp
 | p::P,w::vs,i+1,m,nd,h1,h2,hk=>by
  show bindC kindOf ((p,w)::P.zip vs) m x=_;unfold bindC;exact yZ (i:=i) (List.nodup_cons.mp nd).2 (by simpa using h1) (by simpa using h2) hk
def start(N:List Str)(vs:List V):St:=vs.map some++List.replicate (N.length-vs.length) none
def uF(CX:LP)(P:Program)(w:World)(K:PySem.W.Frag)(mg:Str->Option Value)(base:Heap)(N:List Str)(qual:Str)(scope:Scope)(f:Addr)(cd:Value)(A:Around)(outer:List Env)(s:Shared)(H:Hp)(E:XK):Cx where
 prog:=P
 w:=w
 K:=K
 mg:=mg
 base:=base
 A:=A.deeper (envOfC qual scope s.heap.objs.size f cd)
 N:=N
 s₀:=s
 H₀:=H
 env:=envOfC qual scope s.heap.objs.size f cd
 outer:=outer
 stack:=envOfC qual scope s.heap.objs.size f cd::outer
 ex:=[]
 calm:=true
 fn:=λ_=>true
 pn:=[]
 xe:=λe s'=>wpAny (model P w) (A.deeper (envOfC qual scope s.heap.objs.size f cd)) (leaving (envOfC qual scope s.heap.objs.size f cd) e) (λ_ s''=>CX outer H s E e s'') (λe' s''=>CX outer H s E e' s'') s'
theorem DR{sc:Scope}{n:Nat}{x:Str}(h:sc.names.lookup x=some .cell):∃c,(cellsFrom n sc.names []).lookup x=some c:=by
 have q:=PySem.W.cellsFrom_some sc.names n [] (.inl h);exact Option.isSome_iff_exists.mp q
theorem yK{CX:LP}{P:Program}{w:World}{K:PySem.W.Frag}{mg:Str->Option Value}{base:Heap}{N ps:List Str}{qual:Str}{scope:Scope}{f:Addr}{cd:Value}{A:Around}{outer:List Env}{s s1:Shared}{H:Hp}{E:XK}{us:List Value}{vs:List V}
  (S:bZ N ps scope) (hd:A.handled=none) (e0:DZ P w K mg base A outer s H) (hl:vs.length=ps.length) (r:cV vs us)
  (x:InCallC s s.heap.objs.size (bindL (envOfC qual scope s.heap.objs.size f cd).kindOf (ps.zip us) λ_=>none) (cellsFrom (s.heap.objs.size+1) scope.names []) (bindC (envOfC qual scope s.heap.objs.size f cd).kindOf (ps.zip us) λ_=>none) s1) :
  cE (uF CX P w K mg base N qual scope f cd A outer s H E) [] (start N vs) H s1:=by
 have hpl:ps.length<=N.length:=by have:=congrArg List.length S.pre;rw [dC] at this;omega
 obtain ⟨h1,tk,rfl,hk⟩:=x.done;have noA:∀b:Addr,b ∉ (uF CX P w K mg base N qual scope f cd A outer s H E).ex:=λb z=>absurd (show b∈([]:List Addr) from z) (by simp);refine ⟨⟨e0.mod,S.kind,rfl,rfl,aJ _,λy z c h1 h2=>?_,λy hy=>?_,λy c _ h=>?_,λ_=>hd,Around.frames_deeper e0.frames,.inr ⟨rfl,rfl⟩,λb z=>absurd z (noA b),e0.bs,e0.bsz,λb _ _=>noA b,λb z=>absurd z (noA b),e0.funs,e0.frf⟩,
  rfl,e0.bare,Un.kept hk,⟨_,x.toInCall.ns,λi y v h1 h2 h3=>?_⟩,λy c h=>⟨_,x.cell y c h⟩,e0.hok.fresh (aJ _),λy c h=>?_,λp hp=>absurd (show p∈([]:List (Addr × Obj)) from hp) (by simp),e0.hok.kept hk,?_⟩
 ·exact name_of_addr x.apart (PySem.mem_of_lookup h1) (PySem.mem_of_lookup h2)
 ·have hy:scope.names.lookup y=some .cell\/scope.names.lookup y=some .free:=hy;rcases hy with hy | hy
  ·exact DR hy
  ·exact absurd rfl (S.nofree _ (PySem.mem_of_lookup hy))
 ·exact Nat.le_of_lt (x.above y c (PySem.mem_of_lookup h))
 ·have hi:i<vs.length:=by
   unfold start at h2;by_cases hi:i<vs.length
   ·exact hi
   ·rw [List.getElem?_append_right (by simpa using hi)] at h2;rw [List.getElem?_replicate] at h2;split at h2 <;> cases h2
  have ha:vs[i]?=some v:=by
   unfold start at h2;rw [List.getElem?_append_left (by simpa using hi),aE] at h2;cases e:vs[i]? with
   | none=>rw [e] at h2;cases h2
   | some a=>rw [e] at h2;cases h2;rfl
  obtain ⟨u,hu,rv⟩:=r.get ha;have hp:ps[i]?=some y:=by
   rw [<-S.pre,List.getElem?_take_of_lt Oo];exact h1
  have ndP:ps.Nodup:=by rw [<-S.pre];exact S.nd.sublist (List.take_sublist _ _)
  refine ⟨u,rv,?_⟩;rcases S.par y (aZ hp) with k | k
  ·exact .inl ⟨k,yX ndP hp hu k⟩
  ·obtain ⟨c,e⟩:=DR (n:=s.heap.objs.size+1) k;refine .inr ⟨.inl k,c,e,?_⟩;have q:=x.cell y c e;rw [yZ ndP hp hu (by show scope.names.lookup y≠_;rw [k];decide)] at q;exact q
 ·exact e0.hok.fresh (Nat.le_of_lt (x.above y c (PySem.mem_of_lookup h)))
 ·unfold start;show _=N.length;rw [bF,aA,cB];omega
theorem WO{CX:LP}{P:Program}{w:World}{K:PySem.W.Frag}{mg:Str->Option Value}{base:Heap}{k:Nat}{f:Addr}{name qual:Str}{params:Arguments}{body:List Stmt}{scope:Scope}{dV kV doc pm cdv ct oc:Value}{an od:Option Addr}
  {osl:Array (Option Value)} {N ps:List Str} {sp:Sp} (lk:K.lookup f=some ⟨oc,od,.func (PySem.W.fnOf name qual params body scope dV kV doc pm an cdv ct),osl⟩) (hcd:PySem.W.codeIn K cdv qual=true) (S:bZ N ps scope)
  (len:∀vs H Q E,sp vs H Q E->vs.length=ps.length)
  (hbody:∀(A:Around) (outer:List Env) (s:Shared) (H:Hp) (vs:List V) (Q:VK) (E:XK),iD k (A.deeper (envOfC qual scope s.heap.objs.size f cdv))->sp vs H Q E ->
   ∃t,GF (uF CX P w K mg base N qual scope f cdv A outer s H E) body t/\t { nx:=λ_ H'=>Q .non H',rt:=Q } (start N vs) H) :
  dZ P w K mg base CX (k+1) f (PySem.W.fnOf name qual params body scope dV kV doc pm an cdv ct) ps sp:=by
 refine ⟨len,λA outer s H args us vs Q E hr e0 hb r hsp=>?_⟩;have hl:=len _ _ _ _ hsp;have KX:K.In s.heap:=e0.mod.kin.keeps λb o e=>(e0.bs b o e).1;have lim:s.heap.NoLimit:=e0.mod.nolimit.keeps λb o e=>(e0.bs b o e).1;have hkind:∀y∈ps.zip us,scope.names.lookup y.1=some .local\/(scope.names.lookup y.1=some .cell/\((cellsFrom (s.heap.objs.size+1) scope.names []).lookup y.1).isSome=true):=λ⟨n,v⟩ hy=>by
  rcases S.par n (List.of_mem_zip hy).1 with q | q
  ·exact .inl q
  ·exact .inr ⟨q,PySem.W.cellsFrom_some _ _ _ (.inl q)⟩
 refine codeAny_call_function hr.depth (KX _ _ lk) rfl S.co S.gen rfl (PySem.W.codeRec_of KX hcd) (hb _ _ _ _ ?_);refine wpAny_newFunctionEnv_cells S.kind hkind λenv he s1 x=>?_;subst he;refine ⟨lim.keeps x.toInCall.keep,codeAny_func ?_⟩;obtain ⟨t,ht,hq⟩:=hbody A outer s H vs Q E (hr.deeper _) hsp;have I:cE (uF CX P w K mg base N qual scope f cdv A outer s H E) [] (start N vs) H s1:=yK S hr.hd e0 hl r x;refine wpAny_mono (ht [] s1 (start N vs) H _ I hq) (λfl s' hs=>?_) λe s' hs=>hs;have fin:∀{σ':St} {H':Hp} {v:V} {u:Value},cE (uF CX P w K mg base N qual scope f cdv A outer s H E) [] σ' H' s'->dH v u->Q v H'->CE outer P w H s Q u s' :=
  λ{σ' H' v u} J rv q=>⟨v,H',J.os,J.bare,J.base,J.hok,rv,q⟩
 cases fl with
 | ret u =>
  obtain ⟨v,σ',H',J,rv,q⟩:=hs;exact fin J rv q
 | next =>
  obtain ⟨σ',H',J,q⟩:=hs;exact fin (v:=V.non) (u:=Value.none) J rfl q
 | brk =>
  obtain ⟨_,_,_,q⟩:=hs;exact False.elim q
 | cont =>
  obtain ⟨_,_,_,q⟩:=hs;exact False.elim q
section
variable{X:Cx}{x:Str}{p pos:Pos}{e:Expr}{es:List Expr}{t:TA}{id T:String}{r:List V->Hp->VK->Prop}
def tCB(r:List V->Hp->VK->Prop)(t:TA):TE:=λσ H Q=>t σ H λvs H1=>r vs H1 Q
theorem NP(hc:fX X (.builtin id) r)(hg:Gl X x)(hm:X.mg x=none)(hv:bootBuiltins x=some (.builtin id))(ha:PA X (e::es) t)(hn:x ≠ "__name__" := by decide)(hdb:(x == ("__debug__" : Str))=false:=by decide)
  (he:starEach (e::es) X.env=(false,eval e X.env)::starEach es X.env:=by rfl) (hpl:(backTo pos (starEach es X.env)).any (·.1)=false:=by rfl):PE X (.Call (.Name x p) (e::es) [] pos) (tCB r t):=by
 intro pins s σ H Q I h;refine wpAny_Call_Name_kw (sN I hg hm hv ?_ hn hdb);exact PyProof.Rows.callWith_builtin1 (thn (ha pos pins s σ H _ I h) λus s1 ⟨vs,H1,I1,r1,q1⟩=>hc pins s1 σ H1 vs us Q I1 r1 q1) he hpl
theorem JT(hc:fX X (.type T) r)(hg:Gl X x)(hm:X.mg x=none)(hv:bootBuiltins x=some (.type T))(ha:PA X (e::es) t)(hn:x ≠ "__name__" := by decide)(hdb:(x == ("__debug__" : Str))=false:=by decide)
  (he:starEach (e::es) X.env=(false,eval e X.env)::starEach es X.env:=by rfl) (hpl:(backTo pos (starEach es X.env)).any (·.1)=false:=by rfl):PE X (.Call (.Name x p) (e::es) [] pos) (tCB r t):=by
 intro pins s σ H Q I h;refine wpAny_Call_Name_kw (sN I hg hm hv ?_ hn hdb);exact PyProof.Rows.callWith_type1 (thn (ha pos pins s σ H _ I h) λus s1 ⟨vs,H1,I1,r1,q1⟩=>hc pins s1 σ H1 vs us Q I1 r1 q1) he hpl
end
end L2
namespace HT
open PySem PyProof.Rows
def mD:List Int->List Int->Bool
 | [],[]=>false
 | [],_::_=>true
 | _::_,[]=>false
 | x::xs,y::ys=>if x=y then mD xs ys else decide (x<y)
theorem wD(x y:Int)(xs ys:List Int):mD (x::xs) (y::ys)=if x=y then mD xs ys else decide (x<y):=rfl
theorem xQ:mD [] []=false:=rfl
theorem wB(y:Int)(ys:List Int):mD [] (y::ys)=true:=rfl
theorem wC(x:Int)(xs:List Int):mD (x::xs) []=false:=rfl
theorem OT(A:Around)(s:Shared)(a:Int)(t:Tok)(c:Int)(u:Tok):∃e,SeqAt.EqAt A s (.int a t) (.int c u) e/\(e=true↔a=c) :=
 ⟨(a == c),SeqAt.EqAt.int_int a t c u,by simp⟩
theorem MY(A:Around)(s:Shared)(a:Int)(t:Tok)(c:Int)(u:Tok)(prog:Program)(w:World)(E:Value->Shared->Prop)(Q:Value->Shared->Prop)(h:Q (.bool (decide (a<c))) s) :
  wpAny (model prog w) A (richCompare .Lt (.int a t) (.int c u)) Q E s :=
 (PyProof.Rows.lt_int h:wpAny (model prog w) A (compareOp .Lt (.int a t) (.int c u)) Q E s)
section
open PySem.SeqAt
open PySem.AutoSeq1 (wpAny_loadPart')
open PySem.MeetsSeq PySem.MeetsSeq2 PySem.MeetsSeq3
theorem xG(l b:Addr)(items items2:Array Value)(n n2:Nat)(dd dd2:Option Addr)(sl sl2:Array (Option Value))(ns ms:List Int)(hi:IntsAre items.toList ns)(hj:IntsAre items2.toList ms) :
  Meets (Builtin.«tuple.__lt__» ⟨[.ref l,.ref b],[]⟩)
   (λ_ R s=>s.heap.get? l=some { cls:=.type "tuple",dict:=dd,data:=.seq items n,slots:=sl }/\s.heap.get? b=some { cls:=.type "tuple",dict:=dd2,data:=.seq items2 n2,slots:=sl2 } /\
    R (.ok (.ret (.bool (mD ns ms)))) s) :=
 .of_wp λprog w A R s h=>by
  obtain ⟨hp,g,d,tk,os⟩:=s;obtain ⟨hl,hb,h⟩:=h;have f2:=AutoSeq1.sub_tuple_tuple;have z1:items.size=ns.length:=by rw [<-hi.length];simp
  have z2:items2.size=ms.length:=by rw [<-hj.length];simp
  wp_walk using wpAny_loadPart' hl,wpAny_loadPart' hb,wpAny_forIn_list _ (λrest b s'=>b.1=none/\s'=⟨hp,g,d,tk,os⟩/\∃(vs ws:List Value) (ns' ms':List Int),rest=vs.zip ws /\
   IntsAre vs ns'/\IntsAre ws ms'/\ns'.length+items2.size=ms'.length+items.size/\R (.ok (.ret (.bool (mD ns' ms')))) ⟨hp,g,d,tk,os⟩) _
  case turn =>
   rintro ⟨y,x⟩ rest b s' ⟨hb',rfl,vs,ws,ns',ms',hz,hvi,hwi,hlen,hR⟩;cases hvi with
   | nil=>rw [List.zip_nil_left] at hz;cases hz
   | cons a t hvi' =>
    cases hwi with
    | nil=>rw [List.zip_nil_right] at hz;cases hz
    | cons c u hwi' =>
     rw [List.zip_cons_cons] at hz;injection hz with hyx hrest;injection hyx with hy hx;subst hy hx;rw [wD] at hR;simp only [cM] at hlen;obtain ⟨e,he,hiff⟩:=OT A.in1 ⟨hp,g,d,tk,os⟩ a t c u;refine wpAny_bind (he prog w _ _ ?_);cases e with
     | true =>
      rw [if_pos (hiff.mp rfl)] at hR
      wp_walk
      exact ⟨rfl,rfl,_,_,_,_,hrest,hvi',hwi',Oo,hR⟩
     | false =>
      rw [if_neg (λq=>absurd (hiff.mpr q) bI)] at hR;have hri:=MY A.in1 ⟨hp,g,d,tk,os⟩ a t c u prog w
      wp_walk using hri
      exact ⟨_,rfl,by simpa using hR⟩
  case fin =>
   rintro ⟨b1,b2⟩ s' ⟨hb',rfl,vs,ws,ns',ms',hz,hvi,hwi,hlen,hR⟩;simp only at hb';subst hb';have hv:mD ns' ms'=decide (items.size<items2.size):=by
    cases hvi with
    | nil =>
     cases hwi with
     | nil =>
      simp only [List.length_nil] at hlen;rw [xQ];exact (cJ Oo).symm
     | cons c u hw =>
      simp only [List.length_nil,cM] at hlen;rw [wB];exact (bV Oo).symm
    | cons a t hv =>
     cases hwi with
     | nil =>
      simp only [List.length_nil,cM] at hlen;rw [wC];exact (cJ Oo).symm
     | cons c u hw =>
      rw [List.zip_cons_cons] at hz;cases hz
   rw [hv] at hR
   wp_walk
   exact ⟨_,rfl,by simpa [Builtin.Tuple.tupleCompareSizes] using hR⟩
  case h =>
   exact ⟨rfl,rfl,items.toList,items2.toList,ns,ms,rfl,hi,hj,Oo,h⟩
end
section
variable{prog:Program}{w:World}{A:Around}{E:Value->Shared->Prop}{s:Shared}
theorem FO{l b:Addr}{items items2:Array Value}{ns ms:List Int}{Q:Value->Shared->Prop}(hl:IsTup s.heap l items)(hb:IsTup s.heap b items2)(hi:IntsAre items.toList ns)(hj:IntsAre items2.toList ms)
  (hu:A.units<cLine) (h:Q (.bool (mD ns ms)) s):wpAny (model prog w) A (compareOp .Lt (.ref l) (.ref b)) Q E s:=by
 obtain ⟨⟨cls,dd,data,sl⟩,ho,hc,n,hd⟩:=id hl;obtain ⟨⟨cls2,dd2,data2,sl2⟩,ho2,hc2,n2,hd2⟩:=id hb;simp only at hc hd hc2 hd2;subst hc hd hc2 hd2;exact richCompare_meets_room (op:=.Lt) ⟨_,ho,rfl⟩ ⟨_,ho2,rfl⟩ PySem.F.slot_tuple_lt PySem.F.entry_tuple_lt (PySem.F.args_tuple_lt_2 _ _) (xG l b items items2 n n2 dd dd2 sl sl2 ns ms hi hj)
  ⟨ho,ho2,show Value.bool (mD ns ms)≠Value.notImplemented/\Q (.bool (mD ns ms)) s from ⟨(λx=>nomatch x),h⟩⟩ hu
theorem UY{t b:Addr}{vs ws:List Value}{Q:Value->Shared->Prop}(ht:IsTup s.heap t vs.toArray)(hb:IsTup s.heap b ws.toArray)(hv:vs≠[])
  (h1:ws=[]->Q (.ref t) s) (h2:ws≠[]->Q (.ref s.heap.objs.size) { s with heap:=s.heap.push { cls:=.type "tuple",data:=.seq (vs++ws).toArray } })
  (hsz:vs.length+ws.length<=sizeLine):wpAny (model prog w) A (binaryOp .Add (.ref t) (.ref b)) Q E s:=by
 obtain ⟨⟨cls,dd,data,sl⟩,ho,hc,n,hd⟩:=id ht;obtain ⟨⟨cls2,dd2,data2,sl2⟩,ho2,hc2,n2,hd2⟩:=id hb;simp only at hc hd hc2 hd2;subst hc hd hc2 hd2;have e:vs.toArray++ws.toArray=(vs++ws).toArray:=by simp
 by_cases hw:ws=[]
 ·exact concat_meets ⟨_,ho,rfl⟩ ⟨_,ho2,rfl⟩ noFill_tuple_add seq_tuple_add PySem.F.slot_tuple_add PySem.F.entry_tuple_add (PySem.F.args_tuple_add_2 _ _)
   (tuple_addW1 t b vs.toArray ws.toArray n n2 dd dd2 sl sl2 (by simpa using hv) (by simp [hw])) ⟨ho,ho2,h1 hw⟩
 ·refine concat_meets ⟨_,ho,rfl⟩ ⟨_,ho2,rfl⟩ noFill_tuple_add seq_tuple_add PySem.F.slot_tuple_add PySem.F.entry_tuple_add (PySem.F.args_tuple_add_2 _ _)
   (tuple_addW2 t b vs.toArray ws.toArray n n2 dd dd2 sl sl2 (by simpa using hv) (by simpa using hw) (by rw [aW,aW];exact hsz)) ⟨ho,ho2,?_⟩
  rw [e];exact h2 hw
def iG(n d:Nat):Option Int->Nat
 | none=>d
 | some v=>if v<0 then (v+(n:Int)).toNat else min v.toNat n
theorem CB(n d:Nat):iG n d none=d:=rfl
theorem GR(n d k:Nat):iG n d (some (k:Int))=min k n:=by
 show (if (k:Int)<0 then ((k:Int)+(n:Int)).toNat else min (k:Int).toNat n)=min k n;rw [if_neg Oo,Int.toNat_natCast]
theorem YQ(n d:Nat)(hd:d<=n)(o:Option Int):iG n d o<=n:=by
 cases o with
 | none=>exact hd
 | some v =>
  show (if v<0 then (v+(n:Int)).toNat else min v.toNat n)<=n;by_cases hv:v<0
  ·rw [if_pos hv];omega
  ·rw [if_neg hv];exact Nat.min_le_right _ _
theorem IH(v:Int)(n d:Nat):(if v<0 then max (v+(n:Int)) 0 else min v (n:Int))=((iG n d (some v):Nat):Int):=by
 show (if v<0 then max (v+(n:Int)) 0 else min v (n:Int))=(((if v<0 then (v+(n:Int)).toNat else min v.toNat n):Nat):Int);by_cases hv:v<0
 ·simp only [if_pos hv];omega
 ·simp only [if_neg hv];omega
theorem GB(lo hi:Option Int)(n:Nat):Builtin.Slice.sliceAdjust lo hi 1 (n:Int)=(((iG n 0 lo:Nat):Int),((iG n n hi:Nat):Int)):=by
 have h1:¬((1:Int)<0):=Oo;unfold Builtin.Slice.sliceAdjust;simp only [h1,if_false];refine Prod.ext ?_ ?_
 ·cases lo with
  | none=>rfl
  | some v=>exact IH v n 0
 ·cases hi with
  | none=>rfl
  | some v=>exact IH v n n
theorem FH(i j:Nat):Builtin.Slice.slicePlaces (i:Int) (j:Int) 1=j-i:=by
 unfold Builtin.Slice.slicePlaces;have h1:(1:Int) > 0:=Oo;simp only [h1,if_true,Int.ediv_one];split <;> omega
theorem vJ{v:Value}{o:Option Int}{Q:Option Int->Shared->Prop}(p:IsPart v o)(h:Q o s):wpAny (model prog w) A (Builtin.Slice.slicePartIndex v) Q E s:=by
 cases p with
 | none=>exact slicePart_none h
 | int i t=>exact slicePart_int h
theorem lZ{sl:Addr}{vl vu:Value}{lo hi:Option Int}{n:Nat}{Q:Int × Int × Nat->Shared->Prop}(hs:s.heap.IsSliceOf sl vl vu .none)(pl:IsPart vl lo)(pu:IsPart vu hi)
  (h:Q (((iG n 0 lo:Nat):Int),1,iG n n hi-iG n 0 lo) s):wpAny (model prog w) A (Builtin.Slice.sliceApplied (.ref sl) (pure (n:Int))) Q E s:=by
 obtain ⟨os,hos,hcs,hds⟩:=id hs;unfold Builtin.Slice.sliceApplied Builtin.Slice.sliceFields;refine wpAny_bind (wpAny_bind (wpAny_field hos hds (x:=vl) rfl (wpAny_bind (wpAny_field hos hds (x:=vu) rfl (wpAny_bind (wpAny_field hos hds (x:=.none) rfl (wpAny_pure ?_)))))));refine wpAny_bind (slicePart_none ?_);show wpAny _ _ (if ((1:Int) == 0)=true then _ else _) _ _ s;rw [if_neg Dd];refine wpAny_bind (vJ pl (wpAny_bind (vJ pu (wpAny_bind (wpAny_pure ?_)))));show wpAny _ _ (match Builtin.Slice.sliceAdjust lo hi 1 (n:Int) with | (lo,hi)=>pure (lo,(1:Int),Builtin.Slice.slicePlaces lo hi 1)) _ _ s;rw [GB lo hi n];show wpAny _ _ (pure (((iG n 0 lo:Nat):Int),(1:Int),Builtin.Slice.slicePlaces ((iG n 0 lo:Nat):Int) ((iG n n hi:Nat):Int) 1)) _ _ s;rw [FH];exact wpAny_pure h
theorem NH(xs:Array Value)(i k:Nat):((List.range k).filterMap λ(m:Nat)=>xs[((i:Int)+(m:Int)*1).toNat]?).toArray=((xs.toList.drop i).take k).toArray:=by
 have e:(λ(m:Nat)=>xs[((i:Int)+(m:Int)*1).toNat]?)=λm=>xs[i+m]?:=by
  funext m
  have:((i:Int)+(m:Int)*1).toNat=i+m:=Oo;rw [this]
 rw [e];have:=pick_run xs i k;rw [List.filterMap_map] at this;have e2:((λx=>xs[x]?) ∘ λx=>i+x)=λm=>xs[i+m]?:=rfl;rw [e2] at this;rw [this]
theorem rG{t sl:Addr}{items:Array Value}{vl vu:Value}{lo hi:Option Int}{Q:Value->Shared->Prop}(ht:IsTup s.heap t items)(hs:s.heap.IsSliceOf sl vl vu .none)(pl:IsPart vl lo)(pu:IsPart vu hi)
  (hw:¬(iG items.size 0 lo=0/\iG items.size items.size hi=items.size))
  (h:Q (.ref s.heap.objs.size) { s with heap:=s.heap.push { cls:=.type "tuple",data:=.seq ((items.toList.drop (iG items.size 0 lo)).take (iG items.size items.size hi-iG items.size 0 lo)).toArray } })
  (hsz:items.size<=sizeLine):wpAny (model prog w) A (getItem (.ref t) (.ref sl)) Q E s:=by
 have htake:sizeOk (.seq ((items.toList.drop (iG items.size 0 lo)).take (iG items.size items.size hi-iG items.size 0 lo)).toArray):=by
  show ((items.toList.drop (iG items.size 0 lo)).take (iG items.size items.size hi-iG items.size 0 lo)).toArray.size<=sizeLine;rw [aW,dC,List.length_drop,Array.length_toList];omega
 have hj:iG items.size items.size hi<=items.size:=YQ _ _ (aJ _) hi;obtain ⟨os,hos,hcs,hds⟩:=id hs;have hTs:s.TypeIs (.ref sl) "slice" := ⟨os,hos,hcs⟩;unfold getItem
 try with_reducible refine wpAny_holding ?_
 first | refine wpAny_bind (wpAny_pure ?_) | skip
 refine wpAny_bind (wpAny_sequenceKey ht.typeIs Dd ?_);refine wpAny_bind (wpAny_callSpecial?_slot (name:=Str.ofString "__getitem__") ht.typeIs PyProof.Rows.slot_tuple_getitem
  (wpAny_call_entry PyProof.Rows.slot_tuple_getitem ht.typeIs entry_tuple_getitem ?_ (args_tuple_getitem _ _)))
 show wpAny _ _ (Builtin.Tuple.tupleItemsOf (.ref t) >>= _) _ _ s;refine wpAny_bind (tupleItemsOf_ ht ?_);refine wpAny_bind (wpAny_typeOf hTs ?_);rw [if_pos Dd];refine wpAny_bind (lZ hs pl pu ?_);have hno:¬((((iG items.size 0 lo:Nat):Int) == 0&&(1:Int) == 1&&(iG items.size items.size hi-iG items.size 0 lo) == items.size)=true):=by
  intro q;rw [cY,cY] at q;have q1:((iG items.size 0 lo:Nat):Int)=0:=eq_of_beq q.1.1;have q2:iG items.size items.size hi-iG items.size 0 lo=items.size:=eq_of_beq q.2;exact hw ⟨Oo,Oo⟩
 show wpAny _ _ (if (((iG items.size 0 lo:Nat):Int) == 0&&(1:Int) == 1&&(iG items.size items.size hi-iG items.size 0 lo) == items.size)=true then _ else _) _ _ s;rw [if_neg hno,NH]
 first
  | exact wpAny_bind (m:=Builtin.Tuple.tupleExact _) (wpAny_newObj_type (wpAny_pure ⟨_,rfl,wpAny_pure h⟩) htake)
  | exact wpAny_bind (m:=Builtin.Tuple.tupleExact _) (wpAny_newObj_type (wpAny_bind (wpAny_pure (wpAny_pure ⟨_,rfl,wpAny_pure h⟩))) htake)
  | exact wpAny_bind (wpAny_bind (m:=Builtin.Tuple.tupleExact _) (wpAny_newObj_type (wpAny_pure (wpAny_pure ⟨_,rfl,wpAny_pure h⟩)) htake))
  | exact wpAny_bind (wpAny_bind (m:=Builtin.Tuple.tupleExact _) (wpAny_newObj_type (wpAny_pure ⟨_,rfl,wpAny_pure h⟩) htake))
end
end HT
namespace L2
open PySem PySem.Spec PyProof.Rows
abbrev TO:=St->Hp->(Option Int->Hp->Prop)->Prop
def PO(X:Cx)(e:Option Expr)(t:TO):Prop :=
 ∀(pins:List (Addr × Obj)) (s:Shared) (σ:St) (H:Hp) (Q:Option Int->Hp->Prop),cE X pins σ H s->t σ H Q ->
  wpAny (model X.prog X.w) X.A (evalPart e X.env) (λu s'=>∃o H',cE X pins σ H' s'/\IsPart u o/\Q o H') X.xe s
def GO:TO:=λ_ H Q=>Q none H
def VP(t:TE):TO:=λσ H Q=>t σ H λx H1=>∃i,x=.int i/\Q (some i) H1
theorem mV{ns:List Int}:∀{us:List Value},cV (ns.map V.int) us->IntsAre us ns:=by
 induction ns with
 | nil=>intro us r;rw [List.map_nil] at r;cases r;exact .nil
 | cons n ns ih =>
  intro us r;rw [aO] at r;cases r with
  | cons r1 r2 =>
   obtain ⟨t,e⟩:=r1;subst e;exact .cons n t (ih r2)
section
variable{X:Cx}{e:Expr}{te:TE}{lo hi:Option Expr}{tl th:TO}{pos p2:Pos}
theorem po_none:PO X none GO:=by
 intro pins s σ H Q I h;rw [evalPart_none];exact wpAny_pure ⟨none,H,I,.none,h⟩
theorem ST(h:PE X e te):PO X (some e) (VP te):=by
 intro pins s σ H Q I hw;rw [evalPart_some];refine thn (h pins s σ H _ I hw) λu s1 ⟨x,H1,I1,r1,q1⟩=>?_;obtain ⟨i,rfl,q⟩:=q1;obtain ⟨t,rfl⟩:=r1;exact ⟨some i,H1,I1,.int i t,q⟩
def SlR(X:Cx)(r:V->Option Int->Option Int->Hp->VK->Prop):Prop :=
 ∀(pins:List (Addr × Obj)) (s:Shared) (σ:St) (H:Hp) (x:V) (v vl vu:Value) (lo hi:Option Int) (sl:Addr) (Q:VK),cE X pins σ H s->dH x v->s.heap.IsSliceOf sl vl vu .none->IsPart vl lo->IsPart vu hi->r x lo hi H Q ->
  ∃T id,typeLookup (.type T) "__getitem__" = pure (some (.builtin id))/\s.TypeIs v T/\wpAny (model X.prog X.w) X.A (getItem v (.ref sl)) (EP X pins σ Q) X.xe s
def tSl(r:V->Option Int->Option Int->Hp->VK->Prop)(te:TE)(tl th:TO):TE:=λσ H Q=>te σ H λx H1=>tl σ H1 λl H2=>th σ H2 λu H3=>r x l u H3 Q
theorem NJ{r:V->Option Int->Option Int->Hp->VK->Prop}(hr:SlR X r)(he:PE X e te)(hl:PO X lo tl)(hu:PO X hi th):PE X (.Subscript e (.Slice lo hi none p2) pos) (tSl r te tl th):=by
 intro pins s σ H Q I h;refine Subscript_ (thn (he pins s σ H _ I h) λv s1 ⟨x,H1,I1,r1,q1⟩=>?_);refine wpAny_Slice (thn (hl pins s1 σ H1 _ I1 q1) λvl s2 ⟨l,H2,I2,pl,q2⟩=>thn (hu pins s2 σ H2 _ I2 q2) λvu s3 ⟨u,H3,I3,pu,q3⟩=>?_);rw [evalPart_none];refine wpAny_pure ?_;have I4:cE X pins σ H3 { s3 with heap:=s3.heap.push { cls:=.type "slice",data:=.fields #[vl,vu,.none] } }:=I3.kept (t':=s3.toks) λb ob q=>aB _ q;obtain ⟨T,id,hT,ht,hg⟩:=hr pins { s3 with heap:=s3.heap.push { cls:=.type "slice",data:=.fields #[vl,vu,.none] } } σ H3 x v vl vu l u s3.heap.objs.size Q I4 r1 (Heap.IsSliceOf.new ..) pl pu q3;show wpAny (model X.prog X.w) X.A (subscriptTail e (.Slice lo hi none p2) v (.ref s3.heap.objs.size)) (EP X pins σ Q) X.xe { s3 with heap:=s3.heap.push { cls:=.type "slice",data:=.fields #[vl,vu,.none] } };exact tail_any (ops:=[.ref s3.heap.objs.size,v]) ht hT hg (by with_unfolding_all rfl)
def oQ(xs:List V)(lo hi:Option Int):List V:=(xs.drop (HT.iG xs.length 0 lo)).take (HT.iG xs.length xs.length hi-HT.iG xs.length 0 lo)
theorem uA(xs:List V)(lo hi:Option Int):(oQ xs lo hi).length<=xs.length:=by
 unfold oQ;rw [dC,List.length_drop];omega
def aCL(K:PySem.W.Frag):V->Option Int->Option Int->Hp->VK->Prop:=λx lo hi H Q=>∃a xs,x=.ref a/\eZ K H a xs /\
 ¬(HT.iG xs.length 0 lo=0/\HT.iG xs.length xs.length hi=xs.length)/\∀p,H p=none->Q (.ref p) (upd H p (.tup (oQ xs lo hi)))
theorem XO:SlR X (aCL X.K):=by
 intro pins s σ H x v vl vu lo hi sl Q I rx hs pl pu h;obtain ⟨a,xs,rfl,hx,hw,q⟩:=h;cases rx;obtain ⟨its,r,ht,hz⟩:=I.tuple hx;have hlen:its.toArray.size=xs.length:=by rw [aW];exact r.length.symm
 refine ⟨"tuple",_,PyProof.Rows.slot_tuple_getitem.lookup,ht.typeIs,?_⟩;refine HT.rG ht hs pl pu (by rw [hlen];exact hw) ?_ (by rw [hlen];exact hz);rw [hlen];refine ⟨.ref s.heap.objs.size,_,I.laid (t':=s.toks) (o:=.tup (oQ xs lo hi)) (λb ob q=>aB _ q) (aJ _) ?_,rfl,q _ (I.hok.fresh (aJ _))⟩;exact ⟨⟨aQ (uA xs lo hi) hz,_,aY _ rfl,rfl⟩,_,(r.drop (HT.iG xs.length 0 lo)).take (HT.iG xs.length xs.length hi-HT.iG xs.length 0 lo),IsTup.new _ _⟩
def aBG(K:PySem.W.Frag):R2:=λx y H Q=>∃a b xs ys,x=.ref a/\y=.ref b/\eZ K H a xs/\eZ K H b ys/\xs≠[]/\xs.length+ys.length<=sizeLine /\
 (ys=[]->Q (.ref a) H)/\(ys≠[]->∀p,H p=none->Q (.ref p) (upd H p (.tup (xs++ys))))
theorem cV.nil_iff{xs:List V}{us:List Value}(r:cV xs us):us=[]↔xs=[]:=by
 cases r with
 | nil=>simp
 | cons _ _=>simp
theorem TM:mN X (binaryOp .Add) (aBG X.K):=by
 intro pins s σ H x y v u Q I rx ry h;obtain ⟨a,b,xs,ys,rfl,rfl,ha,hb,hx,hz,q1,q2⟩:=h;cases rx;cases ry;obtain ⟨its,r1,p1,_⟩:=I.tuple ha;obtain ⟨its2,r2,p2,_⟩:=I.tuple hb;refine HT.UY p1 p2 (λz=>hx (r1.nil_iff.mp z)) (λz=>⟨.ref a,H,I,rfl,q1 (r2.nil_iff.mp z)⟩) (λz=>?_) (by rw [<-r1.length,<-r2.length];exact hz);refine ⟨.ref s.heap.objs.size,_,I.laid (t':=s.toks) (o:=.tup (xs++ys)) (λb ob q=>aB _ q) (aJ _) ?_,rfl,q2 (λw=>z (r2.nil_iff.mpr w)) _ (I.hok.fresh (aJ _))⟩;exact ⟨⟨by rw [bF];exact hz,_,aY _ rfl,rfl⟩,_,r1.append r2,IsTup.new _ _⟩
end
def OH(n:Nat)(i:Int):Option Nat:=if 0<=i then (if i<n then some i.toNat else none) else if -(n:Int)<=i then some (i+n).toNat else none
def EB{α:Type}(xs:List α)(i:Int):Option α:=(OH xs.length i).bind λj=>xs[j]?
theorem HN{n:Nat}{i:Int}{j:Nat}(h:OH n i=some j):seqIndex? i n=some j/\j<n/\-(n:Int)<=i/\i<n:=by
 unfold OH at h;by_cases h0:0<=i
 ·rw [if_pos h0] at h;by_cases h1:i<n
  ·rw [if_pos h1] at h;have e:i.toNat=j:=eB h;exact ⟨by rw [seqIndex_of h0 h1,e],Oo,Oo,h1⟩
  ·rw [if_neg h1] at h;cases h
 ·rw [if_neg h0] at h;by_cases h1:-(n:Int)<=i
  ·rw [if_pos h1] at h;have e:(i+n).toNat=j:=eB h;exact ⟨by rw [seqIndex_neg Oo h1,e],Oo,h1,Oo⟩
  ·rw [if_neg h1] at h;cases h
theorem BG{α:Type}{xs:List α}{i:Int}{v:α}(h:EB xs i=some v):∃j,seqIndex? i xs.length=some j/\xs[j]?=some v/\j<xs.length/\-(xs.length:Int)<=i/\i<xs.length:=by
 unfold EB at h;cases e:OH xs.length i with
 | none=>rw [e] at h;cases h
 | some j =>
  rw [e] at h;obtain ⟨h1,h2,h3,h4⟩:=HN e;exact ⟨j,h1,h,h2,h3,h4⟩
theorem iB{α:Type}{xs:List α}{j:Nat}{v:α}(h:xs[j]?=some v):EB xs (j:Int)=some v:=by
 have hj:j<xs.length:=(aK.mp h).1;have e:OH xs.length (j:Int)=some j:=by
  unfold OH;rw [if_pos Oo,if_pos Oo];simp
 unfold EB;rw [e];exact h
def IM(b:Expr):Prop:=∀o i,subscripted b false o i=operate [o,i] (getItem o i)
def QL(X:Cx)(r:R2):Prop :=
 ∀(value slice:Expr) (pins:List (Addr × Obj)) (s:Shared) (σ:St) (H:Hp) (x y:V) (v u:Value) (Q:VK),cE X pins σ H s->dH x v->dH y u->r x y H Q ->
  subscripted slice false v u=operate [v,u] (getItem v u)->wpAny (model X.prog X.w) X.A (subscriptTail value slice v u) (EP X pins σ Q) X.xe s
def MtR(X:Cx)(id:String)(r:V->List V->Hp->VK->Prop):Prop :=
 ∀(pins:List (Addr × Obj)) (s:Shared) (σ:St) (H:Hp) (x:V) (xs:List V) (v:Value) (us:List Value) (Q:VK),cE X pins σ H s->dH x v->cV xs us->r x xs H Q ->
  wpAny (model X.prog X.w) X.A (call (.builtin id) (v::us)) (EP X pins σ Q) X.xe s
section
variable{X:Cx}{a b:Expr}{ta tb:TE}{pos:Pos}
theorem QL.or{r r':R2}(h:QL X r)(h':QL X r'):QL X (λx y H Q=>r x y H Q\/r' x y H Q):=by
 intro value slice pins s σ H x y v u Q I rx ry q hs;rcases q with q | q
 ·exact h value slice pins s σ H x y v u Q I rx ry q hs
 ·exact h' value slice pins s σ H x y v u Q I rx ry q hs
theorem aBM{r:R2}(hr:QL X r)(ha:PE X a ta)(hb:PE X b tb)(hs:IM b):PE X (.Subscript a b pos) (RD r ta tb):=by
 intro pins s σ H Q I h;exact Subscript_ (aAU ha hb I h λv u s2 x y H2 I2 rx ry q=>hr a b pins s2 σ H2 x y v u Q I2 rx ry q (hs _ _))
def aBE(K:PySem.W.Frag):R2:=λx y H Q=>∃p xs i v,x=.ref p/\y=.int i/\fS K H p xs/\EB xs i=some v/\Q v H
def aBC(K:PySem.W.Frag):R2:=λx y H Q=>∃p xs i v,x=.ref p/\y=.int i/\eZ K H p xs/\EB xs i=some v/\Q v H
def aBD:R2:=λx y H Q=>∃z i c,x=.str z/\y=.int i/\z.length<=sizeLine/\EB z.cps.toList i=some c/\Q (.str ⟨#[c]⟩) H
theorem UE:QL X (aBE X.K):=by
 intro value slice pins s σ H x y v u Q I rx ry h hs;obtain ⟨p,xs,i,z,rfl,rfl,hq,he,q⟩:=h;cases rx;obtain ⟨t,rfl⟩:=ry;obtain ⟨its,r,pl,hz⟩:=I.list hq;obtain ⟨j,h1,h2,h3,h4,h5⟩:=BG he;obtain ⟨w,ew,rw'⟩:=r.get h2;have hl:=r.length;have hn:=wA;have fin:EP X pins σ Q w s:=⟨z,H,I,rw',q⟩;by_cases h0:0<=i
 ·have hj:i.toNat=j:=by
   rw [seqIndex_of h0 h5] at h1;exact eB h1
  exact item_listR pl.isList h0 Oo (by rw [hj];simpa using ew) fin hs
 ·have hj:(i+(its.toArray.size:Int)).toNat=j:=by
   rw [seqIndex_neg Oo h4] at h1;rw [aW,<-hl];exact eB h1
  exact subscriptTail_builtinR (x:=w) pl.isList.typeIs slot_list_getitem.lookup
   (wpAny_getItem_list_neg (Q:=λr s'=>r=w/\EP X pins σ Q r s') pl.isList Oo (by rw [aW] <;> omega) Oo (by rw [hj];simpa using ew) ⟨rfl,fin⟩) hs
theorem aAq:QL X (aBC X.K):=by
 intro value slice pins s σ H x y v u Q I rx ry h hs;obtain ⟨p,xs,i,z,rfl,rfl,hq,he,q⟩:=h;cases rx;obtain ⟨t,rfl⟩:=ry;obtain ⟨its,r,pl,hz⟩:=I.tuple hq;obtain ⟨j,h1,h2,h3,h4,h5⟩:=BG he;obtain ⟨w,ew,rw'⟩:=r.get h2;have hl:=r.length;have hn:=wA;have fin:EP X pins σ Q w s:=⟨z,H,I,rw',q⟩;exact subscriptTail_builtinR (x:=w) pl.typeIs slot_tuple_getitem.lookup
  (getItem_tuple (j:=j) (Q:=λr s'=>r=w/\EP X pins σ Q r s') pl Oo Oo (by rw [aW,<-hl];exact h1) (by simpa using ew) ⟨rfl,fin⟩) hs
theorem aAr:QL X aBD:=by
 intro value slice pins s σ H x y v u Q I rx ry h hs;obtain ⟨z,i,c,rfl,rfl,hz,he,q⟩:=h;obtain ⟨t,rfl⟩:=rx;obtain ⟨t',rfl⟩:=ry;obtain ⟨j,h1,h2,h3,h4,h5⟩:=BG he;have hl:z.cps.toList.length=z.length:=by simp [Str.length]
 rw [hl] at h1 h4 h5;have hn:=wA;exact tail_any (typeIs_str s z t) slot_str_getitem.lookup (getItem_str (c:=c) (by
  have e1:decide (i < -(2^63:Int))=false:=cJ Oo;have e2:decide (i ≥ 2^63)=false:=cJ Oo;rw [e1,e2,Bool.or_false]) (by rw [h1];simpa using h2) ⟨.str ⟨#[c]⟩,H,I.tok _,⟨_,rfl⟩,q⟩) hs
def rIx(K:PySem.W.Frag):R2:=λx y H Q=>aBE K x y H Q\/aBC K x y H Q\/aBD x y H Q
theorem bU:QL X (rIx X.K):=UE.or (aAq.or aAr)
theorem FN(its:List Value)(n j:Nat)(u:Value):Obj.mapSeq (·.setIfInBounds j u) { cls:=.type "list",data:=.seq its.toArray n }={ cls:=.type "list",data:=.seq (its.set j u).toArray n }:=by
 simp [Obj.mapSeq]
theorem cE.lst{pins:List (Addr × Obj)}{σ:St}{H:Hp}{s:Shared}{p:Addr}{xs:List V}(I:cE X pins σ H s)(h:H p=some (.lst xs)) :
  ∃(its:List Value) (n:Nat),cV xs its/\s.heap.get? p=some { cls:=.type "list",data:=.seq its.toArray n }/\xs.length<=sizeLine:=by
 obtain ⟨z,its,n,r,e⟩:=I.hok p _ h;exact ⟨its,n,r,e,z⟩
theorem cE.lstUpd{pins:List (Addr × Obj)}{σ:St}{H:Hp}{s:Shared}{p:Addr}{xs ys:List V}{its its':List Value}{n n':Nat}{f:Obj->Obj}(I:cE X pins σ H s)(h:H p=some (.lst xs))
  (ho:s.heap.get? p=some { cls:=.type "list",data:=.seq its.toArray n }) (hf:f { cls:=.type "list",data:=.seq its.toArray n }={ cls:=.type "list",data:=.seq its'.toArray n' }) (r:cV ys its') (hz:ys.length<=sizeLine) (t:Nat) :
  cE X pins σ (upd H p (.lst ys)) { s with heap:=s.heap.update p f,toks:=t }:=by
 have e:(s.heap.update p f).get? p=some { cls:=.type "list",data:=.seq its'.toArray n' }:=by
  rw [Heap.get?_update_self f ho (by rw [hf] <;> rfl),hf]
 refine I.write (x:=p) (e:=p) (by rw [h];trivial) (.inl rfl) (λb u hb q=>(Heap.get?_update_other _ _ (Ne.symm hb)).trans q) ⟨_,e⟩ ?_;exact ⟨hz,its',n',r,e⟩
def NC:V->V->V->Hp->(Hp->Prop)->Prop:=λo i v H Q=>∃p xs k j,o=.ref p/\i=.int k/\H p=some (.lst xs)/\OH xs.length k=some j/\Q (upd H p (.lst (xs.set j v)))
theorem MQ:aAX X NC:=by
 intro pins s σ H o i v ov iv u Q I ro ri rv h;obtain ⟨p,xs,k,j,rfl,rfl,hp,hj,q⟩:=h;cases ro;obtain ⟨t,rfl⟩:=ri;obtain ⟨its,n,r,ho,hz⟩:=I.lst hp;obtain ⟨h1,h2,h3,h4⟩:=HN hj;have hl:=r.length;have hn:=wA;have I':cE X pins σ (upd H p (.lst (xs.set j v))) { s with heap:=s.heap.update p (Obj.mapSeq (·.setIfInBounds j u)) } :=
  I.lstUpd hp ho (FN its n j u) (r.set rv j) (by rw [List.length_set];exact hz) s.toks
 by_cases h0:0<=k
 ·have hk:k.toNat=j:=by
   rw [seqIndex_of h0 h4] at h1;exact eB h1
  exact PySem.W.ki_setAt ho h0 Oo (by rw [aW,<-hl];exact h4) (by rw [hk];exact ⟨_,I',q⟩)
 ·have hk:(k+(its.toArray.size:Int)).toNat=j:=by
   rw [seqIndex_neg Oo h3] at h1;rw [aW,<-hl];exact eB h1
  exact PySem.W.ki_setBack ho Oo (by rw [aW,<-hl];exact h3) Oo (by rw [hk];exact ⟨_,I',q⟩)
theorem zZ(lo hi:Option Int)(n:Nat):(sliceBounds lo hi none n).1=((HT.iG n 0 lo:Nat):Int)/\(sliceBounds lo hi none n).2.1=((HT.iG n n hi:Nat):Int)/\(sliceBounds lo hi none n).2.2=1:=by
 refine ⟨?_,?_,rfl⟩
 ·cases lo with
  | none=>simp [sliceBounds,HT.iG]
  | some i =>
   simp only [sliceBounds,HT.iG,Option.getD_none,show (1:Int) > 0 by decide,if_true];by_cases h:i<0
   ·simp only [h,if_true] <;> omega
   ·simp only [h,if_false] <;> omega
 ·cases hi with
  | none=>simp [sliceBounds,HT.iG]
  | some i =>
   simp only [sliceBounds,HT.iG,Option.getD_none,show (1:Int) > 0 by decide,if_true];by_cases h:i<0
   ·simp only [h,if_true] <;> omega
   ·simp only [h,if_false] <;> omega
theorem xL(its:List Value)(lo hi:Option Int):slicePick its.toArray lo hi none=((its.drop (HT.iG its.length 0 lo)).take (HT.iG its.length its.length hi-HT.iG its.length 0 lo)).toArray:=by
 obtain ⟨h1,h2,h3⟩:=zZ lo hi its.toArray.size;unfold slicePick;rw [h1,h2,h3];simp only [sliceRange_one,pick_run,aW] <;> rfl
def aCM(K:PySem.W.Frag):V->Option Int->Option Int->Hp->VK->Prop:=λx lo hi H Q=>∃a xs,x=.ref a/\fS K H a xs/\∀p,H p=none->Q (.ref p) (upd H p (.lst (oQ xs lo hi)))
theorem RJ:SlR X (aCM X.K):=by
 intro pins s σ H x v vl vu lo hi sl Q I rx hs pl pu h;obtain ⟨a,xs,rfl,hx,q⟩:=h;cases rx;obtain ⟨its,r,ht,hz⟩:=I.list hx;have hlen:=r.length;refine ⟨"list",_,slot_list_getitem.lookup,ht.isList.typeIs,?_⟩;refine wpAny_getItem_list_slice ht.isList hs pl pu .none (by simp) ?_ (by rw [aW] <;> omega);rw [xL,<-hlen];refine ⟨.ref s.heap.objs.size,_,I.laid (t':=s.toks) (o:=.lst (oQ xs lo hi)) (λb ob q=>aB _ q) (aJ _) ?_,rfl,q _ (I.hok.fresh (aJ _))⟩;exact ⟨aQ (uA xs lo hi) hz,_,0,(r.drop (HT.iG xs.length 0 lo)).take (HT.iG xs.length xs.length hi-HT.iG xs.length 0 lo),aY _ rfl⟩
def tX:V->Bool
 | .non=>true
 | .bl _=>true
 | .int _=>true
 | .str _=>true
 | _=>false
def WQ:V->V->Bool
 | .non,.non=>true
 | .bl a,.bl b=>a == b
 | .bl a,.int b=>(if a then 1 else 0) == b
 | .int a,.bl b=>a == (if b then 1 else 0)
 | .int a,.int b=>a == b
 | .str a,.str b=>a == b
 | _,_=>false
theorem aAD{A:Around}{s:Shared}{y x:V}{u v:Value}(ry:dH y u)(rx:dH x v)(fy:tX y=true)(fx:tX x=true):SeqAt.EqAt A s u v (WQ y x):=by
 cases y with
 | non =>
  cases ry;cases x with
  | non=>cases rx;exact SeqAt.EqAt.same _
  | bl b=>cases rx;exact SeqAt.EqAt.none_bool b
  | int b=>obtain ⟨t,rfl⟩:=rx;exact SeqAt.EqAt.none_int b t
  | str b=>obtain ⟨t,rfl⟩:=rx;exact SeqAt.EqAt.none_str b t
  | _=>exact absurd (show false=true from fx) bI
 | bl a =>
  cases ry;cases x with
  | non=>cases rx;exact SeqAt.EqAt.bool_none a
  | bl b=>cases rx;exact SeqAt.EqAt.bool_bool a b
  | int b=>obtain ⟨t,rfl⟩:=rx;exact SeqAt.EqAt.bool_int a b t
  | str b=>obtain ⟨t,rfl⟩:=rx;exact SeqAt.EqAt.bool_str a b t
  | _=>exact absurd (show false=true from fx) bI
 | int a =>
  obtain ⟨t',rfl⟩:=ry;cases x with
  | non=>cases rx;exact SeqAt.EqAt.int_none a t'
  | bl b=>cases rx;exact SeqAt.EqAt.int_bool a t' b
  | int b=>obtain ⟨t,rfl⟩:=rx;exact SeqAt.EqAt.int_int a t' b t
  | str b=>obtain ⟨t,rfl⟩:=rx;exact SeqAt.EqAt.int_str a t' b t
  | _=>exact absurd (show false=true from fx) bI
 | str a =>
  obtain ⟨t',rfl⟩:=ry;cases x with
  | non=>cases rx;exact SeqAt.EqAt.str_none a t'
  | bl b=>cases rx;exact SeqAt.EqAt.str_bool a t' b
  | int b=>obtain ⟨t,rfl⟩:=rx;exact SeqAt.EqAt.str_int a t' b t
  | str b=>obtain ⟨t,rfl⟩:=rx;exact SeqAt.EqAt.str_str a t' b t
  | _=>exact absurd (show false=true from fx) bI
 | _=>exact absurd (show false=true from fy) bI
def eqU(x:V)(u:Value):Bool:=match u with
 | .none=>WQ .non x
 | .bool b=>WQ (.bl b) x
 | .int i _=>WQ (.int i) x
 | .str z _=>WQ (.str z) x
 | _=>false
theorem aAC{x y:V}{u:Value}(r:dH y u)(f:tX y=true):eqU x u=WQ y x:=by
 cases y with
 | non=>cases r;rfl
 | bl b=>cases r;rfl
 | int i=>obtain ⟨t,rfl⟩:=r;rfl
 | str z=>obtain ⟨t,rfl⟩:=r;rfl
 | _=>exact absurd (show false=true from f) bI
theorem CO{A:Around}{s:Shared}{x:V}{v:Value}(rx:dH x v)(fx:tX x=true):∀{xs:List V}{us:List Value},cV xs us->xs.all tX=true->∀u∈us,SeqAt.EqAt A s u v (eqU x u)
 | _,_,.nil,_=>λu hu=>by cases hu
 | y::xs,u::us,.cons r t,f=>λu' hu=>by
  rw [List.all_cons,cY] at f;rcases aT.mp hu with rfl | hu
  ·rw [aAC r f.1];exact aAD r rx f.1 fx
  ·exact CO rx fx t f.2 u' hu
theorem dR:fX X (.type "tuple") (λxs H Q=>∃p ys,xs=[.ref p]/\((fS X.K H p ys/\∀l,H l=none->Q (.ref l) (upd H l (.tup ys)))\/(eZ X.K H p ys/\Q (.ref p) H))):=by
 intro pins s σ H xs us Q I r h;obtain ⟨p,ys,rfl,h⟩:=h;obtain ⟨u,rfl,rx⟩:=jJ r;cases rx;rcases h with ⟨hq,q⟩ | ⟨hq,q⟩
 ·obtain ⟨its,r',pl,hz⟩:=I.list hq;have hlen:=r'.length;refine call_tuple_list pl.isList (λh' kp=>?_) (by simp only [aW] <;> omega);have I1:cE X pins σ H { s with heap:=h' }:=I.kept (t':=s.toks) kp;have I2:cE X pins σ (upd H h'.objs.size (.tup ys)) { s with heap:=h'.push { cls:=.type "tuple",data:=.seq its.toArray } } :=
   I1.laid (t':=s.toks) (λb o e=>aB _ e) (aJ _) (show eI X.prog X.w _ _ _ (.tup ys) from ⟨⟨hz,_,aY _ rfl,rfl⟩,its,r',IsTup.new _ _⟩)
  exact ⟨.ref h'.objs.size,_,I2,rfl,q _ (I1.hok.fresh (aJ _))⟩
 ·obtain ⟨its,r',pl,hz⟩:=I.tuple hq;exact call_tuple_same pl ⟨.ref p,H,I,rfl,q⟩
def tyV(K:PySem.W.Frag)(T:String)(x:V)(H:Hp):Prop:=match x with
 | .str _=>T = "str"
 | .int _=>T = "int"
 | .ref p=>(T = "list" /\ ∃xs,fS K H p xs)\/(T = "tuple" /\ ((∃o,K.lookup p=some o/\o.cls=.type "tuple" /\ o.dict=none)\/∃xs,H p=some (.tup xs))) \/
   (T = "dict" /\ ((∃kvs,H p=some (.dK kvs))\/∃kvs,H p=some (.dT kvs)))\/(T = "set" /\ ∃S n,H p=some (.set S n))
 | _=>False
theorem XH{pins:List (Addr × Obj)}{σ:St}{H:Hp}{s:Shared}{T:String}{x:V}{v:Value}(I:cE X pins σ H s)(r:dH x v)(ty:tyV X.K T x H) :
  s.TypeIs v T/\∀a,v=.ref a->∃ob,s.heap.get? a=some ob/\ob.dict=none:=by
 cases x with
 | str z =>
  obtain ⟨t,rfl⟩:=r;cases (show T = "str" from ty);exact ⟨typeIs_str s z t,λ_ e=>nomatch e⟩
 | int i =>
  obtain ⟨t,rfl⟩:=r;cases (show T = "int" from ty);exact ⟨typeIs_int s i t,λ_ e=>nomatch e⟩
 | ref p =>
  cases r;rcases ty with ⟨rfl,xs,hq⟩ | ⟨rfl,⟨o,hk,hc,hd⟩ | ⟨xs,hq⟩⟩ | ⟨rfl,hk⟩ | ⟨rfl,S,n,hk⟩
  ·obtain ⟨its,_,pl,_⟩:=I.list hq;refine ⟨pl.isList.typeIs,λa e=>?_⟩;cases e;obtain ⟨o,n,e,c,hd,_⟩:=pl;exact ⟨o,e,hd⟩
  ·refine ⟨⟨o,I.kIn p o hk,hc⟩,λa e=>?_⟩;cases e;exact ⟨o,I.kIn _ o hk,hd⟩
  ·obtain ⟨⟨_,on,en,dn⟩,_,_,o,e1,e2,_⟩:=(show eI X.prog X.w H s.heap p (.tup xs) from I.hok p _ hq);refine ⟨⟨o,e1,e2⟩,λa e=>?_⟩;cases e;exact ⟨on,en,dn⟩
  ·have z:∃o,s.heap.get? p=some o/\o.ExactDict:=by
    rcases hk with ⟨kvs,hk⟩ | ⟨kvs,hk⟩
    ·obtain ⟨_,_,_,_,o,_,_,e,ex,_⟩:=I.hok p _ hk;exact ⟨o,e,ex⟩
    ·obtain ⟨_,_,_,_,o,_,_,e,ex,_⟩:=I.hok p _ hk;exact ⟨o,e,ex⟩
   obtain ⟨o,e,ex⟩:=z;refine ⟨⟨o,e,ex.1⟩,λa e2=>?_⟩;cases e2;exact ⟨o,e,ex.2.1⟩
  ·obtain ⟨o,_,_,_,e,ex,_⟩:=I.hok p _ hk;refine ⟨⟨o,e,ex.1⟩,λa e2=>?_⟩;cases e2;exact ⟨o,e,ex.2.1⟩
 | _=>exact False.elim ty
def tBM(K:PySem.W.Frag)(T:String)(r:V->List V->Hp->VK->Prop)(to:TE)(t:TA):TE:=λσ H Q=>to σ H λx H1=>tyV K T x H1/\t σ H1 λxs H2=>r x xs H2 Q
variable{o e:Expr}{es:List Expr}{to:TE}{t:TA}{name:Str}{apos cpos:Pos}{T id:String}{r:V->List V->Hp->VK->Prop}
theorem WE(pa:PlainAttrs T)(slot:Slot T name id)(hty:typeOf (.builtin id)=pure (.type "method_descriptor"))(hm:MtR X id r)(ho:PE X o to)(ha:PA X (e::es) t)
  (hbase:attributeBase o name X.env (eval o X.env)=eval o X.env:=by rfl)
  (hfew:((backTo cpos (starEach (e::es) X.env)).all (λx=>!x.1)&&(backToKw cpos (keywordEach [] X.env)).all (λx=>x.1.isSome)
   && decide ((e::es).length+([]:List Keyword).length+(if ([]:List Keyword).isEmpty then 0 else 1)<30))=true:=by rfl)
  (hline:(apos.endLine == cpos.line)=true:=by rfl) (hs:starEach (e::es) X.env=(false,eval e X.env)::starEach es X.env:=by rfl) (hplain:(backTo cpos (starEach es X.env)).any (·.1)=false:=by rfl) :
  PE X (.Call (.Attribute o name apos) (e::es) [] cpos) (tBM X.K T r to t):=by
 intro pins s σ H Q I h;refine wpAny_Call_method_late hbase hfew hline rfl (thn (ho pins s σ H _ I h) λv s1 ⟨x,H1,I1,r1,ty,q1⟩=>?_);obtain ⟨h1,h2⟩:=XH I1 r1 ty;refine ⟨T,id,pa,slot,hty,h1,h2,?_⟩;have hA:=ha cpos pins s1 σ H1 _ I1 q1;rw [hs] at hA ⊢;refine Calls.callWith_builtin (by show (false || (backTo cpos (starEach es X.env)).any (·.1))=false;rw [hplain] <;> rfl) (Calls.evalArgs_plain ?_);exact thn hA λus s2 ⟨vs,H2,I2,r2,q2⟩=>hm pins s2 σ H2 x vs v us Q I2 r1 r2 q2
/- xs.append(e),list.index on a module's tuple .. are MtR facts of 06m -/
end
def MtM(X:Cx)(id:String)(r:V->List V->Hp->VK->Prop):Prop :=
 ∀(pins:List (Addr × Obj)) (s:Shared) (σ:St) (H:Hp) (x:V) (xs:List V) (v:Value) (us:List Value) (Q:VK),cE X pins σ H s->dH x v->cV xs us->r x xs H Q ->
  wpAny (model X.prog X.w) X.A (call (.builtin id) (v::us)) (EP X pins σ Q) X.xe s
theorem cV.one:∀{x:V}{us:List Value},cV [x] us->∃u,us=[u]/\dH x u
 | _,_,.cons r .nil=>⟨_,rfl,r⟩
theorem cV.rep{xs:List V}{us:List Value}(h:cV xs us):∀k:Nat,cV (List.replicate k xs).flatten (List.replicate k us).flatten
 | 0=>.nil
 | k+1=>by
  rw [List.replicate_succ,List.replicate_succ,List.flatten_cons,List.flatten_cons];exact cV.append h (cV.rep h k)
theorem sO(its:List Value):∀(k:Nat) (acc:List Value),
  List.foldl (λx1 x2=>x1++x2) acc.toArray (List.replicate k its.toArray)=(acc++(List.replicate k its).flatten).toArray
 | 0,acc=>by simp
 | k+1,acc=>by
  have e:acc.toArray++its.toArray=(acc++its).toArray:=by simp
  have e2:(acc++its)++(List.replicate k its).flatten=acc++(List.replicate (k+1) its).flatten:=by
   rw [List.replicate_succ,List.flatten_cons,List.append_assoc]
  rw [<-e2,<-sO its k (acc++its),<-e,List.replicate_succ,List.foldl_cons]
section
variable{X:Cx}{pins:List (Addr × Obj)}{σ:St}{H:Hp}{s:Shared}{l b:Addr}{xs ys zs:List V}
theorem cE.lset{its its':List Value}{n:Nat}{f:Array Value->Array Value}{t':Nat}(I:cE X pins σ H s)(hH:H l=some (.lst xs))
  (e:s.heap.get? l=some { cls:=.type "list",data:=.seq its.toArray n }) (hf:f its.toArray=its'.toArray) (hv:cV ys its') (hz:ys.length<=sizeLine) :
  cE X pins σ (upd H l (.lst ys)) { s with heap:=s.heap.update l (Obj.mapSeq f),toks:=t' }:=by
 have q:=PySem.IsL.update e f;rw [hf] at q;refine I.write (x:=l) (e:=l) (by rw [hH];exact trivial) (.inl rfl) (λb' u hb hu=>(Heap.get?_update_other s.heap (Obj.mapSeq f) (Ne.symm hb)).trans hu) ⟨_,q⟩ ?_;exact ⟨hz,its',_,hv,q⟩
theorem cE.lnew{its:List Value}{t':Nat}(I:cE X pins σ H s)(hv:cV ys its)(hz:ys.length<=sizeLine) :
  cE X pins σ (upd H s.heap.objs.size (.lst ys)) { s with heap:=s.heap.push { cls:=.type "list",data:=.seq its.toArray },toks:=t' } :=
 I.laid (λ_ _ q=>aB _ q) (aJ _) ⟨hz,its,0,hv,aY _ rfl⟩
theorem cE.fresh(I:cE X pins σ H s):H s.heap.objs.size=none:=I.hok.fresh (aJ _)
theorem cE.lstM(I:cE X pins σ H s)(hH:H l=some (.lst xs)):xs.length<=sizeLine/\∃(its:List Value) (n:Nat),cV xs its/\xs.length=its.length/\s.heap.get? l=some { cls:=.type "list",data:=.seq its.toArray n }:=by
 obtain ⟨z,its,n,r,e⟩:=I.hok l _ hH;exact ⟨z,its,n,r,r.length,e⟩
theorem CJ{n:Nat}(h:n<=sizeLine):Builtin.List.listTooLong n=false:=by
 unfold Builtin.List.listTooLong;exact cJ Oo
end
section
variable{X:Cx}
def HC:V->List V->Hp->VK->Prop:=λx vs H Q=>∃l xs y,x=.ref l/\vs=[y]/\H l=some (.lst xs)/\xs.length<sizeLine/\Q .non (upd H l (.lst (xs++[y])))
theorem sL:MtM X "list.append" HC:=by
 intro pins s σ H x vs v us Q I rx rv h;obtain ⟨l,xs,y,rfl,rfl,hH,hz,q⟩:=h;cases rx;obtain ⟨u,rfl,ru⟩:=rv.one;obtain ⟨z,its,n,r,hl,e⟩:=I.lstM hH;refine call_meets F.slot_list_append ⟨_,e,rfl⟩ F.entry_list_append (F.args_list_append_2 _ _) (PySem.list_append l its.toArray n u (by rw [aW];omega)) ⟨e,?_⟩;refine ⟨.non,_,I.lset (its':=its++[u]) hH e (by simp) (r.append (.cons ru .nil)) ?_,rfl,q⟩;rw [bF,List.length_singleton];omega
def HA:V->List V->Hp->VK->Prop:=λx vs H Q=>∃l b xs zs,x=.ref l/\vs=[.ref b]/\H l=some (.lst xs)/\H b=some (.lst zs)/\xs.length+zs.length<=sizeLine/\Q .non (upd H l (.lst (xs++zs)))
theorem JY:MtM X "list.extend" HA:=by
 intro pins s σ H x vs v us Q I rx rv h;obtain ⟨l,b,xs,zs,rfl,rfl,hH,hB,hz,q⟩:=h;cases rx;obtain ⟨u,rfl,ru⟩:=rv.one;cases ru;obtain ⟨z,its,n,r,hl,e⟩:=I.lstM hH;obtain ⟨z2,its2,n2,r2,hl2,e2⟩:=I.lstM hB;have hsz:its.toArray.size+its2.toArray.size<=sizeLine:=by rw [aW,aW];omega
 have hlong:¬(!its.toArray.isEmpty&&Builtin.List.listTooLong (its.toArray.size+its2.toArray.size))=true:=by
  rw [CJ hsz,Bool.and_false];exact bI
 refine call_meets F.slot_list_extend ⟨_,e,rfl⟩ F.entry_list_extend (F.args_list_extend_2 _ _)
  (AutoSeq1.list_extend_list_list_0 l its.toArray n b its2.toArray n2 hlong (by rw [aW];omega) Oo) ⟨e,e2,?_⟩
 refine ⟨.non,_,I.lset (its':=its++its2) hH e (by simp) (r.append r2) ?_,rfl,q⟩;rw [bF];omega
def aBH:R2:=λx y H Q=>∃l b xs zs,x=.ref l/\y=.ref b/\H l=some (.lst xs)/\H b=some (.lst zs)/\xs.length+zs.length<=sizeLine/\∀p,H p=none->Q (.ref p) (upd H p (.lst (xs++zs)))
theorem aAa:mN X (binaryOp .Add) aBH:=by
 intro pins s σ H x y v u Q I rx ry h;obtain ⟨l,b,xs,zs,rfl,rfl,hH,hB,hz,q⟩:=h;cases rx;cases ry;obtain ⟨z,its,n,r,hl,e⟩:=I.lstM hH;obtain ⟨z2,its2,n2,r2,hl2,e2⟩:=I.lstM hB;refine PySem.P.add_list e e2 ?_ (by rw [aW,aW];omega);have ea:its.toArray++its2.toArray=(its++its2).toArray:=by simp
 rw [ea];exact ⟨.ref _,_,I.lnew (t':=s.toks) (r.append r2) (by rw [bF];omega),rfl,q _ I.fresh⟩
def aBB:R2:=λx y H Q=>∃l k xs,x=.ref l/\y=.int k/\H l=some (.lst xs)/\-(2^63)<=k/\k<2^63/\xs.length*k.toNat<=sizeLine /\
 ∀p,H p=none->Q (.ref p) (upd H p (.lst (List.replicate k.toNat xs).flatten))
theorem TX{α:Type}(xs:List α)(k:Nat):(List.replicate k xs).flatten.length=k*xs.length:=by
 induction k with
 | zero=>simp
 | succ k ih=>rw [List.replicate_succ,List.flatten_cons,bF,ih,Nat.succ_mul,Nat.add_comm]
theorem ZV:mN X (binaryOp .Mult) aBB:=by
 intro pins s σ H x y v u Q I rx ry h;obtain ⟨l,k,xs,rfl,rfl,hH,h1,h2,hz,q⟩:=h;cases rx;obtain ⟨t,rfl⟩:=ry;obtain ⟨z,its,n,r,hl,e⟩:=I.lstM hH;have hlen:its.toArray.size*k.toNat<=sizeLine:=by rw [aW,<-hl];exact hz
 have hcap:¬its.toArray.size*k.toNat > (2^63-1)/8:=by
  have:(sizeLine:Nat)<=(2^63-1)/8:=Dd;omega
 have hfit:¬(!Builtin.List.listFitsIndex k)=true:=by
  rw [fitsIndex_both h1 h2];exact bI
 have hlong:¬Builtin.List.listTooLong (its.toArray.size*k.toNat)=true:=by
  rw [CJ hlen];exact bI
 have hnew:List.foldl (λx1 x2=>x1++x2) #[] (List.replicate (if its.toArray.isEmpty=true then 0 else k.toNat) its.toArray)=(List.replicate k.toNat its).flatten.toArray:=by
  have f0:∀m:Nat,List.foldl (λx1 x2=>x1++x2) #[] (List.replicate m its.toArray)=(List.replicate m its).flatten.toArray:=λm=>by
   have:=sO its m [];rw [List.nil_append] at this;exact this
  rw [f0];cases its with
  | nil=>simp
  | cons a r'=>rw [if_neg (by simp)]
 refine wpAny_binaryOp_repeat_ref (T := "list") (U := "int") Dd ⟨_,e,rfl⟩ (λs'=>typeIs_int s' k t) noFill_list_mul F.fills_int_mul F.slot_int_rmul repeat_list F.slot_int_index.lookup
  (call_meets F.slot_int_rmul (typeIs_int s k t) F.entry_int_rmul (F.args_int_rmul_2 _ _) (int___rmul___int_list k t l its.toArray n)
   ⟨e,rfl,⟨_,e,rfl⟩,call_meets F.slot_list_mul ⟨_,e,rfl⟩ F.entry_list_mul (F.args_list_mul_2 _ _) (AutoListH.list___mul___list_int_3 l its.toArray n k t hfit hcap hlong) ⟨e,?_⟩⟩)
 rw [hnew];exact ⟨.ref _,_,I.lnew (t':=s.toks) (r.rep k.toNat) (by rw [TX,Nat.mul_comm];exact hz),rfl,q _ I.fresh⟩
end
section
variable{prog:Program}{w:World}{A:Around}{E:Value->Shared->Prop}{s:Shared}
end
section
variable{X:Cx}
end
end L2
namespace Att
open PySem PySem.W PySem.Calls PyProof.Rows
theorem uE{P:Params}{h:Heap}:∀(ns:List Int) (vs:List Value),WellAll P h vs (ns.map WData.int)->IntsAre vs ns:=by
 intro ns
 induction ns with
 | nil =>
  intro vs w;rw [List.map_nil] at w;cases w;exact .nil
 | cons n ns ih =>
  intro vs w;rw [aO] at w;cases w with
  | cons a b =>
   cases a;exact .cons _ _ (ih _ b)
theorem JJ{l:OpenLaw}{n:Nat}(hn:l.most=some n){P:Params}{h:Heap}{args:List WData}{vals:List Value}
  (hpre:l.row.toRowW.claim.pre args=true) (hwl:WellAll P h vals args) :
  ∃a vs ns,vals=[Value.ref a]/\args=[WData.list (ns.map WData.int)]/\h.get? a=some { cls:=.type "list",data:=.seq vs.toArray }/\IntsAre vs ns/\ns.length<=n:=by
 have hsh:WShape.hasAll [] args [.list .int]=true:=(pre_splitW hpre).1;have hc:l.pre.holds [] { args:=args }=true:=(pre_splitW hpre).2;obtain ⟨d,r,rfl,h1,h2⟩:=hasAllW_cons hsh;obtain rfl:=hasAllW_nil h2;obtain ⟨xs,rfl,h3⟩:=hasW_list h1;obtain ⟨ns,rfl⟩:=items_int h3;have hlen:ns.length<=n:=by
  unfold OpenLaw.pre at hc;have h4:(WTm.not (.lt (.lit (.int (n:Int))) (.len (.arg 0)))).holds [] { args:=[.list (ns.map .int)] }=true:=by
   have h4:=(holds_andW hc).1;rw [hn] at h4;exact h4
  have h5:=condW_of h4 (w_not (w_lt w_lit (w_len_list (w_arg rfl))));rw [aA] at h5;refine Nat.le_of_not_lt λq=>?_;have q':(n:Int)<((ns.length:Nat):Int):=Oo
  first
   | (rw [bV q'] at h5;exact absurd h5 Dd)
   | (simp at h5;omega)
 cases hwl with
 | cons w1 w2 =>
  cases w2;cases w1 with
  | list ho hall=>exact ⟨_,_,ns,rfl,rfl,ho,uE ns _ hall,hlen⟩
theorem JQ(l:OpenLaw)(args:List WData):l.row.toRowW.claim.post args (.bool true) args=true :=
 postW_of (r:=l.row.toRowW) (X:=(true == true))
  (show WShape.has [] (.bool true) .bool=true by first | rfl | decide | simp [WShape.has,WShape.arms,WShape.armsAll])
  (show (WTm.eq .res (.lit (.bool true))).value [] { args:=args,res:=some (.bool true),after:=args }=some (.bool (true == true)) from w_eq_bool (w_res rfl) w_lit) rfl
theorem DV{l:OpenLaw}{n:Nat}{q:Program}{loose:List Str}{XP:(Str->Option Value)->Heap->Prop}{YP:World->Heap->Prop}{d:DefRec}
  (hn:l.most=some n) (hdf:d.params.defaults=[])
  (call:∀(w:World) (s₀ s₁:Shared) (mg mb:Str->Option Value) (fa:Addr) (o:Obj) (pm cd doc:Value) (a:Addr) (vs:List Value) (ns:List Int),
   Ground q loose [] XP w s₀ mg mb s₁.heap->YP w s₁.heap ->
   s₁.heap.get? fa=some o->o.data=.func (docDef d.name d.params d.body d.scope pm cd doc)->s₁.heap.CodeRec cd d.name->mg d.name=some (.ref fa) ->
   s₁.heap.get? a=some { cls:=.type "list",data:=.seq vs.toArray }->IntsAre vs ns->ns.length<=n->s₁.gens=#[] ->
   codeAny (model l.prog w) callerA (.call (.ref fa) ⟨[.ref a],[]⟩) (λr s'=>r=.ok (.ret (.bool true))/\OldK s₁.heap s'.heap/\s'.os=s₁.os/\AllBare s'.gens) s₁) :
  WalkO q loose XP YP l.row.toRowW d [] (λf vs=>PySem.call f vs):=by
 intro w s₀ s₁ mg mb G Y fa o pm cd doc dV kV ho hd hcd hD hmg hg args vals as hpre hlay hrd hwl hlo;obtain rfl:dV=.none:=Dflts.none hD hdf;obtain rfl:kV=.none:=Dflts.noKw hD;obtain ⟨a,vs,ns,rfl,rfl,hobj,hints,hlen⟩:=JJ hn hpre hwl;refine enter_call (codeAny_mono (call w s₀ s₁ mg mb fa o pm cd doc a vs ns G Y ho (fd_plain hd) hcd hmg hobj hints hlen hg) λr s' hq=>?_);obtain ⟨rfl,h2,h3,h4⟩:=hq;exact ⟨.inl ⟨.bool true,.bool true,[],rfl,λ_=>rfl,.bool true,JQ l _,λ_=>⟨List.Pairwise.nil,λ_ hm=>(nomatch hm)⟩⟩,h2,h3,h4⟩
section
variable{prog:Program}{w:World}{A:Around}{E:Value->Shared->Prop}{s:Shared}{K:Frag}
end
end Att
namespace L2
open PySem PySem.Spec PyProof.Rows
theorem xU:∀{vs:List Value}{ns:List Int},IntsAre vs ns->cV (ns.map V.int) vs
 | _,_,.nil=>.nil
 | _,_,.cons n t h=>.cons ⟨t,rfl⟩ (xU h)
end L2
/- THE LAST THEOREM (shape;LID,My.* are yours):
   My.Adr: a structure of the addresses that your layer names (classes,functions);My.Txt K t: a structure (Prop) of the equations over K;
   My.txt_mk:{K} {implicit addresses ..} (e1:nsIn K mainGlobals "law" = some (some (.ref f))) (e2:K.lookup f=some ⟨oc,od,.func (fnOf "law" "law" params body scope dV kV doc pm an cdv ct),sl⟩) (e3:codeIn K cdv "law" = true) .. : ∃t,My.Txt K t
set_option maxRecDepth 100000 in
set_option maxHeartbeats 0 in
theorem PySem.Challenge.cw_LID_holds : PySem.Challenge.rw_LID.Holds := by
  w_on;o_law;k_head;(case hw=>w_witness2)
  k_fill
  refine L2.walk_of (l:=PySem.Challenge.rw_LID) (n:=63) (k:=40) (x := "script") (CX:=λw=>..) (sp:=λ_=>My.sp_law) rfl Dd rfl ⟨rfl,Dd,Dd⟩ (λw h Y=>PySem.W.kIn_of Y) ?F ?S ?C
  case F =>
    intro w mg fa h KX G hmg;have T:∃t,My.Txt (L2.KOf KX) t:=by
      dsimp only [L2.KOf]                          -- K must stand as «<heap const> w.params» for k_is
      refine' My.txt_mk ?e1 ?e2 ?e3 ..
      (case e1=>PySem.W.k_is)                    -- in the order: a name -> its address -> its object -> its parts
      (case e2=>PySem.W.k_is)
      ..
    obtain ⟨t,T⟩:=T;have e0:=hmg.symm.trans (PySem.W.mg_of KX G T.law);cases e0                                       -- fa is the law's own address;exact ⟨_,λs u=>.of_eq rfl,λbase kb nb=>My.law_fn T kb nb⟩     -- if «.of_eq rfl» comes too early: refine' ⟨_,?b,λbase kb nb=>My.law_fn T kb nb⟩;exact λs u=>.of_eq rfl
  case S=>exact λw H a ns hl hO hS=>..
  case C=>exact ..
(the tactic k_is has no namespace: write k_is) -/
namespace L2
open PySem PySem.Spec PyProof.Rows
def mY(s:Stmt):Arguments:=match s with
 | .FunctionDef _ a _ _ _ _ _ _ _ _=>a
 | _=>{ posonlyargs:=[],args:=[],vararg:=none,kwonlyargs:=[],kw_defaults:=[],kwarg:=none,defaults:=[] }
def iX(s:Stmt):List Stmt:=match s with
 | .FunctionDef _ _ b _ _ _ _ _ _ _=>b
 | _=>[]
def bA(s:Stmt):Scope:=match s with
 | .FunctionDef _ _ _ _ _ _ sc _ _ _=>sc
 | _=>{ kind:=.function,names:=[],isGenerator:=false,isCoroutine:=false }
abbrev dQ:LP:=λ_ _ _ _ _ _=>False
abbrev E0:XK:=λ_ _ _=>False
theorem aBO{X:Cx}:GD dQ X E0:=λ_ _ _ _ _ _ _ h=>h.elim
structure jA(K:PySem.W.Frag)(x qual:Str)(st:Stmt)(f:Addr)(fd:FuncData):Prop where
 ex:∃(oc:Value) (od:Option Addr) (kV doc pm:Value) (an:Option Addr) (cdv ct:Value) (osl:Array (Option Value)),
  fd=PySem.W.fnOf x qual (mY st) (iX st) (bA st) .none kV doc pm an cdv ct/\K.lookup f=some ⟨oc,od,.func fd,osl⟩/\PySem.W.codeIn K cdv qual=true
 kp:PySem.W.keepIn K (.ref f)=true
section
variable{P:Program}{w:World}{K:PySem.W.Frag}{mg:Str->Option Value}{base:Heap}
theorem jA.ok{x qual:Str}{st:Stmt}{f:Addr}{fd:FuncData}{N ps:List Str}{k:Nat}{sp:Sp}(F:jA K x qual st f fd)(S:bZ N ps (bA st))(len:∀vs H Q E,sp vs H Q E->vs.length=ps.length)
  (hbody:∀(cdv:Value) (A:Around) (outer:List Env) (s:Shared) (H:Hp) (vs:List V) (Q:VK) (E:XK),iD k (A.deeper (envOfC qual (bA st) s.heap.objs.size f cdv))->sp vs H Q E ->
   ∃t,GF (uF dQ P w K mg base N qual (bA st) f cdv A outer s H E).nox (iX st) t/\t { nx:=λ_ H'=>Q .non H',rt:=Q } (start N vs) H):dZ P w K mg base dQ (k+1) f fd ps sp:=by
 obtain ⟨oc,od,kV,doc,pm,an,cdv,ct,osl,rfl,lk,hcd⟩:=F.ex;refine WO lk hcd S len λA outer s H vs Q E hr hsp=>?_;obtain ⟨t,h,q⟩:=hbody cdv A outer s H vs Q E hr hsp;exact ⟨t,h.nox,q⟩
theorem jA.binds{x qual:Str}{st:Stmt}{f:Addr}{fd:FuncData}{ps:List Str}(F:jA K x qual st f fd)
  (h:∀(kV doc pm:Value) (an:Option Addr) (cdv ct:Value) (us:List Value),us.length=ps.length->bindArgs (PySem.W.fnOf x qual (mY st) (iX st) (bA st) .none kV doc pm an cdv ct) ⟨us,[]⟩=pure (ps.zip us)):pR K fd ps []:=by
 obtain ⟨oc,od,kV,doc,pm,an,cdv,ct,osl,rfl,lk,hcd⟩:=F.ex;exact .all (h kV doc pm an cdv ct)
theorem AX{x qual:Str}{st:Stmt}{f:Addr}{oc:Value}{od an:Option Addr}{osl:Array (Option Value)}{kV doc pm cdv ct:Value}(l:K.lookup f=some ⟨oc,od,.func (PySem.W.fnOf x qual (mY st) (iX st) (bA st) .none kV doc pm an cdv ct),osl⟩)
  (c:PySem.W.codeIn K cdv qual=true) (k:PySem.W.keepIn K (.ref f)=true):jA K x qual st f (PySem.W.fnOf x qual (mY st) (iX st) (bA st) .none kV doc pm an cdv ct):=⟨⟨oc,od,kV,doc,pm,an,cdv,ct,osl,rfl,l,c⟩,k⟩
end
theorem sD{n:Nat}(h:n<=1000):n<sizeLine:=bB h Dd
section
variable{X:Cx}
theorem pv(i:Nat){x:Str}{pos:Pos}(hN:X.N[i]?=some x:=by rfl)(hv:Vis X.env.scope x:=by first | exact Or.inl rfl | exact Or.inr (Or.inl rfl) | exact Or.inr (Or.inr rfl))(hd:(x == ("__debug__" : Str))=false:=by decide)
  (hcd:(x == ("__classdict__" : Str))=false:=by decide):PE X (.Name x pos) (XI i):=ZP hN hv hd hcd
end
theorem oN{A B:Prop}(h:B):if false=true then A else B:=by
 rw [if_neg bI];exact h
theorem mU{A B:Prop}(h:A):if true=true then A else B:=by
 rw [if_pos rfl];exact h
theorem aBW{c A B:Prop}[Decidable c](h1:c->A)(h2:¬c->B):if c then A else B:=by
 by_cases h:c
 ·rw [if_pos h];exact h1 h
 ·rw [if_neg h];exact h2 h
def bC(H H':Hp):Prop:=∀b o,H b=some o->H' b=some o
theorem bC.refl(H:Hp):bC H H:=λ_ _ h=>h
theorem bC.trans{H H1 H2:Hp}(a:bC H H1)(b:bC H1 H2):bC H H2:=λc o h=>b c o (a c o h)
theorem bC.free{H H':Hp}(e:bC H H'){l:Addr}(h:H' l=Option.none):H l=Option.none:=by
 cases q:H l with
 | none=>rfl
 | some o =>
  rw [e l o q] at h;cases h
section
variable{κ:Type}[DecidableEq κ]
def dU(kvs:List (κ × V))(k:κ):Option V:=(kvs.find? λkv=>decide (kv.1=k)).map (·.2)
def iQ(kvs:List (κ × V))(k:κ)(v:V):List (κ × V) :=
 if (kvs.any λkv=>decide (kv.1=k))=true then kvs.map (λkv=>if kv.1=k then (kv.1,v) else kv) else kvs++[(k,v)]
theorem fH{p:κ × V}{r:List (κ × V)}{k:κ}(e:p.1=k):dU (p::r) k=some p.2:=by simp [dU,List.find?_cons,e]
theorem fI{p:κ × V}{r:List (κ × V)}{k:κ}(e:¬p.1=k):dU (p::r) k=dU r k:=by simp [dU,List.find?_cons,e]
theorem jK(k:κ):∀kvs:List (κ × V),(kvs.any λkv=>decide (kv.1=k))=(dU kvs k).isSome
 | []=>rfl
 | p::r=>by
  rw [List.any_cons];by_cases e:p.1=k
  ·simp only [fH e,bV e,Bool.true_or,Option.isSome_some]
  ·rw [fI e,cJ e,Bool.false_or];exact jK k r
theorem BR(k j:κ)(y:V):∀kvs:List (κ × V),dU (kvs.map λkv=>if kv.1=k then (kv.1,y) else kv) j=(dU kvs j).map λx=>if j=k then y else x
 | []=>rfl
 | p::r=>by
  have ih:=BR k j y r;rw [aO];by_cases h:p.1=k
  ·rw [if_pos h];by_cases e:p.1=j
   ·rw [fH (p:=(p.1,y)) e,fH e,Option.map_some,if_pos (e.symm.trans h)]
   ·rw [fI (p:=(p.1,y)) e,fI e,ih]
  ·rw [if_neg h];by_cases e:p.1=j
   ·rw [fH (p:=p) e,fH e,Option.map_some,if_neg (λz=>h (e.trans z))]
   ·rw [fI (p:=p) e,fI e,ih]
theorem xV(k j:κ)(y:V):∀kvs:List (κ × V),dU kvs k=none->dU (kvs++[(k,y)]) j=if j=k then some y else dU kvs j
 | [],_=>by
  by_cases e:k=j
  ·rw [if_pos e.symm];exact fH (p:=(k,y)) e
  ·rw [if_neg (λz=>e z.symm)];exact fI (p:=(k,y)) e
 | p::r,hn=>by
  rw [List.cons_append];have hk:¬p.1=k:=λz=>by rw [fH z] at hn;cases hn
  rw [fI hk] at hn;have ih:=xV k j y r hn;by_cases e:p.1=j
  ·rw [fH e,fH e,if_neg (λz=>hk (e.trans z))]
  ·rw [fI e,fI e,ih]
theorem nK(kvs:List (κ × V))(k j:κ)(y:V):dU (iQ kvs k y) j=if j=k then some y else dU kvs j:=by
 unfold iQ;by_cases a:(kvs.any λkv=>decide (kv.1=k))=true
 ·rw [if_pos a,BR];rw [jK] at a;by_cases e:j=k
  ·obtain ⟨x,hx⟩:=Option.isSome_iff_exists.mp a;rw [if_pos e,e,hx,Option.map_some,if_pos rfl]
  ·rw [if_neg e];cases dU kvs j with
   | none=>rfl
   | some x=>rw [Option.map_some,if_neg e]
 ·rw [if_neg a];refine xV k j y kvs ?_;rw [jK] at a;cases q:dU kvs k with
  | none=>rfl
  | some x=>rw [q] at a;exact (a rfl).elim
theorem fL(kvs:List (κ × V))(k:κ)(v:V):(iQ kvs k v).length<=kvs.length+1:=by
 unfold iQ;split
 ·rw [aA];omega
 ·rw [bF,cM,List.length_nil];omega
theorem vR{kvs:List (κ × V)}{k:κ}(v:V)(h:dU kvs k=none):iQ kvs k v=kvs++[(k,v)]:=by
 unfold iQ;rw [jK,h];exact if_neg Dd
theorem tF.isSome_eq{o:Option V}{u:Option Value}(r:tF o u):o.isSome=u.isSome:=by
 cases o with
 | none=>cases u with
  | none=>rfl
  | some _=>exact (show False from r).elim
 | some _=>cases u with
  | none=>exact (show False from r).elim
  | some _=>rfl
theorem tF.getD{o:Option V}{u:Option Value}{d:V}{d':Value}(r:tF o u)(rd:dH d d'):dH (o.getD d) (u.getD d'):=by
 cases o with
 | none=>cases u with
  | none=>exact rd
  | some _=>exact (show False from r).elim
 | some _=>cases u with
  | none=>exact (show False from r).elim
  | some _=>exact r
theorem KV.val{kvs:List (κ × V)}{vs:List (κ × Value)}(r:KV kvs vs)(k:κ):tF (dU kvs k) (valueAt vs k):=by
 unfold KV at r
 induction r with
 | nil=>exact True.intro
 | @cons p q ps qs h t ih =>
  obtain ⟨h1,h2⟩:=h;by_cases e:p.1=k
  ·have e':q.1=k:=h1.symm.trans e;have b:valueAt (q::qs) k=some q.2:=by simp [valueAt,List.find?_cons,e']
   rw [fH e,b];exact h2
  ·have e':¬q.1=k:=λz=>e (h1.trans z);have b:valueAt (q::qs) k=valueAt qs k:=by simp [valueAt,List.find?_cons,e']
   rw [fI e,b];exact ih
theorem KV.any{kvs:List (κ × V)}{vs:List (κ × Value)}(r:KV kvs vs)(k:κ):(kvs.any λkv=>decide (kv.1=k))=vs.any λkv=>decide (kv.1=k):=by
 unfold KV at r
 induction r with
 | nil=>rfl
 | cons h t ih=>rw [List.any_cons,List.any_cons,ih,h.1]
theorem KV.repl{kvs:List (κ × V)}{vs:List (κ × Value)}(r:KV kvs vs)(k:κ){y:V}{u:Value}(ry:dH y u) :
  KV (kvs.map λkv=>if kv.1=k then (kv.1,y) else kv) (vs.map λkv=>if kv.1=k then (kv.1,u) else kv):=by
 unfold KV at r ⊢
 induction r with
 | nil=>exact .nil
 | @cons p q ps qs h t ih =>
  rw [aO,aO];refine .cons ?_ ih;obtain ⟨h1,h2⟩:=h;by_cases e:p.1=k
  ·rw [if_pos e,if_pos (h1.symm.trans e)];exact ⟨h1,ry⟩
  ·rw [if_neg e,if_neg (λz=>e (h1.trans z))];exact ⟨h1,h2⟩
theorem KV.put{kvs:List (κ × V)}{vs:List (κ × Value)}(r:KV kvs vs)(k:κ){y:V}{u:Value}(ry:dH y u):KV (iQ kvs k y) (stored vs k u):=by
 unfold iQ stored;rw [r.any k];by_cases e:(vs.any λkv=>decide (kv.1=k))=true
 ·rw [if_pos e,if_pos e];exact r.repl k ry
 ·rw [if_neg e,if_neg e];exact Paired.snoc r ⟨rfl,ry⟩
theorem KV.length{kvs:List (κ × V)}{vs:List (κ × Value)}(r:KV kvs vs):kvs.length=vs.length:=Paired.length r
end
theorem tS{P:Program}{w:World}{k:dP}{u:Value}(r:dH (kV k) u):(eC P w).is k u=true:=by
 cases k with
 | inl i=>obtain ⟨t,e⟩:=(show ∃t,u=Value.int i t from r);subst e;exact CN P w i t
 | inr x=>obtain ⟨t,e⟩:=(show ∃t,u=Value.str x t from r);subst e;exact CM P w x t
theorem yJ{P:Program}{w:World}:∀{ks:List dP}{us:List Value},cV (ks.map kV) us->ItemsAre (eC P w) ks us
 | [],_,r=>by rw [List.map_nil] at r;cases r;exact .nil
 | k::ks,_,r=>by
  rw [aO] at r;cases r with
  | cons h t=>exact .cons (tS h) (yJ t)
abbrev KT(H:Hp):List (List dP × V)->List (List dP × Addr × Value)->Prop:=Paired λp q=>p.1=q.1/\H q.2.1=some (.tup (p.1.map kV))/\dH p.2 q.2.2
theorem KT.val{H:Hp}{kvs:List (List dP × V)}{xs:List (List dP × Addr × Value)}(r:KT H kvs xs)(k:List dP):tF (dU kvs k) ((atKey xs k).map (·.2)):=by
 induction r with
 | nil=>exact True.intro
 | @cons p q ps qs h t ih =>
  obtain ⟨h1,_,h2⟩:=h;by_cases e:p.1=k
  ·have e':q.1=k:=h1.symm.trans e;have b:atKey (q::qs) k=some q.2:=by simp [atKey,List.find?_cons,e']
   rw [fH e,b];exact h2
  ·have e':¬q.1=k:=λz=>e (h1.trans z);have b:atKey (q::qs) k=atKey qs k:=by simp [atKey,List.find?_cons,e']
   rw [fI e,b];exact ih
theorem KT.repl{H:Hp}{kvs:List (List dP × V)}{xs:List (List dP × Addr × Value)}(r:KT H kvs xs)(k:List dP){y:V}{u:Value}(ry:dH y u) :
  KT H (kvs.map λkv=>if kv.1=k then (kv.1,y) else kv) (xs.map (putAt k u)):=by
 induction r with
 | nil=>exact .nil
 | @cons p q ps qs h t ih =>
  rw [aO,aO];refine .cons ?_ ih;obtain ⟨h1,h2,h3⟩:=h;unfold putAt;by_cases e:p.1=k
  ·rw [if_pos e,if_pos (h1.symm.trans e)];exact ⟨h1,h2,ry⟩
  ·rw [if_neg e,if_neg (λz=>e (h1.trans z))];exact ⟨h1,h2,h3⟩
theorem KT.put{H:Hp}{kvs:List (List dP × V)}{xs:List (List dP × Addr × Value)}(r:KT H kvs xs)(k:List dP){b:Addr}{y:V}{u:Value}(hb:H b=some (.tup (k.map kV)))(ry:dH y u) :
  KT H (iQ kvs k y) (storedH xs k b u):=by
 have e:(kvs.any λkv=>decide (kv.1=k))=(atKey xs k).isSome:=by
  rw [jK,(r.val k).isSome_eq,Option.isSome_map]
 unfold iQ storedH;rw [e];by_cases q:(atKey xs k).isSome=true
 ·rw [if_pos q,if_pos q];exact r.repl k ry
 ·rw [if_neg q,if_neg q];exact Paired.snoc r ⟨rfl,hb,ry⟩
theorem KT.keeps{H H':Hp}{kvs:List (List dP × V)}{xs:List (List dP × Addr × Value)}(r:KT H kvs xs)(ht:∀b ys,H b=some (.tup ys)->H' b=some (.tup ys)):KT H' kvs xs :=
 Paired.mapP r λ_ _ z=>⟨z.1,ht _ _ z.2.1,z.2.2⟩
section
variable{P:Program}{w:World}{H:Hp}{h:Heap}{a:Addr}
theorem WB{u:HO}(ok:nC P w H h)(e:Rd H a u):eI P w H h a u:=e.ok ok
theorem tZ{kvs:List (dP × V)}(ok:nC P w H h)(e:Rd H a (.dK kvs)):kvs.length<=sizeLine/\(a == sysModules)=false/\∃vs,KV kvs vs/\h.DictOf (eC P w) a vs :=
 show eI P w H h a (.dK kvs) from WB ok e
theorem WS{kvs:List (dP × V)}(ok:nC P w H h)(e:H a=some (.dK kvs)):kvs.length<=sizeLine/\(a == sysModules)=false/\∃vs,KV kvs vs/\h.DictOf (eC P w) a vs:=tZ ok (.inl e)
theorem lJ{ks:List dP}(ok:nC P w H h)(e:H a=some (.tup (ks.map kV))):(tupleKind (eC P w)).is h ks a:=by
 obtain ⟨_,its,r,o,h1,h2,n,h3⟩:=(show eI P w H h a (.tup (ks.map kV)) from ok a _ e);exact ⟨o,its.toArray,n,h1,h2,h3,by simpa using yJ r⟩
theorem tY{kvs:List (List dP × V)}(ok:nC P w H h)(e:Rd H a (.dT kvs)):kvs.length<=sizeLine/\(a == sysModules)=false /\
  ∃xs,KT H kvs xs/\h.DictOfH (tupleKind (eC P w)) a xs:=by
 obtain ⟨z,y,xs,r,o,es,ep,h1,h2,h3,h4,h5⟩:=(show eI P w H h a (.dT kvs) from WB ok e);refine ⟨z,y,xs,r,o,es,ep,h1,h2,h3,h4,λx hx=>?_,h5⟩;have all:∀{l:List (List dP × V)} {m:List (List dP × Addr × Value)},KT H l m->∀x∈m,(tupleKind (eC P w)).is h x.1 x.2.1:=by
  intro l m q
  induction q with
  | nil=>intro x hx;exact nomatch hx
  | @cons p q ps qs hq t ih =>
   intro x hx;rcases aT.mp hx with e | hx
   ·subst e;exact lJ ok (by rw [<-hq.1];exact hq.2.1)
   ·exact ih x hx
 exact all r x hx
theorem WR{kvs:List (List dP × V)}(ok:nC P w H h)(e:H a=some (.dT kvs)):kvs.length<=sizeLine/\(a == sysModules)=false /\
  ∃xs,KT H kvs xs/\h.DictOfH (tupleKind (eC P w)) a xs:=tY ok (.inl e)
end
def iS(H:Hp)(a:Addr)(y:V)(r:Option V):Prop :=
 (∃kvs k,Rd H a (.dK kvs)/\y=kV k/\r=dU kvs k)\/∃kvs k b,Rd H a (.dT kvs)/\y=.ref b/\H b=some (.tup (k.map kV))/\r=dU kvs k
def BN(H:Hp)(a:Addr)(y v:V)(H':Hp):Prop :=
 (∃kvs k,H a=some (.dK kvs)/\y=kV k/\kvs.length<sizeLine/\H'=upd H a (.dK (iQ kvs k v))) \/
 ∃kvs k b,H a=some (.dT kvs)/\y=.ref b/\H b=some (.tup (k.map kV))/\kvs.length<sizeLine/\H'=upd H a (.dT (iQ kvs k v))
theorem iS.k{H:Hp}{a:Addr}{kvs:List (dP × V)}{k:dP}(e:H a=some (.dK kvs)):iS H a (kV k) (dU kvs k):=.inl ⟨kvs,k,.inl e,rfl,rfl⟩
theorem iS.t{H:Hp}{a b:Addr}{kvs:List (List dP × V)}{k:List dP}(e:H a=some (.dT kvs))(eb:H b=some (.tup (k.map kV))):iS H a (.ref b) (dU kvs k):=.inr ⟨kvs,k,b,.inl e,rfl,eb,rfl⟩
theorem BN.k{H:Hp}{a:Addr}{kvs:List (dP × V)}{k:dP}{v:V}(e:H a=some (.dK kvs))(hl:kvs.length<sizeLine):BN H a (kV k) v (upd H a (.dK (iQ kvs k v))):=.inl ⟨kvs,k,e,rfl,hl,rfl⟩
theorem BN.t{H:Hp}{a b:Addr}{kvs:List (List dP × V)}{k:List dP}{v:V}(e:H a=some (.dT kvs))(eb:H b=some (.tup (k.map kV)))(hl:kvs.length<sizeLine) :
  BN H a (.ref b) v (upd H a (.dT (iQ kvs k v))):=.inr ⟨kvs,k,b,e,rfl,eb,hl,rfl⟩
section
variable{X:Cx}{pins:List (Addr × Obj)}{σ:St}{H:Hp}{s:Shared}{a:Addr}{y v:V}{u r:Value}{o:Option V}{A:Around}{E:Value->Shared->Prop}
theorem cE.big(I:cE X pins σ H s):sysModules<s.heap.objs.size:=by
 have h:mainGlobals<s.heap.objs.size:=(I.mod.glob.keeps I.bk).lt;exact Nat.lt_trans Dd h
theorem KN{Q:Value->Shared->Prop}(hu:A.units+1<cLine)(I:cE X pins σ H s)(g:iS H a y (some v))(ry:dH y u)(h:∀w' s',cE X pins σ H s'->dH v w'->Q w' s') :
  wpAny (model X.prog X.w) A (getItem (.ref a) u) Q E s:=by
 rcases g with ⟨kvs,k,e,ey,l⟩ | ⟨kvs,k,b,e,ey,eb,l⟩
 ·subst ey;obtain ⟨z,hd,vs,rel,dd⟩:=tZ I.hok e;obtain ⟨w',hw,rw'⟩:=tF.some_of (v:=v) (o:=valueAt vs k) (by rw [l];exact rel.val k);exact wpAny_getItem_of (tS ry) dd.mapOf hw (h w' _ (I.tok _) rw')
 ·subst ey;cases (show u=Value.ref b from ry);obtain ⟨z,hd,xs,rel,dd⟩:=tY I.hok e;obtain ⟨w',hw,rw'⟩:=tF.some_of (v:=v) (o:=(atKey xs k).map (·.2)) (by rw [l];exact rel.val k);obtain ⟨p,hp,hp2⟩:=eE.mp hw;refine wpAny_getItem_heap (tupleKind_room_in1 hu) (lJ I.hok eb) dd hp ?_;rw [hp2];exact h w' _ (I.tok _) rw'
theorem aDt{Q:Value->Shared->Prop}(hu:A.units+1<cLine)(I:cE X pins σ H s)(g:iS H a y o)(ry:dH y u)(h:∀s',cE X pins σ H s'->Q (.bool o.isSome) s') :
  wpAny (model X.prog X.w) A (compareOp .In u (.ref a)) Q E s:=by
 rcases g with ⟨kvs,k,e,ey,l⟩ | ⟨kvs,k,b,e,ey,eb,l⟩
 ·subst ey;obtain ⟨z,hd,vs,rel,dd⟩:=tZ I.hok e;refine wpAny_in_of (tS ry) hd dd.mapOf ?_;rw [<-(rel.val k).isSome_eq,<-l];exact h _ (I.tok _)
 ·subst ey;cases (show u=Value.ref b from ry);obtain ⟨z,hd,xs,rel,dd⟩:=tY I.hok e;refine wpAny_in_heap (tupleKind_room_in1 hu) (lJ I.hok eb) hd dd ?_;have q:=(rel.val k).isSome_eq;rw [Option.isSome_map] at q;rw [<-q,<-l];exact h _ (I.tok _)
theorem UN{Q:Value->Shared->Prop}(hu:A.units+1<cLine)(I:cE X pins σ H s)(g:iS H a y o)(ry:dH y u)(h:∀s',cE X pins σ H s'->Q (.bool (!o.isSome)) s') :
  wpAny (model X.prog X.w) A (compareOp .NotIn u (.ref a)) Q E s:=by
 rcases g with ⟨kvs,k,e,ey,l⟩ | ⟨kvs,k,b,e,ey,eb,l⟩
 ·subst ey;obtain ⟨z,hd,vs,rel,dd⟩:=tZ I.hok e;refine wpAny_notIn_of (tS ry) hd dd.mapOf ?_;rw [<-(rel.val k).isSome_eq,<-l];exact h _ (I.tok _)
 ·subst ey;cases (show u=Value.ref b from ry);obtain ⟨z,hd,xs,rel,dd⟩:=tY I.hok e;refine wpAny_notIn_heap (tupleKind_room_in1 hu) (lJ I.hok eb) hd dd ?_;have q:=(rel.val k).isSome_eq;rw [Option.isSome_map] at q;rw [<-q,<-l];exact h _ (I.tok _)
theorem rM{h':Heap}{t':Nat}{ob:HO}(I:cE X pins σ H s)(mu:Mut (H a))(hs:Heap.SameBut a s.heap h')(he:∃q,h'.get? a=some q)(new:eI X.prog X.w (upd H a ob) h' a ob) :
  cE X pins σ (upd H a ob) { s with heap:=h',toks:=t' } :=
 I.write (x:=a) (e:=a) mu (.inl rfl) (λb q hb z=>(hs.2 b hb).trans z) he new
theorem OV{P:Program}{w:World}{H':Hp}{h':Heap}{kvs:List (dP × V)}{vs:List (dP × Value)}(z:kvs.length<=sizeLine)(hd:(a == sysModules)=false)(rel:KV kvs vs)(dd:h'.DictOf (eC P w) a vs) :
  eI P w H' h' a (.dK kvs):=⟨z,hd,vs,rel,dd⟩
theorem KM{H':Hp}{Q:Unit->Shared->Prop}(hu:A.units+1<cLine)(I:cE X pins σ H s)(g:BN H a y v H')(ry:dH y u)(rv:dH v r)(h:∀s',cE X pins σ H' s'->Q () s') :
  wpAny (model X.prog X.w) A (setItem (.ref a) u r) Q E s:=by
 rcases g with ⟨kvs,k,e,ey,l,eH⟩ | ⟨kvs,k,b,e,ey,eb,l,eH⟩
 ·subst ey eH;obtain ⟨z,hd,vs,rel,dd⟩:=WS I.hok e;have hz:vs.length<=sizeLine:=by rw [<-rel.length];exact z
  have hl:(iQ kvs k v).length<=sizeLine:=by have:=fL kvs k v;omega
  refine wpAny_setItem_pairs (hsz:=hz) (tS ry) dd λh' dd' hs=>h _ ?_;have he:∃q,h'.get? a=some q:=let ⟨q,_,_,hq,_⟩:=dd';⟨q,hq⟩;exact rM I (by rw [e];exact True.intro) hs he (OV hl hd (rel.put k rv) dd')
 ·subst ey eH;cases (show u=Value.ref b from ry);obtain ⟨z,hd,xs,rel,dd⟩:=WR I.hok e;have hz:xs.length<=sizeLine:=by rw [<-Paired.length rel];exact z
  have hl:(iQ kvs k v).length<=sizeLine:=by have:=fL kvs k v;omega
  refine wpAny_setItem_heap (hsz:=hz) (tupleKind_room_in1 hu) (lJ I.hok eb) dd λh' dd' hs=>h _ ?_;obtain ⟨q,es,ep,hq,h2,h3,h4,_,h5⟩:=dd';refine rM I (by rw [e];exact True.intro) hs ⟨q,hq⟩ ⟨hl,hd,_,(rel.put k eb rv).keeps λc ys ec=>?_,q,es,ep,hq,h2,h3,h4,h5⟩;rw [bT (vX ec e (λz=>nomatch z))];exact ec
end
section
variable{X:Cx}{pins:List (Addr × Obj)}{σ:St}{H:Hp}{s:Shared}{a:Addr}{kvs:List (dP × V)}{k:dP}{u:Value}{A:Around}{E:Value->Shared->Prop}
end
def aAZ(i:Expr):Prop:=∀ov iv,subscripted i false ov iv=operate [ov,iv] (getItem ov iv)
theorem RH{prog:Program}{w:World}{A:Around}{E:Value->Shared->Prop}{s:Shared}{env:Env}{value slice:Expr}{pos:Pos}{T id:String}{Q:Value->Shared->Prop}
  (hl:typeLookup (.type T) "__getitem__" = pure (some (.builtin id))) (hs:aAZ slice)
  (h:wpAny (model prog w) A (eval value env) (λo s₁=>wpAny (model prog w) A (eval slice env) (λi s₂=>s₂.TypeIs o T/\wpAny (model prog w) A (getItem o i) Q E s₂) E s₁) E s) :
  wpAny (model prog w) A (eval (.Subscript value slice pos) env) Q E s:=by
 refine Subscript_ (wpAny_mono h (λo s₁ h₁=>wpAny_mono h₁ (λi s₂ h₂=>?_) λ_ _ x=>x) λ_ _ x=>x);obtain ⟨hT,h₂⟩:=h₂;unfold subscriptTail;refine wpAny_bind ?_;rw [getitemInPython_of_ne hT.not_modules];refine wpAny_bind (wpAny_specialOf hT hl ?_);have fin:wpAny (model prog w) A (subscripted slice false o i) (λr s₃=>wpAny (model prog w) A (letTemporaryGo value o r >>= λ_=>pure r) Q E s₃) E s₂:=by
  rw [hs o i];exact wpAny_operating (wpAny_mono h₂ (λr s₃ h₃=>wpAny_bind (wpAny_letTemporaryGo (wpAny_pure h₃))) λ_ _ x=>x)
 first
  | exact wpAny_pure (wpAny_bind fin)
  | exact wpAny_bind (wpAny_pure (wpAny_bind fin))
  | exact wpAny_bind fin
theorem DC{X:Cx}{pins:List (Addr × Obj)}{σ:St}{H:Hp}{s:Shared}{a:Addr}{y:V}{o:Option V}(I:cE X pins σ H s)(g:iS H a y o):s.TypeIs (.ref a) "dict" := by
 rcases g with ⟨kvs,k,e,_,_⟩ | ⟨kvs,k,b,e,_,_,_⟩
 ·obtain ⟨_,_,vs,_,dd⟩:=tZ I.hok e;exact dd.typeIs
 ·obtain ⟨_,_,xs,_,dd⟩:=tY I.hok e;exact dd.typeIs
def aBp(td ty:TE):TE:=λσ H Q=>td σ H λx H1=>ty σ H1 λy H2=>∃a v,x=.ref a/\iS H2 a y (some v)/\Q v H2
def aBv(td ty tv:TE):TS:=λD σ H=>tv σ H λv H1=>td σ H1 λx H2=>ty σ H2 λy H3=>∃a H4,x=.ref a/\BN H3 a y v H4/\D.nx σ H4
section
variable{X:Cx}{o i e value:Expr}{pos pos' tpos:Pos}{td ty tv:TE}
theorem TC(hu:X.A.units+1<cLine)(ho:PE X o td)(hi:PE X i ty)(hs:aAZ i):PE X (.Subscript o i pos) (aBp td ty):=by
 intro pins s σ H Q I h;refine RH PySem.F.slot_dict_getitem.lookup hs (thn (ho pins s σ H _ I h) λu s1 ⟨x,H1,I1,rx,q1⟩=>thn (hi pins s1 σ H1 _ I1 q1) λiv s2 ⟨y,H2,I2,ry,a,v,ex,g,q2⟩=>?_);subst ex;obtain rfl:u=Value.ref a:=rx;exact ⟨DC I2 g,KN hu I2 g ry λw' s3 I3 rw'=>⟨v,H2,I3,rw',q2⟩⟩
theorem SS(hu:X.A.units+1<cLine)(ho:PE X o td)(hi:PE X i ty)(hv:PE X value tv)(hs:swapsWith value (some (.Subscript o i pos')) pos.line X.env=pure false) :
  PS X (.Assign [.Subscript o i pos'] value pos) (aBv td ty tv):=by
 intro pins s σ H D I h;refine wpAny_Assign_Subscript (thn (hv pins s σ H _ I h) λr s1 ⟨v,H1,I1,rv,q1⟩=>thn (ho pins s1 σ H1 _ I1 q1) λu s2 ⟨x,H2,I2,rx,q2⟩=>thn (hi pins s2 σ H2 _ I2 q2) λiv s3 ⟨y,H3,I3,ry,a,H4,ex,g,q3⟩=>?_) hs;subst ex;obtain rfl:u=Value.ref a:=rx;exact KM hu I3 g ry rv λs4 I4=>⟨σ,H4,I4,q3⟩
end
theorem OW{P:Program}{w:World}{H:Hp}(h:Heap)(hb:sysModules<h.objs.size):eI P w H (h.push { cls:=.type "dict",data:=.dict #[] }) h.objs.size (.dK []) :=
 ⟨cC _,beq_eq_false_iff_ne.mpr (Ne.symm (bW hb)),[],.nil,Heap.DictOf.new h⟩
theorem wO{P:Program}{w:World}{H:Hp}(h:Heap)(hb:sysModules<h.objs.size):eI P w H (h.push { cls:=.type "dict",data:=.dict #[] }) h.objs.size (.dT []) :=
 ⟨cC _,beq_eq_false_iff_ne.mpr (Ne.symm (bW hb)),[],.nil,_,#[],0,aY _ rfl,⟨rfl,rfl,rfl⟩,rfl,rfl,List.nodup_nil⟩
def ME:TE:=λ_ H Q=>∀p,H p=none->Q (.ref p) (upd H p (.dT []))
section
variable{X:Cx}{pos:Pos}
theorem pe_dnewT:PE X (.Dict [] [] pos) ME:=λpins s σ H Q I h =>
 wpAny_Dict_empty ⟨.ref s.heap.objs.size,_,I.laid (a:=s.heap.objs.size) (o:=.dT []) (t':=s.toks) (λ_ _ q=>aB _ q) (aJ _) (wO s.heap I.big),rfl,h _ (I.hok.fresh (aJ _))⟩
end
def EL:List (TE × TE)->St->Hp->(List (V × V)->Hp->Prop)->Prop
 | [],_,H,Q=>Q [] H
 | (tk,tv)::r,σ,H,Q=>tk σ H λx H1=>tv σ H1 λy H2=>EL r σ H2 λps H3=>Q ((x,y)::ps) H3
abbrev VV:List (V × V)->List (Value × Value)->Prop:=Paired λp q=>dH p.1 q.1/\dH p.2 q.2
def PPs(X:Cx)(pos:Pos)(keys:List (Option Expr))(values:List Expr)(trs:List (TE × TE)):Prop :=
 ∀(pins:List (Addr × Obj)) (s:Shared) (σ:St) (H:Hp) (Q:List (V × V)->Hp->Prop),cE X pins σ H s->EL trs σ H Q ->
  wpAny (model X.prog X.w) X.A (evalPairs (pairTrees keys values X.env pos)) (λvs s'=>∃ps H',cE X pins σ H' s'/\VV ps vs/\Q ps H') X.xe s
theorem pps_nil{X:Cx}{pos:Pos}:PPs X pos [] [] []:=λpins s σ H Q I h=>pairTrees_nil_walk ⟨[],H,I,.nil,h⟩
theorem NG{X:Cx}{pos:Pos}{k v:Expr}{ks:List (Option Expr)}{vs:List Expr}{tk tv:TE}{trs:List (TE × TE)}(hk:PE X k tk)(hv:PE X v tv)(hr:PPs X pos ks vs trs) :
  PPs X pos (some k::ks) (v::vs) ((tk,tv)::trs):=λpins s σ H Q I h =>
 pairTrees_cons_walk (thn (hk pins s σ H _ I h) λu s1 ⟨x,H1,I1,rx,q1⟩=>thn (hv pins s1 σ H1 _ I1 q1) λw2 s2 ⟨y,H2,I2,ry,q2⟩ =>
  thn (hr pins s2 σ H2 _ I2 q2) λws s3 ⟨ps,H3,I3,rel,q3⟩=>⟨(x,y)::ps,H3,I3,.cons ⟨rx,ry⟩ rel,q3⟩)
def vY(kvs more:List (dP × V)):List (dP × V):=more.foldl (λacc kv=>iQ acc kv.1 kv.2) kvs
theorem KV.merge:∀{more:List (dP × V)}{rs:List (dP × Value)}{kvs:List (dP × V)}{vs:List (dP × Value)},KV more rs->KV kvs vs->KV (vY kvs more) (merged vs rs):=by
 intro more rs kvs vs r;unfold KV at r
 induction r generalizing kvs vs with
 | nil=>intro q;exact q
 | @cons p q ps qs h t ih =>
  intro r0;have e:KV (iQ kvs p.1 p.2) (stored vs q.1 q.2):=by
   have:=r0.put p.1 h.2;rw [<-h.1];exact this
  exact ih e
theorem pO:∀(more kvs:List (dP × V)),(vY kvs more).length<=kvs.length+more.length
 | [],kvs=>by show kvs.length<=kvs.length+0;omega
 | p::r,kvs=>by
  have h1:=pO r (iQ kvs p.1 p.2);have h2:=fL kvs p.1 p.2;show (vY (iQ kvs p.1 p.2) r).length<=_;rw [cM];omega
theorem wT{P:Program}{w:World}:∀{kvs:List (dP × V)}{ws:List (Value × Value)},VV (kvs.map λkv=>(kV kv.1,kv.2)) ws->∃rs,Carries (eC P w) ws rs/\KV kvs rs
 | [],_,r=>by rw [List.map_nil] at r;cases r;exact ⟨[],True.intro,.nil⟩
 | p::kvs,_,r=>by
  rw [aO] at r;cases r with
  | @cons a b as bs h t =>
   obtain ⟨rs,c,q⟩:=wT (P:=P) (w:=w) t;obtain ⟨b1,b2⟩:=b;exact ⟨(p.1,b2)::rs,⟨tS h.1,rfl,c⟩,.cons ⟨rfl,h.2⟩ q⟩
def VT(trs:List (TE × TE)):TE:=λσ H Q=>∀p,H p=none->EL trs σ (upd H p (.dK [])) λps H2=>H2 p=some (.dK [])/\∃kvs:List (dP × V),ps=kvs.map (λkv=>(kV kv.1,kv.2))/\kvs.length<=15/\Q (.ref p) (upd H2 p (.dK (vY [] kvs)))
theorem SZ{X:Cx}{pos:Pos}{keys:List (Option Expr)}{values:List Expr}{trs:List (TE × TE)}(h:PPs X pos keys values trs)(hall:keys.all (·.isSome)=true)(hl:keys.length=values.length)(h0:keys≠[])
  (h15:keys.length<=15):PE X (.Dict keys values pos) (VT trs):=by
 intro pins s σ H Q I q;have hn:=I.hok.fresh (aJ s.heap.objs.size);have I1:=I.laid (a:=s.heap.objs.size) (o:=.dK []) (h':=s.heap.push { cls:=.type "dict",data:=.dict #[] }) (t':=s.toks) (λ_ _ q=>aB _ q) (aJ _) (OW s.heap I.big);refine wpAny_Dict_walk (knd:=eC X.prog X.w) hall hl h0 h15 (thn (h pins _ σ _ _ I1 (q _ hn)) λws s2 ⟨ps,H2,I2,rel,e,kvs,ep,lk,q2⟩=>?_);subst ep;obtain ⟨rs,c,rk⟩:=wT (P:=X.prog) (w:=X.w) rel;obtain ⟨z,hd,vs0,r0,dd⟩:=WS I2.hok e;cases r0;refine ⟨rs,c,dd,λh' dd' hs=>⟨.ref s.heap.objs.size,_,?_,rfl,q2⟩⟩;have hz:(vY [] kvs).length<=sizeLine:=by
  have h1:=pO kvs [];rw [List.length_nil] at h1;rw [sizeLine_eq];omega
 have he:∃q,h'.get? s.heap.objs.size=some q:=let ⟨q,_,_,hq,_⟩:=dd';⟨q,hq⟩;exact rM I2 (by rw [e];exact True.intro) hs he (OV hz hd (rk.merge .nil) dd')
structure M1(X:Cx)(o:Expr)(m:Str)(apos:Pos)(e:Expr)(cpos:Pos):Prop where
 base:attributeBase o m X.env (eval o X.env)=eval o X.env
 few:((backTo cpos (starEach [e] X.env)).all (λx=>!x.1)&&(backToKw cpos (keywordEach [] X.env)).all (λx=>x.1.isSome)
  && decide (([e]:List Expr).length+([]:List Keyword).length+(if ([]:List Keyword).isEmpty then 0 else 1)<30))=true
 line:(apos.endLine == cpos.line)=true
 trees:backTo cpos (starEach [e] X.env)=[(false,eval e X.env)]
structure M2(X:Cx)(o:Expr)(m:Str)(apos:Pos)(e f:Expr)(cpos:Pos):Prop where
 base:attributeBase o m X.env (eval o X.env)=eval o X.env
 few:((backTo cpos (starEach [e,f] X.env)).all (λx=>!x.1)&&(backToKw cpos (keywordEach [] X.env)).all (λx=>x.1.isSome)
  && decide (([e,f]:List Expr).length+([]:List Keyword).length+(if ([]:List Keyword).isEmpty then 0 else 1)<30))=true
 line:(apos.endLine == cpos.line)=true
 trees:backTo cpos (starEach [e,f] X.env)=[(false,eval e X.env),(false,eval f X.env)]
def IsD(H:Hp)(a:Addr):Prop:=(∃kvs,Rd H a (.dK kvs))\/∃kvs,Rd H a (.dT kvs)
theorem OI{X:Cx}{pins:List (Addr × Obj)}{σ:St}{H:Hp}{s:Shared}{a:Addr}(I:cE X pins σ H s)(d:IsD H a) :
  s.TypeIs (.ref a) "dict" /\ (∀b,Value.ref a=.ref b->∃ob,s.heap.get? b=some ob/\ob.dict=none)/\(a == sysModules)=false:=by
 rcases d with ⟨kvs,e⟩ | ⟨kvs,e⟩
 ·obtain ⟨_,hd,vs,_,dd⟩:=tZ I.hok e;refine ⟨dd.typeIs,λb q=>?_,hd⟩;cases q;obtain ⟨ob,_,_,h1,h2,_⟩:=dd;exact ⟨ob,h1,h2.2.1⟩
 ·obtain ⟨_,hd,xs,_,dd⟩:=tY I.hok e;refine ⟨dd.typeIs,λb q=>?_,hd⟩;cases q;obtain ⟨ob,_,_,h1,h2,_⟩:=dd;exact ⟨ob,h1,h2.2.1⟩
section
variable{X:Cx}{pins:List (Addr × Obj)}{σ:St}{H:Hp}{s:Shared}{a:Addr}{y d:V}{u r:Value}{o:Option V}{A:Around}{E:Value->Shared->Prop}
theorem aAI{Q:Value->Shared->Prop}(hu:A.units+1<cLine)(I:cE X pins σ H s)(g:iS H a y o)(ry:dH y u)(h:∀w' s',cE X pins σ H s'->dH (o.getD .non) w'->Q w' s') :
  wpAny (model X.prog X.w) A (call (.builtin "dict.get") [.ref a,u]) Q E s:=by
 rcases g with ⟨kvs,k,e,ey,l⟩ | ⟨kvs,k,b,e,ey,eb,l⟩
 ·subst ey;obtain ⟨z,hd,vs,rel,dd⟩:=tZ I.hok e;refine call_meetsIn PySem.F.slot_dict_get dd.typeIs PySem.F.entry_dict_get (PySem.F.args_dict_get_2 _ _) (meets_dict_get (eC X.prog X.w) a (tS ry) hd) ⟨_,dd.mapOf,h _ _ (I.tok _) ?_⟩;rw [l];exact (rel.val k).getD rfl
 ·subst ey;cases (show u=Value.ref b from ry);obtain ⟨z,hd,xs,rel,dd⟩:=tY I.hok e;refine call_meetsIn PySem.F.slot_dict_get dd.typeIs PySem.F.entry_dict_get (PySem.F.args_dict_get_2 _ _) (meetsH_dict_get (tupleKind (eC X.prog X.w)) a b hd) ⟨tupleKind_room_in1 hu,k,xs,lJ I.hok eb,dd,h _ _ (I.tok _) ?_⟩;rw [l];exact (rel.val k).getD rfl
theorem aAH{Q:Value->Shared->Prop}(hu:A.units+1<cLine)(I:cE X pins σ H s)(g:iS H a y o)(ry:dH y u)(rd:dH d r)(h:∀w' s',cE X pins σ H s'->dH (o.getD d) w'->Q w' s') :
  wpAny (model X.prog X.w) A (call (.builtin "dict.get") [.ref a,u,r]) Q E s:=by
 rcases g with ⟨kvs,k,e,ey,l⟩ | ⟨kvs,k,b,e,ey,eb,l⟩
 ·subst ey;obtain ⟨z,hd,vs,rel,dd⟩:=tZ I.hok e;refine call_meetsIn PySem.F.slot_dict_get dd.typeIs PySem.F.entry_dict_get (PySem.F.args_dict_get_3 _ _ _) (meets_dict_get_default (eC X.prog X.w) a (tS ry) hd r) ⟨_,dd.mapOf,h _ _ (I.tok _) ?_⟩;rw [l];exact (rel.val k).getD rd
 ·subst ey;cases (show u=Value.ref b from ry);obtain ⟨z,hd,xs,rel,dd⟩:=tY I.hok e;refine call_meetsIn PySem.F.slot_dict_get dd.typeIs PySem.F.entry_dict_get (PySem.F.args_dict_get_3 _ _ _) (meetsH_dict_get_default (tupleKind (eC X.prog X.w)) a b hd r) ⟨tupleKind_room_in1 hu,k,xs,lJ I.hok eb,dd,h _ _ (I.tok _) ?_⟩;rw [l];exact (rel.val k).getD rd
end
def MG(td ty:TE):TE:=λσ H Q=>td σ H λx H1=>∃a,x=.ref a/\IsD H1 a/\ty σ H1 λy H2=>∃o,iS H2 a y o/\Q (o.getD .non) H2
def MF(td ty tx:TE):TE:=λσ H Q=>td σ H λx H1=>∃a,x=.ref a/\IsD H1 a/\ty σ H1 λy H2=>tx σ H2 λz H3=>∃o,iS H3 a y o/\Q (o.getD z) H3
section
variable{X:Cx}{o e f:Expr}{apos cpos:Pos}{td ty tx:TE}
theorem NL(hu:X.A.units+1<cLine)(ho:PE X o td)(he:PE X e ty)(m:M1 X o "get" apos e cpos):PE X (.Call (.Attribute o "get" apos) [e] [] cpos) (MG td ty):=by
 intro pins s σ H Q I h;refine wpAny_Call_method m.base m.few m.line PySem.F.plainAttrs_dict PySem.F.slot_dict_get PySem.F.type_dict_get (thn (ho pins s σ H _ I h) λu s1 ⟨x,H1,I1,rx,a,ex,d,q1⟩=>?_);subst ex;obtain rfl:u=Value.ref a:=rx;obtain ⟨t1,t2,_⟩:=OI I1 d;refine ⟨t1,t2,?_⟩;rw [m.trees];refine Calls.callWith_builtin rfl (Calls.evalArgs_plain (Calls.spliced_cons (thn (he pins s1 σ H1 _ I1 q1) λiv s2 ⟨y,H2,I2,ry,ov,g,q2⟩=>Calls.spliced_nil ?_)));exact aAI hu I2 g ry λw' s3 I3 rw'=>⟨_,H2,I3,rw',q2⟩
theorem NK(hu:X.A.units+1<cLine)(ho:PE X o td)(he:PE X e ty)(hf:PE X f tx)(m:M2 X o "get" apos e f cpos):PE X (.Call (.Attribute o "get" apos) [e,f] [] cpos) (MF td ty tx):=by
 intro pins s σ H Q I h;refine wpAny_Call_method m.base m.few m.line PySem.F.plainAttrs_dict PySem.F.slot_dict_get PySem.F.type_dict_get (thn (ho pins s σ H _ I h) λu s1 ⟨x,H1,I1,rx,a,ex,d,q1⟩=>?_);subst ex;obtain rfl:u=Value.ref a:=rx;obtain ⟨t1,t2,_⟩:=OI I1 d;refine ⟨t1,t2,?_⟩;rw [m.trees];refine Calls.callWith_builtin rfl (Calls.evalArgs_plain (Calls.spliced_cons (thn (he pins s1 σ H1 _ I1 q1) λiv s2 ⟨y,H2,I2,ry,q2⟩ =>
  Calls.spliced_cons (thn (hf pins s2 σ H2 _ I2 q2) λfv s3 ⟨z,H3,I3,rz,ov,g,q3⟩=>Calls.spliced_nil ?_))))
 exact aAH hu I3 g ry rz λw' s4 I4 rw'=>⟨_,H3,I4,rw',q3⟩
end
section
variable{X:Cx}{pins:List (Addr × Obj)}{σ:St}{H:Hp}{s:Shared}{a:Addr}{kvs:List (dP × V)}{A:Around}{E:Value->Shared->Prop}
end
section
variable{X:Cx}{pins:List (Addr × Obj)}{σ:St}{H:Hp}{s:Shared}{a:Addr}{y:V}{u:Value}{A:Around}{E:Value->Shared->Prop}
end
section
variable{κ:Type}[DecidableEq κ]
theorem BQ{kvs:List (κ × V)}{k:κ}(h:dU kvs k=none):¬k∈kvs.map (·.1):=by
 intro m;obtain ⟨p,hp,e⟩:=aD.mp m;have q:(kvs.any λkv=>decide (kv.1=k))=true:=List.any_eq_true.mpr ⟨p,hp,bV e⟩;rw [jK,h] at q;exact absurd q (by simp)
theorem qI{kvs:List (κ × V)}{k:κ}{v:V}(h:dU kvs k=some v):k∈kvs.map (·.1):=by
 have q:(kvs.any λkv=>decide (kv.1=k))=true:=by
  rw [jK,h]
  all_goals rfl
 obtain ⟨p,hp,e⟩:=List.any_eq_true.mp q;exact aD.mpr ⟨p,hp,of_decide_eq_true e⟩
end
abbrev bits(i:Int):Nat:=Builtin.Int.intBits i
def QN(i j:Int):Prop:=0<j/\bits j<=9000
theorem tQ{j:Int}{n:Nat}(h:bits j<=n)(hn:0<n):j.natAbs.log2<n:=by
 unfold bits Builtin.Int.intBits at h;by_cases hj:(j == 0)=true
 ·have:j=0:=by simpa using hj
  subst this;exact bB (by decide +kernel:(0:Int).natAbs.log2<=0) hn
 ·rw [if_neg hj] at h;omega
section
variable{X:Cx}
theorem fV:mN X (binaryOp .FloorDiv) (rI QN λi j=>.int (i/j)):=opI λi j _ _ _ _ _ hc q=>by
 refine floordiv_int (by have:=hc.1;omega) ?_ (.inl (PyProof.noPylong_of_log2 (tQ hc.2 Dd)));rw [Int.fdiv_eq_ediv_of_nonneg i (by have:=hc.1;omega)];exact q
theorem fK:mN X (binaryOp .Mult) (rI IntMulOk λi j=>.int (i*j)):=opI λ_ _ _ _ _ _ _ hc q=>mul_int q hc
end
mutual
def cO(H:Hp):PyData->V->Prop
 | .none,v=>v=.non
 | .bool b,v=>v=.bl b
 | .int i,v=>v=.int i
 | .str x,v=>v=.str x
 | .list ds,v=>∃a xs,v=.ref a/\H a=some (.lst xs)/\bD H ds xs
 | .tuple ds,v=>∃a xs,v=.ref a/\H a=some (.tup xs)/\bD H ds xs
 | .dict kvs,v=>kvs=[]/\∃a,v=.ref a/\H a=some (.dK [])
def bD(H:Hp):List PyData->List V->Prop
 | [],vs=>vs=[]
 | d::ds,vs=>∃x xs,vs=x::xs/\cO H d x/\bD H ds xs
end
mutual
theorem cO.same{H H':Hp}(e:bC H H'):∀{d:PyData}{v:V},cO H d v->cO H' d v
 | .none,_,h=>h
 | .bool _,_,h=>h
 | .int _,_,h=>h
 | .str _,_,h=>h
 | .list ds,_,h=>by
  unfold cO at h ⊢;obtain ⟨a,xs,rfl,h1,h2⟩:=h;exact ⟨a,xs,rfl,e _ _ h1,bD.same e h2⟩
 | .tuple ds,_,h=>by
  unfold cO at h ⊢;obtain ⟨a,xs,rfl,h1,h2⟩:=h;exact ⟨a,xs,rfl,e _ _ h1,bD.same e h2⟩
 | .dict kvs,_,h=>by
  unfold cO at h ⊢;obtain ⟨h0,a,rfl,h1⟩:=h;exact ⟨h0,a,rfl,e _ _ h1⟩
theorem bD.same{H H':Hp}(e:bC H H'):∀{ds:List PyData}{vs:List V},bD H ds vs->bD H' ds vs
 | [],_,h=>h
 | d::ds,_,h=>by
  unfold bD at h ⊢;obtain ⟨x,xs,rfl,h1,h2⟩:=h;exact ⟨x,xs,rfl,cO.same e h1,bD.same e h2⟩
end
theorem cO.tup{H:Hp}{a:Addr}{xs:List V}{ds:List PyData}(h:H a=some (.tup xs))(r:bD H ds xs):cO H (.tuple ds) (.ref a):=by
 unfold cO;exact ⟨a,xs,rfl,h,r⟩
theorem cO.lst{H:Hp}{a:Addr}{xs:List V}{ds:List PyData}(h:H a=some (.lst xs))(r:bD H ds xs):cO H (.list ds) (.ref a):=by
 unfold cO;exact ⟨a,xs,rfl,h,r⟩
theorem cO.int{H:Hp}(i:Int):cO H (.int i) (.int i):=by unfold cO;rfl
theorem bD.nil{H:Hp}:bD H [] []:=by unfold bD;rfl
theorem bD.cons{H:Hp}{d:PyData}{ds:List PyData}{x:V}{xs:List V}(h:cO H d x)(hs:bD H ds xs):bD H (d::ds) (x::xs):=by
 unfold bD;exact ⟨x,xs,rfl,h,hs⟩
section
variable{X:Cx}{pins:List (Addr × Obj)}{σ:St}{H:Hp}{s:Shared}
mutual
theorem cO.reads(I:cE X pins σ H s):∀{d:PyData}{v:V}{u:Value},cO H d v->dH v u->∃as,Reads s.heap u d as
 | .none,_,u,h,r=>by
  cases (show _=V.non from h);cases (show u=Value.none from r);exact ⟨_,.none⟩
 | .bool b,_,u,h,r=>by
  cases (show _=V.bl b from h);cases (show u=Value.bool b from r);exact ⟨_,.bool b⟩
 | .int b,_,u,h,r=>by
  cases (show _=V.int b from h);obtain ⟨t,q⟩:=(show ∃t,u=Value.int b t from r);cases q;exact ⟨_,.int b t⟩
 | .str b,_,u,h,r=>by
  cases (show _=V.str b from h);obtain ⟨t,q⟩:=(show ∃t,u=Value.str b t from r);cases q;exact ⟨_,.str b t⟩
 | .list ds,v,u,h,r=>by
  unfold cO at h;obtain ⟨a,xs,rfl,h1,h2⟩:=h;cases (show u=Value.ref a from r);obtain ⟨_,its,n,r',e⟩:=(show eI X.prog X.w H s.heap a (.lst xs) from I.hok a _ h1);obtain ⟨as,q⟩:=bD.reads I h2 r';exact ⟨_,.list e rfl rfl (by simpa using q)⟩
 | .tuple ds,v,u,h,r=>by
  unfold cO at h;obtain ⟨a,xs,rfl,h1,h2⟩:=h;cases (show u=Value.ref a from r);obtain ⟨_,its,r',o,e,hc,n,hd⟩:=(show eI X.prog X.w H s.heap a (.tup xs) from I.hok a _ h1);obtain ⟨as,q⟩:=bD.reads I h2 r';exact ⟨_,.tuple e hc hd (by simpa using q)⟩
 | .dict kvs,v,u,h,r=>by
  unfold cO at h;obtain ⟨rfl,a,rfl,h1⟩:=h;cases (show u=Value.ref a from r);obtain ⟨_,_,vs,kv,o,es,ep,e,hx,hd,_,hes,_⟩:=(show eI X.prog X.w H s.heap a (.dK []) from I.hok a _ h1);cases kv;have he:es.toList=[]:=by
   cases q:es.toList with
   | nil=>rfl
   | cons y ys=>rw [q] at hes;cases hes
  exact ⟨_,.dict e hx.1 hd (by rw [he];exact .nil) (by rw [he];exact .nil)⟩
theorem bD.reads(I:cE X pins σ H s):∀{ds:List PyData}{vs:List V}{us:List Value},bD H ds vs->cV vs us->∃as,ReadsAll s.heap us ds as
 | [],_,us,h,r=>by
  cases (show _=[] from h);cases r;exact ⟨_,.nil⟩
 | d::ds,_,us,h,r=>by
  unfold bD at h;obtain ⟨x,xs,rfl,h1,h2⟩:=h;cases r with
  | cons r1 r2 =>
   obtain ⟨as,q1⟩:=cO.reads I h1 r1;obtain ⟨bs,q2⟩:=bD.reads I h2 r2;exact ⟨_,.cons q1 q2⟩
end
end
section
variable{X:Cx}
theorem LC(hg:X.A.guards=some [])(hu:X.A.units+64<cLine):fX X (.builtin "repr") (λxs H Q=>∃x d,xs=[x]/\cO H d x/\d.showable=true/\d.hasDict=false/\d.depth<=60/\d.shown.length<=sizeLine/\Q (.str d.shown) H):=by
 intro pins s σ H xs us Q I r h;obtain ⟨x,d,rfl,hr,hs,hnd,hdp,hz,q⟩:=h;obtain ⟨u,rfl,ru⟩:=jJ r;obtain ⟨as,rd⟩:=hr.reads I ru;cases rd with
 | none=>exact PySem.P.repr_of_none ⟨.str _,H,I.tok _,⟨_,rfl⟩,q⟩
 | bool b=>exact PySem.P.repr_of_bool ⟨.str _,H,I.tok _,⟨_,rfl⟩,q⟩
 | int i t=>exact PySem.P.repr_of_int (by simpa [PyData.showable] using hs) ⟨.str _,H,I.tok _,⟨_,rfl⟩,q⟩
 | str y t=>exact PySem.P.repr_of_str ⟨.str _,H,I.tok _,⟨_,rfl⟩,q⟩ hz
 | list a1 a2 a3 a4=>exact repr_of_reads' (.list a1 a2 a3 a4) hs (PyData.noDict_hsm hnd) hg Oo (λ_ _ e=>e) (λh' u tk hk=>⟨.str _,H,I.kept hk,⟨_,rfl⟩,q⟩) hz
 | tuple a1 a2 a3 a4=>exact repr_of_reads' (.tuple a1 a2 a3 a4) hs (PyData.noDict_hsm hnd) hg Oo (λ_ _ e=>e) (λh' u tk hk=>⟨.str _,H,I.kept hk,⟨_,rfl⟩,q⟩) hz
 | dict a1 a2 a3 a4 a5=>simp [PyData.hasDict] at hnd
end
def tyD:PyData->String
 | .none => "NoneType"
 | .bool _ => "bool"
 | .int _ => "int"
 | .str _ => "str"
 | .list _ => "list"
 | .tuple _ => "tuple"
 | .dict _ => "dict"
theorem cO.ty{K:PySem.W.Frag}{H:Hp}{d:PyData}{v:V}(h:cO H d v):tE K H v (.type (tyD d)):=by
 cases d with
 | none=>cases (show v=V.non from h);exact .non
 | bool b=>cases (show v=V.bl b from h);exact .bl b
 | int b=>cases (show v=V.int b from h);exact .int b
 | str b=>cases (show v=V.str b from h);exact .str b
 | list ds=>unfold cO at h;obtain ⟨a,xs,rfl,h1,h2⟩:=h;exact .lst h1
 | tuple ds=>unfold cO at h;obtain ⟨a,xs,rfl,h1,h2⟩:=h;exact .tup h1
 | dict ds=>unfold cO at h;obtain ⟨_,a,rfl,h1⟩:=h;exact .dK h1
def isD(T:String)(d:PyData):Bool:=tyD d == T || (T == "int" && tyD d == "bool")
theorem aAl : ∀ T ∈ ["int", "bool", "tuple", "str", "list", "dict"], ∀ S ∈ ["NoneType", "bool", "int", "str", "list", "tuple", "dict"],
      PySem.W.kitOne [] (.type S) (.type T)=some (S == T || (T == "int" && S == "bool")):=Kk
theorem UC(K:PySem.W.Frag)(S T:String):PySem.W.kitOne K (.type S) (.type T)=PySem.W.kitOne [] (.type S) (.type T):=rfl
theorem WI(K:PySem.W.Frag)(d:PyData)(T:String)(hT:T = "int" \/ T = "bool" \/ T = "tuple" \/ T = "str" \/ T = "list" \/ T = "dict"):PySem.W.kitOne K (.type (tyD d)) (.type T)=some (isD T d):=by
 rw [UC];refine aAl T ?_ (tyD d) ?_
 ·rcases hT with rfl | rfl | rfl | rfl | rfl | rfl <;> decide
 ·cases d <;> simp [tyD]
section
variable{X:Cx}
theorem DS:fX X (.builtin "isinstance") (λxs H Q=>∃x d T,xs=[x,.ty T]/\cO H d x/\(T = "int" \/ T = "bool" \/ T = "tuple" \/ T = "str" \/ T = "list" \/ T = "dict")/\Q (.bl (isD T d)) H):=by
 intro pins s σ H xs us Q I r h;obtain ⟨x,d,T,rfl,hr,hT,q⟩:=h;obtain ⟨u,w',rfl,r1,r2⟩:=GM r;cases (show w'=Value.type T from r2);exact KH I r1 hr.ty (WI _ d T hT) λtk=>⟨.bl _,H,I.tok _,rfl,q⟩
end
structure gK(CX:LP)(P:Program)(w:World)(K:PySem.W.Frag)(mg:Str->Option Value)(base:Heap)(k:Nat)(x:Str)(ps:List Str)(sp:Sp):Prop where
 ex:∃(f:Addr) (fd:FuncData),dZ P w K mg base CX k f fd ps sp/\mg x=some (.ref f)/\PySem.W.keepIn K (.ref f)=true/\pR K fd ps []
section
variable{X:Cx}{k:Nat}{ps:List Str}{sp:Sp}{x:Str}{p pos:Pos}{e:Expr}{es:List Expr}{t:TA}
theorem aBN(F:gK dQ X.prog X.w X.K X.mg X.base k x ps sp)(hr:iD k X.A)(ha:PA X (e::es) t)(hg:Gl X x:=by rfl)
  (hdb:(x == ("__debug__" : Str))=false:=by decide) (he:starEach (e::es) X.env=(false,eval e X.env)::starEach es X.env:=by rfl) (hpl:(backTo pos (starEach es X.env)).any (·.1)=false:=by rfl) :
  PE X (.Call (.Name x p) (e::es) [] pos) (MK sp [] E0 t):=by
 obtain ⟨f,fd,h1,h2,h3,h4⟩:=F.ex;exact TH h1 hr hg h2 h3 h4 .nil aBO ha hdb he hpl
end
section
variable{K:PySem.W.Frag}{H:Hp}{p:Addr}{xs:List V}{i:Int}{v:V}{Q:VK}
theorem ixL(h:H p=some (.lst xs))(e:EB xs i=some v)(q:Q v H):rIx K (.ref p) (.int i) H Q:=.inl ⟨p,xs,i,v,rfl,rfl,fS.of h,e,q⟩
theorem tU(h:H p=some (.tup xs))(e:EB xs i=some v)(q:Q v H):rIx K (.ref p) (.int i) H Q:=.inr (.inl ⟨p,xs,i,v,rfl,rfl,eZ.of h,e,q⟩)
theorem stL{u:V}{Q:Hp->Prop}{j:Nat}(h:H p=some (.lst xs))(e:OH xs.length i=some j)(q:Q (upd H p (.lst (xs.set j u)))):NC (.ref p) (.int i) u H Q:=⟨p,xs,i,j,rfl,rfl,h,e,q⟩
end
def fF(p:Addr)(H:Hp):Hp:=λb=>if b=p then none else H b
theorem fF.at{p b:Addr}{H:Hp}(h:b≠p):fF p H b=H b:=by unfold fF;rw [if_neg h]
theorem fF.self{p:Addr}{H:Hp}:fF p H p=none:=by unfold fF;rw [if_pos rfl]
theorem fF.same{p:Addr}{H:Hp}:bC (fF p H) H:=λb o h=>by
 unfold fF at h;by_cases e:b=p
 ·rw [if_pos e] at h;cases h
 ·rw [if_neg e] at h;exact h
theorem fF.ne{p b:Addr}{H:Hp}{o:HO}(h:fF p H b=some o):b≠p:=λe=>by
 subst e;rw [fF.self] at h;cases h
theorem fF.of{p b:Addr}{H:Hp}{o:HO}(n:b≠p)(h:H b=some o):fF p H b=some o:=by rw [fF.at n];exact h
theorem fF.upd_self{p:Addr}{H:Hp}{o:HO}:fF p (upd H p o)=fF p H:=by
 funext b
 by_cases e:b=p
 ·subst e;rw [fF.self,fF.self]
 ·rw [fF.at e,fF.at e,L2.bT e]
abbrev aU(p:Addr)(H H':Hp):Prop:=bC (fF p H) (fF p H')
theorem bC.but{p:Addr}{H H':Hp}(h:bC H H'):aU p H H':=λb o e=>by
 have n:=fF.ne e;exact fF.of n (h _ _ (fF.same _ _ e))
theorem bC.upd{H:Hp}{q:Addr}{o:HO}(h:H q=none):bC H (upd H q o):=λb u e=>by
 rw [L2.bT (cU e h)];exact e
theorem aU.self{p:Addr}{H:Hp}{o:HO}:aU p H (upd H p o):=by unfold aU;rw [fF.upd_self];exact bC.refl _
theorem aU.free{p q:Addr}{H H':Hp}(e:aU p H H')(hp:∃o,H' p=some o)(h:H' q=none):H q=none:=by
 cases k:H q with
 | none=>rfl
 | some o =>
  by_cases n:q=p
  ·subst n;obtain ⟨o',h'⟩:=hp;rw [h'] at h;cases h
  ·have:=fF.same _ _ (e q o (fF.of n k));rw [this] at h;cases h
section
variable{K:PySem.W.Frag}{H:Hp}{p:Addr}{xs:List V}{i:Int}{v:V}{Q:VK}
theorem stG{u:V}{Q:Hp->Prop}{j:Nat}(h:H p=some (.lst xs))(e:OH xs.length i=some j)(k:∀H',H' p=some (.lst (xs.set j u))->aU p H H'->Q H'):NC (.ref p) (.int i) u H Q :=
 stL h e (k _ bH aU.self)
theorem alT{Q:V->Hp->Prop}(hz:xs.length<=sizeLine)(k:∀q H',H q=none->H' q=some (.tup xs)->bC H H'->Q (.ref q) H'):xs.length<=sizeLine/\∀p,H p=none->Q (.ref p) (upd H p (.tup xs)) :=
 ⟨hz,λq hq=>k q _ hq bH (bC.upd hq)⟩
theorem alL{Q:V->Hp->Prop}(hz:xs.length<=sizeLine)(k:∀q H',H q=none->H' q=some (.lst xs)->bC H H'->Q (.ref q) H'):xs.length<=sizeLine/\∀p,H p=none->Q (.ref p) (upd H p (.lst xs)) :=
 ⟨hz,λq hq=>k q _ hq bH (bC.upd hq)⟩
theorem aU.at{p b:Addr}{H H':Hp}{o:HO}(s:aU p H H')(n:b≠p)(h:H b=some o):H' b=some o:=fF.same _ _ (s _ _ (fF.of n h))
end
theorem pC{n:Nat}(h:n<=64):n<=sizeLine:=aQ h Dd
theorem AV{c A B:Prop}[Decidable c](h1:c->A)(h2:¬c->B):if decide c=true then A else B :=
 aBW (λh=>h1 (of_decide_eq_true h)) (λh=>h2 (λk=>h (bV k)))
theorem aBV{c A B:Prop}[Decidable c](h1:¬c->A)(h2:c->B):if (!decide c)=true then A else B :=
 aBW (λh=>h1 (λk=>by rw [bV k] at h;exact absurd h Dd)) (λh=>h2 (Decidable.of_not_not λk=>h (by rw [cJ k];rfl)))
def qK(c:TT):TT:=λσ H Q=>∃Q':Bool->Hp->Prop,c σ H Q'/\∀b H1,Q' b H1->Q b H1
theorem PT.mono{X:Cx}{e:Expr}{c:TT}(h:PT X e c):PT X e (qK c):=λpins s σ H Q I ⟨Q',h1,h2⟩ =>
 thn (h pins s σ H Q' I h1) λb s' ⟨H',I',q⟩=>⟨H',I',h2 _ _ q⟩
theorem JP{X:Cx}{pos:Pos}{c:Expr}{body:List Stmt}{tc:TT}{tb:TS}(hp:PassesOwn (model X.prog X.w) X.A X.env X.xe)(hc:PT X c tc)(hb:GF X body tb):PS X (.While c body [] pos) (zR (qK tc) tb) :=
 NE hp hc.mono hb
@[irreducible] def xN(K:PySem.W.Frag):List V->Hp->VK->Prop:=λxs H Q=>∃x n,xs=[x]/\aCg K x H n/\Q (.int n) H
@[irreducible] def SL:List V->Hp->VK->Prop:=λxs H Q=>∃i,xs=[.int i]/\Q (.int (i.natAbs:Int)) H
@[irreducible] def SE:List V->Hp->VK->Prop:=λxs H Q=>∃x d T,xs=[x,.ty T]/\cO H d x/\(T = "int" \/ T = "bool" \/ T = "tuple" \/ T = "str" \/ T = "list" \/ T = "dict")/\Q (.bl (isD T d)) H
@[irreducible] def CH:List V->Hp->VK->Prop:=λxs H Q=>∃x d,xs=[x]/\cO H d x/\d.showable=true/\d.hasDict=false/\d.depth<=60/\d.shown.length<=sizeLine/\Q (.str d.shown) H
section
variable{X:Cx}{K:PySem.W.Frag}{H:Hp}{p:Addr}{xs:List V}{Q:VK}
theorem jU:fX X (.builtin "len") (xN X.K):=by unfold xN;exact PN
theorem aAL:fX X (.builtin "abs") SL:=by
 unfold SL;exact λpins s σ H xs us Q I r ⟨i,e,q⟩=>PP pins s σ H xs us Q I r ⟨i,e,by
 have:(if i<0 then -i else i)=(i.natAbs:Int):=by split <;> omega
 rw [this];exact q⟩
theorem PJ:fX X (.builtin "isinstance") SE:=by unfold SE;exact DS
theorem UW(hg:X.A.guards=some [])(hu:X.A.units+64<cLine):fX X (.builtin "repr") CH:=by unfold CH;exact LC hg hu
theorem rlL(h:H p=some (.lst xs))(q:Q (.int xs.length) H):xN K [V.ref p] H Q:=by unfold xN;exact ⟨_,_,rfl,.inl ⟨xs,fS.of h,rfl⟩,q⟩
theorem rlT(h:H p=some (.tup xs))(q:Q (.int xs.length) H):xN K [V.ref p] H Q:=by unfold xN;exact ⟨_,_,rfl,.inr ⟨xs,eZ.of h,rfl⟩,q⟩
theorem raI{i:Int}(q:Q (.int (i.natAbs:Int)) H):SL [V.int i] H Q:=by unfold SL;exact ⟨i,rfl,q⟩
theorem rrI{x:V}{d:PyData}(r:cO H d x)(h1:d.showable=true)(h2:d.hasDict=false)(h3:d.depth<=60)(h4:d.shown.length<=sizeLine)(q:Q (.str d.shown) H):CH [x] H Q:=by unfold CH;exact ⟨x,d,rfl,r,h1,h2,h3,h4,q⟩
theorem riI{x:V}{d:PyData}{T:String}(r:cO H d x)(q:Q (.bl (isD T d)) H)(hT:(T = "int" \/ T = "bool" \/ T = "tuple" \/ T = "str" \/ T = "list" \/ T = "dict"):=by decide):SE [x,.ty T] H Q:=by unfold SE;exact ⟨x,d,T,rfl,r,hT,q⟩
end
theorem uH{c:TT}{tb:TS}{D:tI}{σ:St}{H:Hp}(W:Nat->St->Hp->Prop)(R:St->Hp->Prop)(m:Nat)(h0:W m σ H)
  (hs:∀m σ H,W m σ H->c σ H λb H1=>if b=true then tb { D with nx:=λσ' H'=>∃m',m' < m/\W m' σ' H',ct:=λσ' H'=>∃m',m' < m/\W m' σ' H',bk:=D.nx } σ H1 else R σ H1)
  (hd:∀σ H,R σ H->D.nx σ H):zR (qK c) tb D σ H :=
 ⟨W,⟨m,h0⟩,λm σ H hw=>⟨_,hs m σ H hw,λb H1 q=>by
  by_cases hb:b=true
  ·rw [if_pos hb] at q ⊢;exact ⟨_,λ_ _ h=>h,q⟩
  ·rw [if_neg hb] at q ⊢;exact hd _ _ q⟩⟩
def aBq(t:TS):TS:=λD σ H=>∃R:St->Hp->Prop,(∀σ' H',R σ' H'->D.nx σ' H')/\t { D with nx:=R } σ H
theorem ZH{X:Cx}{st:Stmt}{t:TS}(h:PS X st t):PS X st (aBq t):=λpins s σ H D I ⟨R,hR,q⟩ =>
 thn (h pins s σ H _ I q) λf s' z=>by
  cases f with
  | next=>obtain ⟨σ',H',I',r⟩:=z;exact ⟨σ',H',I',hR _ _ r⟩
  | brk=>exact z
  | cont=>exact z
  | ret u=>exact z
section
variable{es:List Expr}{env:Env}
theorem gH{a b c d}:starEach (.BinOp a b c d::es) env=(false,eval (.BinOp a b c d) env)::starEach es env:=by rw [starEach] <;> (intros;contradiction)
theorem eV{a b c}:starEach (.UnaryOp a b c::es) env=(false,eval (.UnaryOp a b c) env)::starEach es env:=by rw [starEach] <;> (intros;contradiction)
theorem eK{a b c d}:starEach (.ListComp a b c d::es) env=(false,eval (.ListComp a b c d) env)::starEach es env:=by rw [starEach] <;> (intros;contradiction)
theorem eW{a b c d}:starEach (.Compare a b c d::es) env=(false,eval (.Compare a b c d) env)::starEach es env:=by rw [starEach] <;> (intros;contradiction)
theorem gR{a b c d}:starEach (.Call a b c d::es) env=(false,eval (.Call a b c d) env)::starEach es env:=by rw [starEach] <;> (intros;contradiction)
theorem eL{a b c}:starEach (.Constant a b c::es) env=(false,eval (.Constant a b c) env)::starEach es env:=by rw [starEach] <;> (intros;contradiction)
theorem dO{a b c}:starEach (.Subscript a b c::es) env=(false,eval (.Subscript a b c) env)::starEach es env:=by rw [starEach] <;> (intros;contradiction)
theorem gQ{a b}:starEach (.Name a b::es) env=(false,eval (.Name a b) env)::starEach es env:=by rw [starEach] <;> (intros;contradiction)
theorem iJ{a b}:starEach (.List a b::es) env=(false,eval (.List a b) env)::starEach es env:=by rw [starEach] <;> (intros;contradiction)
theorem gG{a b c}:starEach (.Tuple a b c::es) env=(false,eval (.Tuple a b c) env)::starEach es env:=by rw [starEach] <;> (intros;contradiction)
end
section
variable{X:Cx}{k:Nat}{ps:List Str}{sp:Sp}{x:Str}{p pos:Pos}{e:Expr}{es:List Expr}{te:TE}{t:TA}{id T:String}{r:List V->Hp->VK->Prop}
theorem wV{env:Env}:(backTo pos (starEach [] env)).any (·.1)=false:=rfl
theorem rQ{env:Env}(hs:starEach (e::es) env=(false,eval e env)::starEach es env)(h:(backTo pos (starEach es env)).any (·.1)=false):(backTo pos (starEach (e::es) env)).any (·.1)=false:=by
 rw [hs];show (false || (backTo pos (starEach es env)).any (·.1))=false;rw [h];rfl
end
structure fY(X:Cx)(e:Expr)(t:TE):Prop where p:PE X e t
structure IN(X:Cx)(e:Expr)(t:TT):Prop where p:PT X e t
structure PWw(X:Cx)(e:Expr)(t:TT):Prop where p:PW X e t
structure LL(X:Cx)(es:List Expr)(t:TA):Prop where p:PA X es t
structure GE(X:Cx)(st:Stmt)(t:TS):Prop where p:PS X st t
structure wY(X:Cx)(st:List Stmt)(t:TS):Prop where p:GF X st t
structure WY(X:Cx)(e:Expr)(t:TG):Prop where p:PG X e t
structure VH(X:Cx)(es:List Expr)(t:QE):Prop where p:PGs X es t
structure WX(X:Cx)(tg iter:Expr)(t:TI):Prop where p:PI X tg iter t
structure POw(X:Cx)(e:Option Expr)(t:TO):Prop where p:PO X e t
@[irreducible] def GV(xs:List V)(H:Hp)(Q:VK):Prop:=xs.length<=sizeLine/\∀p,H p=none->Q (.ref p) (upd H p (.tup xs))
@[irreducible] def GW(xs:List V)(H:Hp)(Q:VK):Prop:=xs.length<=sizeLine/\∀p,H p=none->Q (.ref p) (upd H p (.lst xs))
theorem pJ{xs:List V}{H:Hp}{Q:VK}(hz:xs.length<=64)(k:∀q H',H q=none->H' q=some (.tup xs)->bC H H'->Q (.ref q) H'):GV xs H Q:=by unfold GV;exact alT (pC hz) k
theorem xP{xs:List V}{H:Hp}{Q:VK}(hz:xs.length<=64)(k:∀q H',H q=none->H' q=some (.lst xs)->bC H H'->Q (.ref q) H'):GW xs H Q:=by unfold GW;exact alL (pC hz) k
def tTu(t:TA):TE:=λσ H Q=>t σ H λxs H1=>GV xs H1 Q
def tLs(t:TA):TE:=λσ H Q=>t σ H λxs H1=>GW xs H1 Q
section
variable{X:Cx}{a b c e o tg:Expr}{es rest:List Expr}{ta tb tc te to:TE}{tA tB':TT}{t:TA}{pos p p2:Pos}{st:Stmt}{sts body orelse:List Stmt}{ts us:TS}{x:Str}{r r':R2}{id T:String}{rl:List V->Hp->VK->Prop}{k i j:Nat}{ps:List Str}{sp:Sp}{n:Nat}
theorem aI(i:Nat){x:Str}{pos:Pos}(hN:X.N[i]?=some x:=by rfl)(hv:Vis X.env.scope x:=by first | exact Or.inl rfl | exact Or.inr (Or.inl rfl) | exact Or.inr (Or.inr rfl))(hd:(x == ("__debug__" : Str))=false:=by decide)
  (hcd:(x == ("__classdict__" : Str))=false:=by decide):fY X (.Name x pos) (XI i):=⟨pv i hN hv hd hcd⟩
theorem aL{i j pos}:fY X (.Constant (.int i) j pos) (tC (.int i)):=⟨pe_int⟩
theorem pM{b j pos}:fY X (.Constant (.bool b) j pos) (tC (.bl b)):=⟨pe_bl⟩
theorem zN{j pos}:fY X (.Constant .none j pos) (tC .non):=⟨pe_non⟩
theorem lG{x j pos}:fY X (.Constant (.str x) j pos) (tC (.str x)):=⟨pe_str⟩
theorem oY{v:V}{u:Value}(hg:Gl X x)(hm:X.mg x=some u)(r:dH v u)(hd:(x == ("__debug__" : Str))=false:=by decide):fY X (.Name x pos) (tC v):=⟨SY hg hm r hd⟩
theorem qG{v:V}{u:Value}(hg:Gl X x)(hm:X.mg x=none)(hv:bootBuiltins x=some u)(r:dH v u)(hn:x ≠ "__name__" := by decide)(hd:(x == ("__debug__" : Str))=false:=by decide):fY X (.Name x pos) (tC v):=⟨TJ hg hm hv r hn hd⟩
theorem cN{op:Operator}(ho:mN X (binaryOp op) r)(ha:fY X a ta)(hb:fY X b tb):fY X (.BinOp a op b pos) (RD r ta tb):=⟨aBL ho ha.p hb.p⟩
theorem LU{op:UnaryOp}{r:V->Hp->VK->Prop}(ho:UnR X (unaryOp op) r)(ha:fY X a ta):fY X (.UnaryOp op a pos) (tUn r ta):=⟨aBK ho ha.p⟩
theorem jR{op:CmpOp}(ho:mN X (compareOp op) r)(ha:fY X a ta)(hb:fY X b tb)(hm:behindInMarks op b=false):fY X (.Compare a [op] [b] pos) (RD r ta tb):=⟨TF ho ha.p hb.p hm⟩
theorem eD{op:CmpOp}(ho:mN X (compareOp op) r)(ha:fY X a ta)(hb:fY X b tb)(hm:behindInMarks op b=false):IN X (.Compare a [op] [b] pos) (VO (RD r ta tb)):=⟨SO ho ha.p hb.p hm⟩
theorem LY{op op':CmpOp}(ho:mN X (compareOp op) r)(ho':mN X (compareOp op') r')(ha:fY X a ta)(hb:fY X b tb)(hc:fY X c tc)
  (hm:lastMarks [op,op'] [b,c]=false:=by with_unfolding_all rfl):fY X (.Compare a [op,op'] [b,c] pos) (MJ r r' ta tb tc):=⟨NO ho ho' ha.p hb.p hc.p hm⟩
theorem lF(h:fY X e te)(he:∀whole,isTrue e X.env whole=(do let v <-whole;standAt e.pos;holding [v] (truthy v)):=by intro _;rfl):IN X e (tB te):=⟨ZA h.p he⟩
theorem GK(ha:IN X a tA):PWw X (.BoolOp .And [a] pos) tA:=⟨SM ha.p⟩
theorem nI(ha:IN X a tA):PWw X (.BoolOp .Or [a] pos) tA:=⟨YY ha.p⟩
theorem LT(ha:IN X a tA)(hb:PWw X (.BoolOp .And (b::rest) pos) tB'):PWw X (.BoolOp .And (a::b::rest) pos) (aBr tA tB'):=⟨YZ ha.p hb.p⟩
theorem tJ(ha:IN X a tA)(hb:PWw X (.BoolOp .Or (b::rest) pos) tB'):PWw X (.BoolOp .Or (a::b::rest) pos) (tOr tA tB'):=⟨aBI ha.p hb.p⟩
theorem xD(h:PWw X e tA):IN X e tA:=⟨h.p.pt⟩
theorem rY(ha:IN X a tA):IN X (.UnaryOp .Not a pos) (aBk tA):=⟨ZB ha.p⟩
theorem mO{op}(h:fY X a ta):fY X (.BoolOp op [a] pos) ta:=⟨ZR h.p⟩
theorem lH(ha:fY X a ta)(hb:fY X (.BoolOp .And (b::rest) pos) tb):fY X (.BoolOp .And (a::b::rest) pos) (VY ta tb):=⟨ZU ha.p hb.p⟩
theorem XF(ha:fY X a ta):fY X (.UnaryOp .Not a pos) (VQ ta):=⟨ZS ha.p⟩
theorem aG:LL X [] aBl:=⟨pa_nil⟩
theorem aM(ha:fY X e te)(hr:LL X es t)(hs:starEach (e::es) X.env=(false,eval e X.env)::starEach es X.env:=by first | exact gQ | exact eL | exact se_BoolOp | exact gH | exact eV | exact se_IfExp | exact se_Dict | exact eK | exact eW | exact gR | exact se_Attribute | exact dO | exact iJ | exact gG | exact se_JoinedStr | exact se_GeneratorExp):LL X (e::es) (VW te t):=⟨TK ha.p hr.p hs⟩
theorem dS{x1}(h:LL X es t):fY X (.Tuple es x1 pos) (tTu t):=⟨by unfold tTu GV;exact ZQ h.p⟩
theorem fQ(h:LL X es t):fY X (.List es pos) (tLs t):=⟨by unfold tLs GW;exact ZT h.p⟩
theorem lQ:fY X (.Dict [] [] pos) ME:=⟨pe_dnewT⟩
theorem cH(hr:QL X r)(ha:fY X a ta)(hb:fY X b tb)(hs:IM b):fY X (.Subscript a b pos) (RD r ta tb):=⟨aBM hr ha.p hb.p hs⟩
theorem oW:POw X none GO:=⟨po_none⟩
theorem oV(h:fY X e te):POw X (some e) (VP te):=⟨ST h.p⟩
theorem lP{lo hi:Option Expr}{tl th:TO}{r:V->Option Int->Option Int->Hp->VK->Prop}(hr:SlR X r)(he:fY X e te)(hl:POw X lo tl)(hu:POw X hi th):fY X (.Subscript e (.Slice lo hi none p2) pos) (tSl r te tl th):=⟨NJ hr he.p hl.p hu.p⟩
theorem bR(F:gK dQ X.prog X.w X.K X.mg X.base k x ps sp)(hr:iD k X.A)(ha:LL X (e::es) t)(hg:Gl X x:=by rfl)
  (hdb:(x == ("__debug__" : Str))=false:=by decide) (he:starEach (e::es) X.env=(false,eval e X.env)::starEach es X.env:=by first | exact gQ | exact eL | exact se_BoolOp | exact gH | exact eV | exact se_IfExp | exact se_Dict | exact eK | exact eW | exact gR | exact se_Attribute | exact dO | exact iJ | exact gG | exact se_JoinedStr | exact se_GeneratorExp)
  (hpl:(backTo pos (starEach es X.env)).any (·.1)=false:=by repeat (first | exact wV | refine rQ (by first | exact gQ | exact eL | exact se_BoolOp | exact gH | exact eV | exact se_IfExp | exact se_Dict | exact eK | exact eW | exact gR | exact se_Attribute | exact dO | exact iJ | exact gG | exact se_JoinedStr | exact se_GeneratorExp) ?_)) :
  fY X (.Call (.Name x p) (e::es) [] pos) (MK sp [] E0 t):=⟨aBN F hr ha.p hg hdb he hpl⟩
theorem eR(hc:fX X (.builtin id) rl)(hg:Gl X x)(hm:X.mg x=none)(hv:bootBuiltins x=some (.builtin id))(ha:LL X (e::es) t)(hn:x ≠ "__name__" := by decide)(hdb:(x == ("__debug__" : Str))=false:=by decide)
  (he:starEach (e::es) X.env=(false,eval e X.env)::starEach es X.env:=by first | exact gQ | exact eL | exact se_BoolOp | exact gH | exact eV | exact se_IfExp | exact se_Dict | exact eK | exact eW | exact gR | exact se_Attribute | exact dO | exact iJ | exact gG | exact se_JoinedStr | exact se_GeneratorExp) (hpl:(backTo pos (starEach es X.env)).any (·.1)=false:=by repeat (first | exact wV | refine rQ (by first | exact gQ | exact eL | exact se_BoolOp | exact gH | exact eV | exact se_IfExp | exact se_Dict | exact eK | exact eW | exact gR | exact se_Attribute | exact dO | exact iJ | exact gG | exact se_JoinedStr | exact se_GeneratorExp) ?_)):fY X (.Call (.Name x p) (e::es) [] pos) (tCB rl t) :=
 ⟨NP hc hg hm hv ha.p hn hdb he hpl⟩
theorem jC(hc:fX X (.type T) rl)(hg:Gl X x)(hm:X.mg x=none)(hv:bootBuiltins x=some (.type T))(ha:LL X (e::es) t)(hn:x ≠ "__name__" := by decide)(hdb:(x == ("__debug__" : Str))=false:=by decide)
  (he:starEach (e::es) X.env=(false,eval e X.env)::starEach es X.env:=by first | exact gQ | exact eL | exact se_BoolOp | exact gH | exact eV | exact se_IfExp | exact se_Dict | exact eK | exact eW | exact gR | exact se_Attribute | exact dO | exact iJ | exact gG | exact se_JoinedStr | exact se_GeneratorExp) (hpl:(backTo pos (starEach es X.env)).any (·.1)=false:=by repeat (first | exact wV | refine rQ (by first | exact gQ | exact eL | exact se_BoolOp | exact gH | exact eV | exact se_IfExp | exact se_Dict | exact eK | exact eW | exact gR | exact se_Attribute | exact dO | exact iJ | exact gG | exact se_JoinedStr | exact se_GeneratorExp) ?_)):fY X (.Call (.Name x p) (e::es) [] pos) (tCB rl t) :=
 ⟨JT hc hg hm hv ha.p hn hdb he hpl⟩
theorem BP{name:Str}{apos cpos:Pos}{r:V->List V->Hp->VK->Prop}(pa:PlainAttrs T)(slot:Slot T name id)(hty:typeOf (.builtin id)=pure (.type "method_descriptor"))(hm:MtR X id r)(ho:fY X o to)(ha:LL X (e::es) t)
  (hbase:attributeBase o name X.env (eval o X.env)=eval o X.env:=by rfl)
  (hfew:((backTo cpos (starEach (e::es) X.env)).all (λx=>!x.1)&&(backToKw cpos (keywordEach [] X.env)).all (λx=>x.1.isSome)
   && decide ((e::es).length+([]:List Keyword).length+(if ([]:List Keyword).isEmpty then 0 else 1)<30))=true:=by rfl)
  (hline:(apos.endLine == cpos.line)=true:=by rfl) (hs:starEach (e::es) X.env=(false,eval e X.env)::starEach es X.env:=by first | exact gQ | exact eL | exact se_BoolOp | exact gH | exact eV | exact se_IfExp | exact se_Dict | exact eK | exact eW | exact gR | exact se_Attribute | exact dO | exact iJ | exact gG | exact se_JoinedStr | exact se_GeneratorExp) (hplain:(backTo cpos (starEach es X.env)).any (·.1)=false:=by repeat (first | exact wV | refine rQ (by first | exact gQ | exact eL | exact se_BoolOp | exact gH | exact eV | exact se_IfExp | exact se_Dict | exact eK | exact eW | exact gR | exact se_Attribute | exact dO | exact iJ | exact gG | exact se_JoinedStr | exact se_GeneratorExp) ?_)) :
  fY X (.Call (.Attribute o name apos) (e::es) [] cpos) (tBM X.K T r to t):=⟨WE pa slot hty hm ho.p ha.p hbase hfew hline hs hplain⟩
theorem dY:wY X [] VR:=⟨pss_nil⟩
theorem aS(h1:GE X st ts)(h2:wY X sts us):wY X (st::sts) (aBh ts us):=⟨ND h1.p h2.p⟩
theorem bE(h1:GE X st ts):wY X [st] ts:=⟨SQ h1.p⟩
theorem qF(he:fY X e te)(hs:swapsWith e none pos.line X.env=pure false:=by rfl):GE X (.Expr e pos) (VS te):=⟨SR he.p hs⟩
theorem cF(he:fY X e te):GE X (.Return (some e) pos) (aBi te):=⟨ZE he.p⟩
theorem gE{c:Expr}{a b:List Stmt}(hc:IN X c tA)(ha:wY X a ts)(hb:wY X b us):GE X (.If c a b pos) (aBm tA ts us):=⟨aBJ hc.p ha.p hb.p⟩
theorem zK(h:GE X st ts):GE X st (aBq ts):=⟨ZH h.p⟩
theorem dF{i:Nat}{x:Str}(hN:X.N.Nodup)(hi:X.N[i]?=some x)(hx:Loc X.env.scope x)(hf:X.fn x=true\/X.env.scope.names.lookup x=some .local:=by first | exact .inl rfl | exact .inr rfl | assumption):WY X (.Name x pos) (rH i):=⟨SX hN hi hx hf⟩
theorem lA:VH X [] aAy:=⟨pgs_nil⟩
theorem eF{t:TG}{u:QE}(h1:WY X e t)(h2:VH X es u)
  (hs:(assignEach (e::es) X.env).map (·.2)=assign e X.env::(assignEach es X.env).map (·.2):=by rfl):VH X (e::es) (OO t u):=⟨NI h1.p h2.p hs⟩
theorem nJ{k:Nat}{t:QE}{n:Nat}(hc:X.calm=true)(h:VH X es t)
  (hn:(assignEach es X.env).length=n:=by rfl) (hst:(assignEach es X.env).findIdx? (·.1)=none:=by rfl):WY X (.Tuple es k pos) (aAw X.K n t):=⟨ZN hc h.p hn hst⟩
theorem XE{i:Expr}{ti:TE}{t:VF}(ho:fY X o to)(hi:fY X i ti)(hs:aAX X t)
  (ha:∀v,assign (.Subscript o i pos) X.env v=(do
   let ov <-holding [v] (eval o X.env)
   let iv <-holding [v,ov] (eval i X.env)
   standAt pos
   holding [v,ov,iv] (setItem ov iv v)
   release [v,ov,iv] []):=by intro _;rfl):WY X (.Subscript o i pos) (aB0 to ti t):=⟨ZO ho.p hi.p hs ha⟩
theorem zM{g:TG}(he:fY X e te)(hg:WY X tg g)(hs:swapsWithSole [tg] e pos.line X.env=pure false:=by rfl)(hw:swappedStores [tg] e X.env=pure none:=by rfl)(h1:(assignEach [tg] X.env).map (·.2)=[assign tg X.env]:=by rfl):GE X (.Assign [tg] e pos) (IW te g):=⟨ZI he.p hg.p hs hw h1⟩
theorem bS{i:Nat}{pos':Pos}(hN:X.N.Nodup)(hi:X.N[i]?=some x)(hx:Loc X.env.scope x)(he:fY X e te)(hs:swapsWith e (some (.Name x pos')) pos.line X.env=pure false:=by rfl)(hf:X.fn x=true\/X.env.scope.names.lookup x=some .local:=by first | exact .inl rfl | exact .inr rfl | assumption) :
  GE X (.Assign [.Name x pos'] e pos) (IW te (rH i)):=⟨ZC hN hi hx he.p hs hf⟩
theorem XC{i j:Nat}{x y:Str}{ta:TA}{px py pt:Pos}{kt k2 pt2}(hc:X.calm=true)(hN:X.N.Nodup)(hi:X.N[i]?=some x)(hj:X.N[j]?=some y)(hij:i≠j)
  (hx:X.env.scope.names.lookup x=some .local) (hy:X.env.scope.names.lookup y=some .local) (ha:LL X [a,b] ta)
  (hw:swappedStores [.Tuple [.Name x px,.Name y py] kt pt] (.Tuple [a,b] k2 pt2) X.env=pure (some [x,y]))
  (hs:swapsWithSole [.Tuple [.Name x px,.Name y py] kt pt] (.Tuple [a,b] k2 pt2) pos.line X.env=pure false:=by rfl) :
  GE X (.Assign [.Tuple [.Name x px,.Name y py] kt pt] (.Tuple [a,b] k2 pt2) pos) (aBj i j ta):=⟨ZF hc hN hi hj hij hx hy ha.p hw hs⟩
theorem qE{c:Expr}{tc:TT}{tb:TS}(hp:PassesOwn (model X.prog X.w) X.A X.env X.xe)(hc:IN X c tc)(hb:wY X body tb):GE X (.While c body [] pos) (zR (qK tc) tb):=⟨JP hp hc.p hb.p⟩
theorem gZ{l:Expr}{tl:TE}(hl:fY X l tl):WX X tg l (WL X.K tl):=⟨SV hl.p⟩
theorem jQ{l:Expr}{tl:TE}(hl:fY X l tl):WX X tg l (aBY X.K tl):=⟨ZL hl.p⟩
theorem fT{a:Expr}{ta:TA}{p pos:Pos}(hg:Gl X "range")(hm:X.mg "range" = none)(ha:LL X [a] ta)(hs:starEach [a] X.env=[(false,eval a X.env)]:=by first | exact gQ | exact eL | exact se_BoolOp | exact gH | exact eV | exact se_IfExp | exact se_Dict | exact eK | exact eW | exact gR | exact se_Attribute | exact dO | exact iJ | exact gG | exact se_JoinedStr | exact se_GeneratorExp):WX X tg (.Call (.Name "range" p) [a] [] pos) (WK ta):=⟨JS hg hm ha.p hs⟩
theorem gS{iter:Expr}{wi:TI}{g:TG}{tb:TS}{pos:Pos}(hp:PassesOwn (model X.prog X.w) X.A X.env X.xe)(hc:X.calm=true)(hi:WX X tg iter wi)(hg:WY X tg g)(hb:wY X body tb)
  (hs:∀x,foldedSetIterable iter X.env x=pure x:=by intro _;rfl):GE X (.For tg iter body [] pos) (aBn wi g tb):=⟨ZG hp hc hi.p hg.p hb.p hs⟩
end
theorem jA.okw{P:Program}{w:World}{K:PySem.W.Frag}{mg:Str->Option Value}{base:Heap}{x qual:Str}{st:Stmt}{f:Addr}{fd:FuncData}{N ps:List Str}{k:Nat}{sp:Sp}(F:jA K x qual st f fd)(S:bZ N ps (bA st))(len:∀vs H Q E,sp vs H Q E->vs.length=ps.length)
  (hbody:∀(cdv:Value) (A:Around) (outer:List Env) (s:Shared) (H:Hp) (vs:List V) (Q:VK) (E:XK),iD k (A.deeper (envOfC qual (bA st) s.heap.objs.size f cdv))->sp vs H Q E ->
   ∃t,wY (uF dQ P w K mg base N qual (bA st) f cdv A outer s H E).nox (iX st) t/\t { nx:=λ_ H'=>Q .non H',rt:=Q } (start N vs) H):dZ P w K mg base dQ (k+1) f fd ps sp :=
 F.ok S len λcdv A outer s H vs Q E hr h=>by
  obtain ⟨t,h1,h2⟩:=hbody cdv A outer s H vs Q E hr h;exact ⟨t,h1.p,h2⟩
theorem jA.oky{P:Program}{w:World}{K:PySem.W.Frag}{mg:Str->Option Value}{base:Heap}{x qual:Str}{st:Stmt}{f:Addr}{fd:FuncData}{N ps:List Str}{k:Nat}{sp:Sp}(F:jA K x qual st f fd)(S:bZ N ps (bA st))
  (h:∀(vs:List V) (H:Hp) (Q:VK) (E:XK),sp vs H Q E->vs.length=ps.length/\∀(cdv:Value) (A:Around) (outer:List Env) (s:Shared),iD k (A.deeper (envOfC qual (bA st) s.heap.objs.size f cdv)) ->
   ∃t,wY (uF dQ P w K mg base N qual (bA st) f cdv A outer s H E).nox (iX st) t/\t { nx:=λ_ H'=>Q .non H',rt:=Q } (start N vs) H):dZ P w K mg base dQ (k+1) f fd ps sp :=
 F.okw S (λvs H Q E q=>(h vs H Q E q).1) λcdv A outer s H vs Q E hr q=>(h vs H Q E q).2 cdv A outer s hr
theorem CW(a b:Int):Int.gcd b (a % b)=Int.gcd a b:=by
 have h:=Int.gcd_add_mul_right_right b (a % b) (a/b);rw [show a % b+a/b*b=a from by have:=Int.emod_add_mul_ediv a b;rw [Int.mul_comm];exact this] at h;rw [<-h,Int.gcd_comm]
theorem HV{a:Int}(h:0<a):(Int.gcd a 0:Int)=a:=by rw [Int.gcd_zero_right];omega
section
variable{H:Hp}{x:V}{d:PyData}{Q:VK}
end
theorem bD.len{H:Hp}:∀{ds:List PyData}{vs:List V},bD H ds vs->vs.length=ds.length
 | [],_,h=>by cases (show _=[] from h);rfl
 | d::ds,_,h=>by
  unfold bD at h;obtain ⟨x,xs,rfl,_,h2⟩:=h;simp [bD.len h2]
section
variable{p:Addr}{σ:St}{t:TE}{ta:TA}{d:PyData}{ds:List PyData}
end
theorem BF{α:Type}{xs:List α}{x:Int}(h0:0<=x)(h1:x<xs.length):∃v,EB xs x=some v/\v∈xs/\xs[x.toNat]?=some v:=by
 have h:x.toNat<xs.length:=Oo;have e:=aC h;have:=iB e;rw [Int.toNat_of_nonneg h0] at this;exact ⟨_,this,List.getElem_mem h,e⟩
theorem bD.append{H:Hp}{es:List PyData}{ws:List V}(h':bD H es ws):∀{ds:List PyData}{vs:List V},bD H ds vs->bD H (ds++es) (vs++ws)
 | [],_,h=>by cases (show _=[] from h);exact h'
 | d::ds,_,h=>by
  unfold bD at h;obtain ⟨x,xs,rfl,h1,h2⟩:=h;exact bD.cons h1 (bD.append h' h2)
end L2
namespace L2
end L2
namespace L2
open PySem PySem.Spec PyProof.Rows
theorem bC.thru{l:Addr}{H0 H1 H2:Hp}(hl:H0 l=none)(s:bC H0 H1)(b:aU l H1 H2):bC H0 H2:=λc o e=>by
 have n:c≠l:=cU e hl;exact b.at n (s _ _ e)
theorem aDv{H:Hp}{l b:Addr}{xs zs:List V}{Q:VK}(h1:H l=some (.lst xs))(h2:H b=some (.lst zs))(hz:xs.length+zs.length<=1000)(k:∀q H',H q=none->H' q=some (.lst (xs++zs))->bC H H'->Q (.ref q) H'):aBH (.ref l) (.ref b) H Q :=
 ⟨l,b,xs,zs,rfl,rfl,h1,h2,Nat.le_of_lt (sD hz),λq hq=>k q _ hq bH (bC.upd hq)⟩
@[irreducible] def SJ:V->List V->Hp->VK->Prop:=HC
theorem NU{X:Cx}:MtR X "list.append" SJ:=by unfold SJ;exact sL
theorem aB8{H:Hp}{l:Addr}{xs:List V}{y:V}{Q:VK}(h:H l=some (.lst xs))(hz:xs.length<=1000)(k:∀H',H' l=some (.lst (xs++[y]))->aU l H H'->Q .non H'):SJ (.ref l) [y] H Q:=by
 unfold SJ;exact ⟨l,xs,y,rfl,rfl,h,sD hz,k _ bH aU.self⟩
theorem tyL{K:PySem.W.Frag}{H:Hp}{l:Addr}{xs:List V}(h:H l=some (.lst xs)):tyV K "list" (.ref l) H:=.inl ⟨rfl,xs,fS.of h⟩
def mH(env:Env):List (Str × NameKind)->List (Str × Addr)->List (Str × Addr)
 | [],cs=>cs
 | (n,k)::r,cs=>if k == .free then mH env r ((n,(env.cells.lookup n).getD 0)::cs) else mH env r cs
theorem IG(env:Env):∀(l:List (Str × NameKind)) (cs:List (Str × Addr)),(∀y∈l,y.2=.free->∃c,env.cells.lookup y.1=some c) ->
  (forIn l cs λ(x:Str × NameKind) r=>if x.2 == .free then (do let c <-cellOf env x.1;pure (ForInStep.yield ((x.1,c)::r)):Sem _) else pure (ForInStep.yield r))=pure (mH env l cs)
 | [],cs,_=>rfl
 | (n,k)::r,cs,h=>by
  rw [List.forIn_cons];have ih:=λcs=>IG env r cs λy hy=>h y (aF _ hy);by_cases hk:(k == NameKind.free)=true
  ·obtain ⟨c,hc⟩:=h (n,k) aH (by simpa using hk);dsimp only at hc;simp only [hk,if_true,mH,hc,Option.getD_some,cellOf,pure_bind];exact ih _
  ·simp only [hk,mH,pure_bind];exact ih _
theorem lK{env:Env}{scope:Scope}(h:∀y∈scope.names,y.2=.free->∃c,env.cells.lookup y.1=some c):closureFor scope env=pure (mH env scope.names []):=by
 have e:=IG env scope.names [] h;unfold closureFor;simp only [bind_pure];exact e
theorem sV{env:Env}:∀(l:List (Str × NameKind)) (cs:List (Str × Addr)),(∀y∈l,y.2=.free->∃c,env.cells.lookup y.1=some c)->∀p∈mH env l cs,p∈cs\/env.cells.lookup p.1=some p.2
 | [],cs,_,p,hp=>.inl hp
 | (n,k)::r,cs,h,p,hp=>by
  have h':∀y∈r,y.2=.free->∃c,env.cells.lookup y.1=some c:=λy hy=>h y (aF _ hy);unfold mH at hp;by_cases hk:(k == NameKind.free)=true
  ·rw [if_pos hk] at hp;obtain ⟨c,hc⟩:=h (n,k) aH (by simpa using hk);rcases sV r _ h' p hp with hm | hm
   ·rcases aT.mp hm with rfl | hm
    ·exact .inr (by dsimp only at hc ⊢;rw [hc];rfl)
    ·exact .inl hm
   ·exact .inr hm
  ·rw [if_neg hk] at hp;exact sV r cs h' p hp
theorem sX{env:Env}:∀(l:List (Str × NameKind)) (cs:List (Str × Addr)),∀p∈cs,p∈mH env l cs
 | [],_,_,hp=>hp
 | (n,k)::r,cs,p,hp=>by
  unfold mH;by_cases hk:(k == NameKind.free)=true
  ·rw [if_pos hk];exact sX r _ p (aF _ hp)
  ·rw [if_neg hk];exact sX r _ p hp
theorem sW{env:Env}:∀(l:List (Str × NameKind)) (cs:List (Str × Addr)) (y:Str),(y,NameKind.free)∈l->∃a,(y,a)∈mH env l cs
 | (n,k)::r,cs,y,hy=>by
  unfold mH;rcases aT.mp hy with e | hm
  ·cases e;rw [if_pos (by rfl)];exact ⟨_,sX r _ _ aH⟩
  ·by_cases hk:(k == NameKind.free)=true
   ·rw [if_pos hk];exact sW r _ y hm
   ·rw [if_neg hk];exact sW r _ y hm
theorem mT{α β:Type}[BEq α][LawfulBEq α]{x:α}{c:β}:∀{l:List (α × β)},l.lookup x=some c->(x,c)∈l
 | [],h=>by cases h
 | (a,b)::r,h=>by
  rw [List.lookup_cons] at h;by_cases e:(x == a)=true
  ·rw [e] at h;have:x=a:=by simpa using e
   subst this;cases h;exact aH
  ·have e':(x == a)=false:=by simpa using e
   rw [e'] at h;exact aF _ (mT h)
theorem mQ{α β:Type}[BEq α][LawfulBEq α]{x:α}{c:β}:∀{l:List (α × β)},(x,c)∈l->∃c',l.lookup x=some c'
 | (a,b)::r,h=>by
  rw [List.lookup_cons];by_cases e:(x == a)=true
  ·rw [e];exact ⟨_,rfl⟩
  ·have e':(x == a)=false:=by simpa using e
   rw [e'];rcases aT.mp h with q | q
   ·cases q;simp at e
   ·exact mQ q
def FY(X:Cx)(scope:Scope):List (Str × Addr):=mH X.env scope.names []
theorem gY{X:Cx}{scope:Scope}(h:∀y∈scope.names,y.2=.free->∃c,X.env.cells.lookup y.1=some c){x:Str}{c:Addr}(e:(FY X scope).lookup x=some c):X.env.cells.lookup x=some c:=by
 rcases sV scope.names [] h _ (mT e) with hm | hm
 ·cases hm
 ·exact hm
theorem mI{X:Cx}{scope:Scope}(h:∀y∈scope.names,y.2=.free->∃c,X.env.cells.lookup y.1=some c){x:Str}(hx:(x,NameKind.free)∈scope.names){c:Addr}(e:X.env.cells.lookup x=some c):(FY X scope).lookup x=some c:=by
 obtain ⟨a,ha⟩:=sW (env:=X.env) scope.names [] x hx;obtain ⟨c',hc'⟩:=mQ ha;have:=gY h hc';rw [e] at this;cases this;exact hc'
def lO(X:Cx)(scope:Scope)(C:Addr)(fp:List Addr)(s₀:Shared)(H₀:Hp)(N':List Str):Cx where
 prog:=X.prog
 w:=X.w
 K:=X.K
 mg:=X.mg
 base:=X.base
 A:=X.A
 N:=N'
 s₀:=s₀
 H₀:=H₀
 env:=compEnvC scope (FY X scope) C X.env
 outer:=X.stack
 stack:=X.stack
 ex:=fp
 fn:=λ_=>false
 calm:=true
 pn:=[]
 xe:=λ_ _=>False
def slots(σ:St)(js:List Nat):St:=js.map λj=>(σ[j]?).getD none
def QJ(X:Cx)(ifs:List Expr)(t:TT):Prop :=
 ∀(pins:List (Addr × Obj)) (s:Shared) (σ:St) (H:Hp) (Q:Bool->Hp->Prop),cE X pins σ H s->t σ H Q ->
  wpAny (model X.prog X.w) X.A (forIn ifs true λc r=>if r=true then do let ok <-isTrue c X.env (eval c X.env);pure (ForInStep.yield ok) else pure (ForInStep.yield r)) (TP X pins σ Q) X.xe s
def xH:TT:=λ_ H Q=>Q true H
theorem pts_nil{X:Cx}:QJ X [] xH:=λpins s σ H Q I h=>wpAny_tests_nil ⟨H,I,h⟩
theorem SN{X:Cx}{c:Expr}{t:TT}(h:PT X c t):QJ X [c] t:=λpins s σ H Q I q=>wpAny_tests_one (h pins s σ H Q I q)
def VX(wi:TI)(js:List Nat)(tc:TT)(te:TE):TE:=λσ H Q=>wi σ H λJ H1=>∀D,H1 D=none->∃W:Nat->Nat->List V->Hp->Prop,(∃m,W 0 m [] (upd H1 D (.lst []))) /\
 ∀i m ys H2,W i m ys H2->H2 D=some (.lst ys)/\((J.stop i H2/\Q (.ref D) H2)\/(J.go i H2/\ys.length<sizeLine/\∀x H3,J.yld i H2 x H3 ->
  tc (some x::slots σ js) H3 λb H4=>if b=true then te (some x::slots σ js) H4 λy H5=>H5 D=some (.lst ys)/\∃m',m' < m/\W (i+1) m' (ys++[y]) (upd H5 D (.lst (ys++[y])))
   else H4 D=some (.lst ys)/\∃m',m' < m/\W (i+1) m' ys H4))
structure eA(X:Cx)(scope:Scope)(x:Str)(N':List Str)(js:List Nat):Prop where
 calm:X.calm=true
 free:∀y∈scope.names,y.2=.free->X.env.kindOf y.1=some .cell
 cell:∀y∈scope.names,y.2 ≠ .cell
 kind:scope.kind=.function
 names:∀y∈scope.names,y.2=.local->scope.names.lookup y.1=some .local
 own:scope.names.lookup x=some .local
 nofl:∀y,(y,NameKind.free)∈scope.names->scope.names.lookup y=some .local->False
 len:N'.length=js.length+1
 zero:N'[0]?=some x
 nd:N'.Nodup
 slot:∀(i:Nat) (j:Nat),js[i]?=some j->∃y,N'[i+1]?=some y/\X.N[j]?=some y/\(y,NameKind.free)∈scope.names
section
variable{X:Cx}{pins:List (Addr × Obj)}{σ:St}{H:Hp}{s:Shared}{scope:Scope}{x:Str}{N':List Str}{js:List Nat}{fp:List Addr}
theorem eA.cells(S:eA X scope x N' js)(ok:X.Ok):∀y∈scope.names,y.2=.free->∃c,X.env.cells.lookup y.1=some c:=λy hy hf=>ok.has _ (.inl (S.free y hy hf))
theorem iI{env:Env}:∀{names:List (Str × NameKind)}{y:Str}{k:NameKind},(names.map λ(n,k)=>if (k == NameKind.free&&env.scope.kind == .function&&env.kindOf n == some .cell) then (n,NameKind.cell) else (n,k)).lookup y=some k ->
  (k=.cell\/k=.free)->(∀z∈names,z.2 ≠ .cell)->(y,NameKind.free)∈names
 | [],_,_,h,_,_=>by cases h
 | (n,q)::r,y,k,h,hk,hc=>by
  rw [aO,List.lookup_cons] at h;have ih:=λh=>@iI env r y k h hk λz hz=>hc z (aF _ hz);by_cases hq:(q == NameKind.free&&env.scope.kind == .function&&env.kindOf n == some .cell)=true
  ·dsimp only at h;rw [if_pos hq] at h;have qf:q=.free:=by
    rw [cY,cY] at hq;simpa using hq.1.1
   subst qf;by_cases e:(y == n)=true
   ·have:y=n:=by simpa using e
    subst this;exact aH
   ·have e':(y == n)=false:=by simpa using e
    dsimp only at h;rw [e'] at h;exact aF _ (ih h)
  ·dsimp only at h;rw [if_neg hq] at h;by_cases e:(y == n)=true
   ·have:y=n:=by simpa using e
    subst this;dsimp only at h;rw [e] at h;have hkq:k=q:=by injection h with h;exact h.symm
    subst hkq;rcases hk with rfl | rfl
    ·exact absurd rfl (hc _ aH)
    ·exact aH
   ·have e':(y == n)=false:=by simpa using e
    dsimp only at h;rw [e'] at h;exact aF _ (ih h)
theorem aAJ(S:eA X scope x N' js)(I:cE X pins σ H s)(hf:∀b∈fp,jP X pins H b)(hb:∀b∈fp,b<s.heap.objs.size):(lO X scope s.heap.objs.size fp s H N').Ok where
 mod:=I.ok.mod
 kind:=S.kind
 glob:=I.ok.glob
 blt:=I.ok.blt
 above:=aJ _
 inj:=λy z c h1 h2=>I.ok.inj y z c (gY (S.cells I.ok) h1) (gY (S.cells I.ok) h2)
 has:=λy hy=>by
  have hm:(y,NameKind.free)∈scope.names:=by
   rcases hy with hy | hy
   ·exact iI (env:=X.env) hy (.inl rfl) S.cell
   ·exact iI (env:=X.env) hy (.inr rfl) S.cell
  obtain ⟨c,hc⟩:=S.cells I.ok _ hm rfl;exact ⟨c,mI (S.cells I.ok) hm hc⟩
 cab:=λ_ _ h=>by cases h
 hd:=λ_=>I.ok.hd S.calm
 frames:=I.ok.frames
 stk:=.inl rfl
 exf:=λb hb'=>⟨λe=>by have:=hb b hb';rw [e] at this;exact cP _ this,λy c h=>(hf b hb').2.2.2.2.1 y c (gY (S.cells I.ok) h)⟩
 bs:=I.bs
 bsz:=aQ I.ok.bsz I.sz
 noex:=λb o e hb'=>by
  rcases (hf b hb').2.2.2.1 with h | h
  ·exact I.ok.noex b o e h
  ·exact absurd (aV (aX e) (aQ I.ok.bsz h)) (cP _)
 exfs:=λb hb' hs=>by
  have h2:=I.stkSub b hs;rcases aT.mp h2 with h2 | h2
  ·exact (hf b hb').2.1 h2
  ·exact (hf b hb').2.2.1 h2
 funs:=I.stack
 frf:=I.stkFree
theorem yD{i j:Nat}(h:js[i]?=some j):(slots σ js)[i]?=some ((σ[j]?).getD none):=by
 unfold slots;rw [aE,h];rfl
theorem UP{h':Heap}{tk:Nat}(S:eA X scope x N' js)(I:cE X pins σ H s)(hf:∀b∈fp,jP X pins H b)(hb:∀b∈fp,b<s.heap.objs.size)
  (hn:h'.Ns s.heap.objs.size (λ_=>none)) (hk:∀b o,s.heap.get? b=some o->h'.get? b=some o):cE (lO X scope s.heap.objs.size fp s H N') [] (none::slots σ js) H { s with heap:=h',toks:=tk } where
 ok:=aAJ S I hf hb
 os:=rfl
 bare:=I.bare
 base:=Un.kept hk
 loc:=by
  refine ⟨_,hn,λi y v hi hv hvis=>?_⟩;cases i with
  | zero=>cases hv
  | succ i =>
   have hv':(slots σ js)[i]?=some (some v):=hv;have hlt:i<js.length:=by
    have:=(aK.mp hv').1;unfold slots at this
    rwa [aA] at this
   have hj:js[i]?=some js[i]:=aC hlt;obtain ⟨z,h1,h2,h3⟩:=S.slot i _ hj;have hzy:z=y:=by
    have:N'[i+1]?=some y:=hi;rw [h1] at this;cases this;rfl
   subst hzy;rw [yD hj] at hv';have hσ:σ[js[i]]?=some (some v):=by
    cases q:σ[js[i]]? with
    | none=>rw [q] at hv';cases hv'
    | some o=>rw [q] at hv';cases hv';rfl
   have hkc:X.env.kindOf z=some .cell:=S.free _ h3 rfl;obtain ⟨m,hm,hl⟩:=I.loc;obtain ⟨u,ru,lk⟩:=hl _ z v h2 hσ (.inr (.inl hkc));rcases lk with ⟨hk1,_⟩ | ⟨_,c,hc,hcell⟩
   ·rw [hkc] at hk1;cases hk1
   ·refine ⟨u,ru,.inr ⟨?_,c,mI (S.cells I.ok) h3 hc,?_⟩⟩
    ·rcases hvis with hvis | hvis | hvis
     ·exfalso;have hcl:=mI (S.cells I.ok) h3 hc;have hm2:=mT (l:=(relabel scope X.env).names) hvis;unfold relabel at hm2;obtain ⟨⟨n,k⟩,hmem,he⟩:=aD.mp hm2;dsimp only at he;by_cases hq:(k == NameKind.free&&X.env.scope.kind == .function&&X.env.kindOf n == some .cell)=true
      ·rw [if_pos hq] at he;cases he
      ·rw [if_neg hq] at he;cases he;have:=S.names _ hmem rfl;have l2:=mQ h3;obtain ⟨c',l2⟩:=l2;dsimp only at this;rw [this] at l2;have key:(relabel scope X.env).names.lookup z=some .local:=lookup_relabel_local this;have hck:scope.names.lookup z=some .local:=this;exact S.nofl z h3 hck
     ·exact .inl hvis
     ·exact .inr hvis
    ·obtain ⟨o,e,r⟩:=hcell;exact ⟨o,hk _ _ e,r⟩
 cell:=λy c h=>by
  obtain ⟨v,o,e,r⟩:=I.cell y c (gY (S.cells I.ok) h);exact ⟨v,o,hk _ _ e,r⟩
 free:=I.hok.fresh (aJ _)
 freeC:=λy c h=>I.freeC y c (gY (S.cells I.ok) h)
 pin:=λp hp=>by cases hp
 hok:=I.hok.kept hk
 len:=by
  show (slots σ js).length+1=N'.length;unfold slots;rw [aA,S.len]
theorem nC.but{P:Program}{w:World}{H:Hp}{h h':Heap}{C:Addr}(x:nC P w H h)(hC:H C=none)(k:∀b u,b≠C->h.get? b=some u->h'.get? b=some u):nC P w H h':=λa o e =>
 (x a o e).stay (λb u hb q=>k b u (by
  rcases hb with rfl | hb
  ·exact cU e hC
  ·exact cU hb hC) q) (λ_ q=>q) λ_ _ q=>q
theorem DF{H2:Hp}{σ':St}{s2:Shared}{h'':Heap}(S:eA X scope x N' js)(I:cE X pins σ H s)(hf:∀b∈fp,jP X pins H b)
  (J:cE (lO X scope s.heap.objs.size fp s H N') [] σ' H2 s2) (hs:Heap.SameBut s.heap.objs.size s2.heap h''):cE X pins σ H2 { s2 with heap:=h'' }:=by
 have hC:H2 s.heap.objs.size=none:=J.free;have ne:∀{b:Addr} {o:Obj},s.heap.get? b=some o->b≠s.heap.objs.size:=λe q=>by
  have:=aX e;rw [q] at this;exact cP _ this
 refine I.call' (s':={ s2 with heap:=h'' }) (ch:=fp) (by rw [show ({ s2 with heap:=h'' }:Shared).os=s2.os from rfl];exact J.os) ?_ (J.hok.but hC λb u hb q=>hs.extBut b u hb q) J.bare λb hb=>⟨(hf b hb).2.2.2.1,(hf b hb).2.1,(hf b hb).2.2.2.2.1,(hf b hb).2.2.2.2.2⟩;have U:=J.base;exact {
  keep:=λb o e n h1 h2=>hs.extBut b o (ne e) (U.keep b o e n h1 h2)
  slot:=λb o e n h1 h2=>by
   obtain ⟨sl,q⟩:=U.slot b o e n h1 h2;exact ⟨sl,hs.extBut b _ (ne e) q⟩
  free:=U.free
  there:=λb o e h2=>by
   obtain ⟨o',q⟩:=U.there b o e h2;exact ⟨o',hs.extBut b _ (ne e) q⟩
  tups:=U.tups
  frzs:=U.frzs
  tbls:=U.tbls }
end
abbrev QS:Value->Shared->Prop:=λ_ _=>False
theorem rO{prog:Program}{w:World}{A:Around}{R:Result->Shared->Prop}{s:Shared}{elt target iter:Expr}{ifs:List Expr}{scope:Scope}{pos:Pos}{it acc:Value}{env:Env}(I:Nat->Shared->Prop)
  (turn:∀n s,I n s->wpAny (model prog w) A (pyNext it) (λr s₁=>match r with
   | none=>R (.ok .next) s₁
   | some v=>wpAny (model prog w) A (letOwnedTupleGo target it v) (λ_ s₁'=>wpAny (model prog w) A (assign target env v) (λ_ s₂ =>
     wpAny (model prog w) A (forIn ifs true λc r=>if r=true then do let ok <-isTrue c env (eval c env);pure (ForInStep.yield ok) else pure (ForInStep.yield r)) (λok s₃ =>
      if ok=true then wpAny (model prog w) A (eval elt env) (λx s₄=>wpAny (model prog w) A (call (.builtin "list.append") [acc,x]) (λ_ s₅=>∃m,m<n/\I m s₅) QS s₄) QS s₃
      else ∃m,m<n/\I m s₃) QS s₂) QS s₁') QS s₁) QS s)
  (n:Nat) (h:I n s):codeAny (model prog w) A (.compLoop (.ListComp elt [⟨target,iter,ifs,0⟩] scope pos) 0 it acc env) R s:=by
 refine codeAny_loop rfl I (λn s hI=>?_) n h;show wpAny _ A ((compTurn (.ListComp elt [⟨target,iter,ifs,0⟩] scope pos) 0 it acc env).onRaise (λx=>do noteFrame x env;theTreesLotGoes x)) _ _ s;refine wpAny_noted ?_;rw [compTurn_list];refine wpAny_bind (wpAny_standAt (wpAny_bind (wpAny_mono (turn n s hI) (λr s₁ h₁=>?_) λ_ _ h'=>h'.elim)));cases r with
 | none=>exact wpAny_pure h₁
 | some v =>
  refine wpAny_bind (wpAny_mono h₁ (λ_ s₁' h₁'=>?_) λ_ _ h'=>h'.elim);refine wpAny_bind (wpAny_mono h₁' (λ_ s₂ h₂=>wpAny_bind (wpAny_mono h₂ (λok s₃ h₃=>?_) λ_ _ h'=>h'.elim)) λ_ _ h'=>h'.elim);cases ok with
  | false=>exact wpAny_pure ⟨rfl,h₃⟩
  | true =>
   exact wpAny_bind (wpAny_bind (wpAny_mono h₃ (λx s₄ h₄=>wpAny_bind (wpAny_mono h₄ (λ_ s₅ h₅=>wpAny_pure (wpAny_pure ⟨rfl,h₅⟩)) λ_ _ h'=>h'.elim)) λ_ _ h'=>h'.elim))
section
variable{X:Cx}{pins:List (Addr × Obj)}{σ:St}{H:Hp}{s:Shared}{scope:Scope}{x:Str}{N':List Str}{js:List Nat}{fp:List Addr}{elt iter:Expr}{px pos:Pos}{ifs:List Expr}{tc:TT}{te:TE}
theorem wQ{J:It}{it:Addr}{tn:Nat->Heap->Prop}{RR:Value->Addr->Result->Shared->Prop}{E:Value->Shared->Prop}{Q:VK}
  (S:eA X scope x N' js) (I:cE X pins σ H s) (T:GC X.prog X.w X.K (.Name x px) J fp it tn) (h0:tn 0 s.heap) (hf:∀b∈fp,jP X pins H b)
  (ht:∀C fp s₀ H₀,QJ (lO X scope C fp s₀ H₀ N') ifs tc) (he:∀C fp s₀ H₀,PE (lO X scope C fp s₀ H₀ N') elt te)
  (R:∀D,H D=none->∃W:Nat->Nat->List V->Hp->Prop,(∃m,W 0 m [] (upd H D (.lst []))) /\
   ∀i m ys H2,W i m ys H2->H2 D=some (.lst ys)/\((J.stop i H2/\Q (.ref D) H2)\/(J.go i H2/\ys.length<sizeLine/\∀x H3,J.yld i H2 x H3 ->
    tc (some x::slots σ js) H3 λb H4=>if b=true then te (some x::slots σ js) H4 λy H5=>H5 D=some (.lst ys)/\∃m',m' < m/\W (i+1) m' (ys++[y]) (upd H5 D (.lst (ys++[y])))
     else H4 D=some (.lst ys)/\∃m',m' < m/\W (i+1) m' ys H4)))
  (hRR:∀(D:Addr) (H3:Hp) (s3:Shared) (σ':St) (H':Hp) (s':Shared),cE X pins σ H3 s3->(∀b∈fp,jP X pins H3 b)->cE (lO X scope s3.heap.objs.size fp s3 H3 N') [] σ' H' s'->Q (.ref D) H'->RR (.ref D) s3.heap.objs.size (.ok .next) s') :
  wpAny (model X.prog X.w) X.A (newList []) (λacc s₃=>wpAny (model X.prog X.w) X.A (newFunctionEnv scope X.env.globals (FY X scope) [] X.env.qual none .none (some X.env)) (λcenv s₄ =>
   codeAny (model X.prog X.w) X.A (.compStart (.ListComp elt [⟨.Name x px,iter,ifs,0⟩] scope pos) 0 (.ref it) acc { cenv with scope:=relabel scope X.env }) (RR acc cenv.locals) s₄) E s₃) E s:=by
 have hb:∀b∈fp,b<s.heap.objs.size:=λb hb=>by
  obtain ⟨o,e,_⟩:=T.obj 0 _ h0 b hb;exact aX e
 refine wpAny_newObj_type (wpAny_newFunctionEnv S.cell (by intro y hy;simp at hy) (λh₁ hns₁ hsb₁=>?_) S.kind);have hDn:H s.heap.objs.size=none:=I.hok.fresh (aJ _);obtain ⟨W,⟨m0,hw0⟩,hW⟩:=R _ hDn;have I3:cE X pins σ (upd H s.heap.objs.size (.lst [])) { s with heap:=s.heap.push { cls:=.type "list",dict:=none,data:=.seq ([]:List Value).toArray } }:=I.lnew (its:=[]) (ys:=[]) (t':=s.toks) .nil (cC _);have hf3:∀b∈fp,jP X pins (upd H s.heap.objs.size (.lst [])) b:=λb hb' =>
  ⟨by rw [bT (λe=>by have:=hb b hb';rw [e] at this;exact cP _ this)];exact (hf b hb').1,(hf b hb').2⟩
 have hb3:∀b∈fp,b<(s.heap.push { cls:=.type "list",dict:=none,data:=.seq ([]:List Value).toArray }).objs.size:=λb hb'=>by
  rw [gB];exact Nat.lt_succ_of_lt (hb b hb')
 have hkeep:∀b o,(s.heap.push { cls:=.type "list",dict:=none,data:=.seq ([]:List Value).toArray }).get? b=some o->h₁.get? b=some o:=λb o e =>
  hsb₁.extBut b o (λq=>by have:=aX e;rw [q] at this;exact cP _ this) (aB _ e)
 have J4:=UP (h':=h₁) (tk:=s.toks+([]:List (Str × Value)).length) S I3 hf3 hb3 hns₁ hkeep;have t4:tn 0 h₁:=T.keep 0 _ _ h0 λb hb' o e=>hkeep b o (aB _ e);have loop:codeAny (model X.prog X.w) X.A (.compLoop (.ListComp elt [⟨.Name x px,iter,ifs,0⟩] scope pos) 0 (.ref it) (.ref s.heap.objs.size) (compEnvC scope (FY X scope) (s.heap.push { cls:=.type "list",dict:=none,data:=.seq ([]:List Value).toArray }).objs.size X.env))
   (RR (.ref s.heap.objs.size) (s.heap.push { cls:=.type "list",dict:=none,data:=.seq ([]:List Value).toArray }).objs.size) { s with heap:=h₁,toks:=s.toks+([]:List (Str × Value)).length }:=by
  refine rO (λn s'=>∃(i:Nat) (ys:List V) (H2:Hp) (o:Option V),cE (lO X scope _ fp _ _ N') [] (o::slots σ js) H2 s'/\tn i s'.heap/\(∀b∈fp,H2 b=none)/\W i n ys H2) ?_ m0 ⟨0,[],_,none,J4,t4,λb hb'=>(hf3 b hb').1,hw0⟩;rintro n s' ⟨i,ys,H2,o,J2,t2,f2,w2⟩;obtain ⟨hD,hcase⟩:=hW i n ys H2 w2;have Fp:∀b∈fp,jP (lO X scope (s.heap.push { cls:=.type "list",dict:=none,data:=.seq ([]:List Value).toArray }).objs.size fp { s with heap:=s.heap.push { cls:=.type "list",dict:=none,data:=.seq ([]:List Value).toArray } } (upd H s.heap.objs.size (.lst [])) N') [] H2 b:=λb hb' =>
   ⟨f2 b hb',(J2.ok.exf b hb').1,J2.ok.exfs b hb',.inl hb',(J2.ok.exf b hb').2,λp hp=>by cases hp⟩
  rcases hcase with ⟨hstop,hq⟩ | ⟨hgo,hz,hturn⟩
  ·refine wpAny_mono (T.done (lO X scope _ fp _ _ N') rfl rfl rfl rfl i [] s' _ H2 QS J2 Fp t2 hstop) (λr s1 ⟨hr,J5⟩=>?_) λ_ _ f=>f;subst hr;exact hRR _ _ _ _ _ _ I3 hf3 J5 hq
  ·refine wpAny_mono (T.item (lO X scope _ fp _ _ N') rfl rfl rfl rfl i [] s' _ H2 QS J2 Fp t2 hgo) (λr s1 ⟨u,hr,hx⟩=>?_) λ_ _ f=>f;subst hr;refine wpAny_mono hx (λ_ s2 ⟨v,H3,J3,rv,hy,t3,f3⟩=>?_) λ_ _ f=>f;have Fp3:∀b∈fp,jP (lO X scope (s.heap.push { cls:=.type "list",dict:=none,data:=.seq ([]:List Value).toArray }).objs.size fp { s with heap:=s.heap.push { cls:=.type "list",dict:=none,data:=.seq ([]:List Value).toArray } } (upd H s.heap.objs.size (.lst [])) N') [] H3 b:=λb hb' =>
    ⟨f3 b hb',(J3.ok.exf b hb').1,J3.ok.exfs b hb',.inl hb',(J3.ok.exf b hb').2,λp hp=>by cases hp⟩
   have P3:=J3.pinned Fp3 (T.obj (i+1) _ t3);have keepT:∀{σ':St} {Hx:Hp} {sx:Shared},cE (lO X scope (s.heap.push { cls:=.type "list",dict:=none,data:=.seq ([]:List Value).toArray }).objs.size fp { s with heap:=s.heap.push { cls:=.type "list",dict:=none,data:=.seq ([]:List Value).toArray } } (upd H s.heap.objs.size (.lst [])) N') ([]++sJ fp s2.heap) σ' Hx sx->tn (i+1) sx.heap/\∀b∈fp,Hx b=none:=λJx =>
    ⟨T.keep (i+1) _ _ t3 λb hb' ob e=>(Jx.pin (b,ob) (aP _ (aP _ (jG hb' e)))).1,λb hb'=>by
     obtain ⟨ob,e,_⟩:=T.obj (i+1) _ t3 b hb';exact (Jx.pin (b,ob) (aP _ (aP _ (jG hb' e)))).2.1⟩
   refine wpAny_assign_Name (nO P3 (i:=0) (x:=x) (v:=v) ?nd ?hi ?hx rv (λs5 J5=>?_) ?hfn)
   case nd=>exact S.nd
   case hi=>exact S.zero
   case hx=>exact .inl (lookup_relabel_local S.own)
   case hfn=>exact .inr (lookup_relabel_local S.own)
   have J5':cE _ _ (some v::slots σ js) H3 s5:=J5;refine wpAny_mono (ht _ _ _ _ _ _ _ _ _ J5' (hturn v H3 hy)) (λok s6 ⟨H6,J6,q6⟩=>?_) λ_ _ f=>f;dsimp only at q6;by_cases hok:ok=true
   ·rw [if_pos hok] at q6 ⊢;refine wpAny_mono (he _ _ _ _ _ _ _ _ _ J6 q6) (λy s7 ⟨w',H7,J7,r7,hD7,m',hm',w7⟩=>?_) λ_ _ f=>f;refine wpAny_mono (sL (X:=lO X scope _ fp _ _ N') _ _ _ _ (.ref s.heap.objs.size) [w'] (.ref s.heap.objs.size) [y] (λ_ H8=>H8=upd H7 s.heap.objs.size (.lst (ys++[w']))) J7 rfl (.cons r7 .nil) ⟨_,_,_,rfl,rfl,hD7,hz,rfl⟩) (λ_ s8 ⟨_,H8,J8,_,e8⟩=>?_) λ_ _ f=>f;subst e8;obtain ⟨k1,k2⟩:=keepT J8;exact ⟨m',hm',i+1,ys++[w'],_,some v,J8.unpinned,k1,k2,w7⟩
   ·rw [if_neg hok] at q6 ⊢;obtain ⟨_,m',hm',w7⟩:=q6;obtain ⟨k1,k2⟩:=keepT J6;exact ⟨m',hm',i+1,ys,_,some v,J6.unpinned,k1,k2,w7⟩
 refine codeAny_compStart_list loop (T.self X.A 0 _ _ _ t4 loop)
theorem TD{wi:TI}(S:eA X scope x N' js)(hi:PI X (.Name x px) iter wi)(ht:∀C fp s₀ H₀,QJ (lO X scope C fp s₀ H₀ N') ifs tc)(he:∀C fp s₀ H₀,PE (lO X scope C fp s₀ H₀ N') elt te)
  (hs:∀x,foldedSetIterable iter X.env x=pure x:=by intro _;rfl):PE X (.ListComp elt [⟨.Name x px,iter,ifs,0⟩] scope pos) (VX wi js tc te):=by
 intro pins s σ H Q I h;rw [eval_ListComp];refine wpAny_comprehension_free (use:=none) rfl hs (lK (S.cells I.ok)) S.kind S.names (wpAny_mono (hi pins s σ H _ I h) (λv s1 h1=>?_) λ_ _ e=>e);refine wpAny_mono h1 (λitv s2 ⟨it,fp,tn,J,H2,e,I2,T,t0,hf,R⟩=>?_) λ_ _ e=>e;subst e;refine wQ S I2 T t0 hf ht he R ?_;intro D H3 s3 σ' H' s' I3 hf3 J3 q;obtain ⟨m,hm,_⟩:=J3.loc;exact ⟨m,hm,λh' hs'=>⟨.ref D,H',DF S I3 hf3 J3 hs',rfl,q⟩⟩
theorem FG{wi:TI}{y:Str}{py spos:Pos}{i:Nat}(S:eA X scope x N' js)(hN:X.N.Nodup)(hiN:X.N[i]?=some y)(hy:X.env.kindOf y=some .local)(hi:PI X (.Name x px) iter wi)(ht:∀C fp s₀ H₀,QJ (lO X scope C fp s₀ H₀ N') ifs tc)(he:∀C fp s₀ H₀,PE (lO X scope C fp s₀ H₀ N') elt te)
  (hsw:swapsWith (.ListComp elt [⟨.Name x px,iter,ifs,0⟩] scope pos) (some (.Name y py)) spos.line X.env=pure true) (hs:∀x,foldedSetIterable iter X.env x=pure x:=by intro _;rfl) :
  PS X (.Assign [.Name y py] (.ListComp elt [⟨.Name x px,iter,ifs,0⟩] scope pos) spos) (IW (VX wi js tc te) (rH i)):=by
 intro pins s σ H D0 I h;rw [exec_Assign_Name_used _ _ _ _ hsw];refine wpAny_bind (wpAny_standAt (wpAny_bind ?_));show wpAny _ X.A (do let _ <-comprehension (.ListComp elt [⟨.Name x px,iter,ifs,0⟩] scope pos) scope X.env _ (newList []) false (eval iter X.env) (some (assign (.Name y py) X.env))) _ _ s;refine wpAny_bind (wpAny_mono (wpAny_comprehension_free (use:=some (assign (.Name y py) X.env)) (Q:=λ_ s'=>SP X pins D0 .next s') rfl hs (lK (S.cells I.ok)) S.kind S.names (wpAny_mono (hi pins s σ H _ I h) (λv s1 h1=>?_) λ_ _ e=>e)) (λ_ s' hq=>wpAny_pure (wpAny_pure hq)) λ_ _ e=>e);refine wpAny_mono h1 (λitv s2 ⟨it,fp,tn,J,H2,e,I2,T,t0,hf,R⟩=>?_) λ_ _ e=>e;subst e;refine wQ (Q:=λv H'=>rH i v σ H' D0.nx) S I2 T t0 hf ht he R ?_;intro D H3 s3 σ' H' s' I3 hf3 J3 q;obtain ⟨m,hm,_⟩:=J3.loc;have IX:cE X pins σ H' s':=DF S I3 hf3 J3 (Heap.SameBut.refl ..);have hCL:s3.heap.objs.size≠X.env.locals:=λe=>by have:=I3.lt;rw [e] at this;exact cP _ this
 show wpAny _ X.A (assign (.Name y py) X.env (.ref D)) _ _ _;refine wpAny_assign_Name (xZ IX hN hiN (.inl hy) (v:=.ref D) rfl (λs5 I5 hsb=>?_) (.inr hy));obtain ⟨a,hsb,ha⟩:=hsb;have hCa:s3.heap.objs.size≠a:=by
  rcases ha with rfl | ha
  ·exact hCL
  ·intro e;obtain ⟨v,o,eo,_⟩:=I3.cell y a ha;have:=aX eo;rw [<-e] at this;exact cP _ this
 refine ⟨m,hm.sameBut hsb hCa,λh' hs'=>⟨_,H',?_,q⟩⟩;exact I5.turned (it:=s3.heap.objs.size) (t':=s5.toks) (λb o n e=>hs'.extBut b o n e) J3.free hCL (.inr I3.sz)
  (λz c hz e=>by
   obtain ⟨v,o,eo,_⟩:=I3.cell z c hz;have:=aX eo;rw [e] at this;exact cP _ this)
  (λp hp e=>by
   have:=aX (I3.pin p hp).1;rw [e] at this;exact cP _ this)
end
structure QI(X:Cx)(ifs:List Expr)(t:TT):Prop where p:QJ X ifs t
def zS(t:TE):TE:=λσ H Q=>∃Q':VK,t σ H Q'/\∀v H1,Q' v H1->Q v H1
theorem PE.mono{X:Cx}{e:Expr}{t:TE}(h:PE X e t):PE X e (zS t):=λpins s σ H Q I ⟨Q',h1,h2⟩ =>
 thn (h pins s σ H Q' I h1) λb s' ⟨v,H',I',r,q⟩=>⟨v,H',I',r,h2 _ _ q⟩
theorem QJ.mono{X:Cx}{es:List Expr}{t:TT}(h:QJ X es t):QJ X es (qK t):=λpins s σ H Q I ⟨Q',h1,h2⟩ =>
 thn (h pins s σ H Q' I h1) λb s' ⟨H',I',q⟩=>⟨H',I',h2 _ _ q⟩
@[irreducible] def mL(J:It)(σ:St)(js:List Nat)(tc:TT)(te:TE)(H1:Hp)(Q:VK):Prop:=∀D,H1 D=none->∃W:Nat->Nat->List V->Hp->Prop,(∃m,W 0 m [] (upd H1 D (.lst []))) /\
 ∀i m ys H2,W i m ys H2->H2 D=some (.lst ys)/\((J.stop i H2/\Q (.ref D) H2)\/(J.go i H2/\ys.length<sizeLine/\∀x H3,J.yld i H2 x H3 ->
  qK tc (some x::slots σ js) H3 λb H4=>if b=true then zS te (some x::slots σ js) H4 λy H5=>H5 D=some (.lst ys)/\∃m',m' < m/\W (i+1) m' (ys++[y]) (upd H5 D (.lst (ys++[y])))
   else H4 D=some (.lst ys)/\∃m',m' < m/\W (i+1) m' ys H4))
def zT(wi:TI)(js:List Nat)(tc:TT)(te:TE):TE:=λσ H Q=>wi σ H λJ H1=>mL J σ js tc te H1 Q
section
variable{X:Cx}{scope:Scope}{x y:Str}{N':List Str}{js:List Nat}{elt iter c:Expr}{px py pos spos:Pos}{ifs:List Expr}{tc:TT}{te:TE}{wi:TI}{i:Nat}
theorem eQ:QI X [] xH:=⟨pts_nil⟩
theorem QU{t:TT}(h:IN X c t):QI X [c] t:=⟨SN h.p⟩
theorem fG(S:eA X scope x N' js)(hi:WX X (.Name x px) iter wi)(ht:∀C fp s₀ H₀,QI (lO X scope C fp s₀ H₀ N') ifs tc)(he:∀C fp s₀ H₀,fY (lO X scope C fp s₀ H₀ N') elt te)
  (hs:∀x,foldedSetIterable iter X.env x=pure x:=by intro _;rfl):fY X (.ListComp elt [⟨.Name x px,iter,ifs,0⟩] scope pos) (zT wi js tc te) :=
 ⟨by unfold zT mL;exact TD S hi.p (λC fp s₀ H₀=>(ht C fp s₀ H₀).p.mono) (λC fp s₀ H₀=>(he C fp s₀ H₀).p.mono) hs⟩
theorem ED(S:eA X scope x N' js)(hN:X.N.Nodup)(hiN:X.N[i]?=some y)(hy:X.env.kindOf y=some .local)(hi:WX X (.Name x px) iter wi)(ht:∀C fp s₀ H₀,QI (lO X scope C fp s₀ H₀ N') ifs tc)(he:∀C fp s₀ H₀,fY (lO X scope C fp s₀ H₀ N') elt te)
  (hsw:swapsWith (.ListComp elt [⟨.Name x px,iter,ifs,0⟩] scope pos) (some (.Name y py)) spos.line X.env=pure true:=by rfl) (hs:∀x,foldedSetIterable iter X.env x=pure x:=by intro _;rfl) :
  GE X (.Assign [.Name y py] (.ListComp elt [⟨.Name x px,iter,ifs,0⟩] scope pos) spos) (IW (zT wi js tc te) (rH i)) :=
 ⟨by unfold zT mL;exact FG S hN hiN hy hi.p (λC fp s₀ H₀=>(ht C fp s₀ H₀).p.mono) (λC fp s₀ H₀=>(he C fp s₀ H₀).p.mono) hsw hs⟩
end
def WT(psc scope:Scope)(N:List Str)(x:Str)(N':List Str)(js:List Nat):Bool :=
 (scope.names.all λy=>!(y.2 == .free) || psc.names.lookup y.1 == some .cell)&&(scope.names.all λy=>!(y.2 == .cell))&&scope.kind == .function &&
 (scope.names.all λy=>!(y.2 == .local) || scope.names.lookup y.1 == some .local)&&scope.names.lookup x == some .local &&
 (scope.names.all λy=>!(y.2 == .free) || !(scope.names.lookup y.1 == some .local))&&N'.length == js.length+1&&N'[0]? == some x&&decide N'.Nodup &&
 ((List.range js.length).all λi=>match js[i]?,N'[i+1]? with
  | some j,some y=>N[j]? == some y&&scope.names.contains (y,NameKind.free)
  | _,_=>false)
theorem eA.of{X:Cx}{psc scope:Scope}{N:List Str}{x:Str}{N':List Str}{js:List Nat}(h:WT psc scope N x N' js=true)(hX:X.env.scope=psc)(hN:X.N=N)(hc:X.calm=true):eA X scope x N' js:=by
 unfold WT at h;simp only [cY] at h;obtain ⟨⟨⟨⟨⟨⟨⟨⟨⟨h1,h2⟩,h3⟩,h4⟩,h5⟩,h6⟩,h7⟩,h8⟩,h9⟩,h10⟩:=h;rw [List.all_eq_true] at h1 h2 h4 h6 h10;refine ⟨hc,λy hy e=>?_,λy hy e=>?_,by simpa using h3,λy hy e=>?_,by simpa using h5,λy hy e=>?_,by simpa using h7,by simpa using h8,of_decide_eq_true h9,λi j hj=>?_⟩
 ·have:=h1 y hy;rw [e] at this;show X.env.scope.names.lookup y.1=_;rw [hX];simpa using this
 ·have:=h2 y hy;rw [e] at this;simp at this
 ·have:=h4 y hy;rw [e] at this;simpa using this
 ·have:=h6 _ hy;rw [e] at this;simp at this
 ·have hi:i<js.length:=(aK.mp hj).1;have:=h10 i (cG.mpr hi);rw [hj] at this;cases q:N'[i+1]? with
  | none=>rw [q] at this;simp at this
  | some y =>
   rw [q] at this;simp only [cY] at this;exact ⟨y,rfl,by rw [hN];simpa using this.1,List.contains_iff_mem.mp this.2⟩
section
variable{js:List Nat}{te:TE}{tc:TT}{σ:St}{H:Hp}{Q:VK}
theorem DL{J:It}{n:Nat}(src:Nat->V->Prop)(hz:n<=100000)(Pv:Addr->Nat->List V->Hp->Prop)
  (h0:∀D H1,H D=none->H1 D=some (.lst [])->bC H H1->Pv D 0 [] H1)
  (hg:∀D i ys H',i<n->H' D=some (.lst ys)->Pv D i ys H'->J.go i H'/\∀x H3,J.yld i H' x H3->H3=H'/\src i x)
  (hst:∀D ys H',H' D=some (.lst ys)->Pv D n ys H'->J.stop n H')
  (hs:∀D i x ys H',src i x->i<n->ys.length=i->H' D=some (.lst ys)->Pv D i ys H'->te (some x::slots σ js) H' λy H5=>H5 D=some (.lst ys)/\∀H6,H6 D=some (.lst (ys++[y]))->aU D H5 H6->Pv D (i+1) (ys++[y]) H6)
  (hd:∀D ys H',ys.length=n->H D=none->H' D=some (.lst ys)->Pv D n ys H'->Q (.ref D) H') :
  mL J σ js xH te H Q:=by
 unfold mL;intro D hD;refine ⟨λi m ys H'=>m=n-i/\i<=n/\ys.length=i/\H' D=some (.lst ys)/\Pv D i ys H',⟨n,by simp,cC _,rfl,bH,h0 D _ hD bH (bC.upd hD)⟩,?_⟩;rintro i m ys H2 ⟨rfl,hi,hy,hD2,p⟩;refine ⟨hD2,?_⟩;by_cases hlt:i<n
 ·obtain ⟨g1,g2⟩:=hg D i ys H2 hlt hD2 p;refine .inr ⟨g1,bB (m:=100000) Oo Dd,λx H3 hy3=>?_⟩;obtain ⟨rfl,hx⟩:=g2 x H3 hy3;refine ⟨λb H4=>b=true/\H4=H3,⟨rfl,rfl⟩,?_⟩;rintro b H4 ⟨rfl,rfl⟩;rw [if_pos rfl];refine ⟨_,hs D i x ys H4 hx hlt hy hD2 p,?_⟩;rintro v H5 ⟨hD5,k⟩;exact ⟨hD5,n-(i+1),Oo,rfl,hlt,by rw [bF,hy];rfl,bH,k _ bH aU.self⟩
 ·have e:i=n:=Oo;subst e;exact .inl ⟨hst D ys H2 hD2 p,hd D ys H2 hy hD hD2 p⟩
end
@[irreducible] def NB(K:PySem.W.Frag):List V->Hp->VK->Prop:=λxs H Q=>∃(p:Addr) (ns:List Int),xs=[.ref p]/\fS K H p (ns.map V.int)/\Q (.int ns.sum) H
@[irreducible] def JO(b:Bool):R2:=λx y H Q=>∃d d',cO H d x/\cO H d' y/\SeqAt.shaped d=true/\SeqAt.shaped d'=true/\Q (.bl (b == PyData.eqv d d')) H
section
variable{X:Cx}
theorem PH(hc:X.calm=true):fX X (.builtin "sum") (NB X.K):=by
 unfold NB;intro pins s σ H xs us Q I r h;obtain ⟨p,ns,rfl,hq,q⟩:=h;obtain ⟨u,rfl,rx⟩:=jJ r;cases rx;obtain ⟨its,r',pl,hz⟩:=I.list hq;have hi:=mV r';obtain ⟨xs',e⟩:=hi.allInts.items;rw [e] at pl;refine sum_intListG (I.ok.hd hc) pl.isList λh' tk t' hk=>⟨.int ns.sum,H,I.kept hk,⟨t',?_⟩,q⟩;rw [preSum_eq,List.take_of_length_le (by simp)];rw [<-hi.numsOf];have e2:its=(intItems xs').toList:=by rw [<-e]
 rw [e2,nums_intItems]
theorem rsI{K:PySem.W.Frag}{H:Hp}{p:Addr}{ns:List Int}{Q:VK}(h:fS K H p (ns.map V.int))(q:Q (.int ns.sum) H):NB K [.ref p] H Q:=by unfold NB;exact ⟨p,ns,rfl,h,q⟩
theorem FJ(hu:X.A.units+64<cLine):mN X (compareOp .Eq) (JO true):=by
 unfold JO;intro pins s σ H x y v u Q I rx ry h;obtain ⟨d,d',h1,h2,s1,s2,q⟩:=h;obtain ⟨as,ra⟩:=h1.reads I rx;obtain ⟨bs,rb⟩:=h2.reads I ry;exact SeqAt.compareEq_shaped ra rb s1 s2 hu ⟨.bl _,H,I,by show _=_;simp,q⟩
theorem ZX(hu:X.A.units+64<cLine):mN X (compareOp .NotEq) (JO false):=by
 unfold JO;intro pins s σ H x y v u Q I rx ry h;obtain ⟨d,d',h1,h2,s1,s2,q⟩:=h;obtain ⟨as,ra⟩:=h1.reads I rx;obtain ⟨bs,rb⟩:=h2.reads I ry;exact SeqAt.compareNe_shaped ra rb s1 s2 hu ⟨.bl _,H,I,by show _=_;simp,q⟩
theorem reD{b:Bool}{x y:V}{d d':PyData}{H:Hp}{Q:VK}(h1:cO H d x)(h2:cO H d' y)(s1:SeqAt.shaped d=true)(s2:SeqAt.shaped d'=true)(q:Q (.bl (b == PyData.eqv d d')) H):JO b x y H Q:=by
 unfold JO;exact ⟨d,d',h1,h2,s1,s2,q⟩
end
mutual
theorem wN:∀d:PyData,d.hasDict=false->PyData.eqv d d=true
 | .none,_=>by simp [PyData.eqv]
 | .bool _,_=>by simp [PyData.eqv]
 | .int _,_=>by simp [PyData.eqv]
 | .str _,_=>by simp [PyData.eqv]
 | .list xs,h=>by simp only [PyData.eqv];exact oP xs (by simpa [PyData.hasDict] using h)
 | .tuple xs,h=>by simp only [PyData.eqv];exact oP xs (by simpa [PyData.hasDict] using h)
 | .dict _,h=>by simp [PyData.hasDict] at h
theorem oP:∀ds:List PyData,PyData.hasDictAll ds=false->PyData.eqvAll ds ds=true
 | [],_=>by simp [PyData.eqvAll]
 | d::ds,h=>by
  simp only [PyData.hasDictAll,Bool.or_eq_false_iff] at h;simp only [PyData.eqvAll,wN d h.1,oP ds h.2,Bool.and_self]
end
mutual
def fD:PyData->Bool
 | .list _=>false
 | .dict _=>false
 | .tuple ds=>eP ds
 | _=>true
def eP:List PyData->Bool
 | []=>true
 | d::ds=>fD d&&eP ds
end
def dX(H H':Hp):Prop:=∀b xs,H b=some (.tup xs)->H' b=some (.tup xs)
theorem dX.trans{H H1 H2:Hp}(a:dX H H1)(b:dX H1 H2):dX H H2:=λc o h=>b c o (a c o h)
theorem bC.t{H H':Hp}(s:bC H H'):dX H H':=λb xs h=>s _ _ h
theorem aU.t{H H':Hp}{p:Addr}(s:aU p H H'){xs:List V}(hp:H p=some (.lst xs)):dX H H':=λb ys h=>s.at (vX h hp (by intro z;cases z)) h
mutual
theorem cO.flat{H H':Hp}(s:dX H H'):∀{d:PyData}{v:V},fD d=true->cO H d v->cO H' d v
 | .none,_,_,h=>h
 | .bool _,_,_,h=>h
 | .int _,_,_,h=>h
 | .str _,_,_,h=>h
 | .list _,_,f,_=>by simp [fD] at f
 | .dict _,_,f,_=>by simp [fD] at f
 | .tuple ds,_,f,h=>by
  unfold cO at h ⊢;obtain ⟨a,ys,rfl,h1,h2⟩:=h;exact ⟨a,ys,rfl,s _ _ h1,bD.flat s (by simpa [fD] using f) h2⟩
theorem bD.flat{H H':Hp}(s:dX H H'):∀{ds:List PyData}{vs:List V},eP ds=true->bD H ds vs->bD H' ds vs
 | [],_,_,h=>h
 | d::ds,_,f,h=>by
  unfold bD at h ⊢;obtain ⟨x,ys,rfl,h1,h2⟩:=h;simp only [eP,cY] at f;exact ⟨x,ys,rfl,cO.flat s f.1 h1,bD.flat s f.2 h2⟩
end
theorem bD.get{H:Hp}:∀{ds:List PyData}{vs:List V}{i:Nat}{v:V},bD H ds vs->vs[i]?=some v->∃d,ds[i]?=some d/\cO H d v
 | [],_,i,v,h,e=>by cases (show _=[] from h);simp at e
 | d::ds,_,i,v,h,e=>by
  unfold bD at h;obtain ⟨x,ys,rfl,h1,h2⟩:=h;cases i with
  | zero=>simp at e;subst e;exact ⟨d,rfl,h1⟩
  | succ i =>
   rw [List.getElem?_cons_succ] at e ⊢;exact bD.get h2 e
theorem bD.get'{H:Hp}:∀{ds:List PyData}{vs:List V}{i:Nat}{d:PyData},bD H ds vs->ds[i]?=some d->∃v,vs[i]?=some v/\cO H d v
 | [],_,i,d,h,e=>by simp at e
 | d' :: ds,_,i,d,h,e=>by
  unfold bD at h;obtain ⟨x,ys,rfl,h1,h2⟩:=h;cases i with
  | zero=>simp at e;subst e;exact ⟨x,rfl,h1⟩
  | succ i =>
   rw [List.getElem?_cons_succ] at e ⊢;exact bD.get' h2 e
theorem bD.snoc{H:Hp}{ds:List PyData}{vs:List V}{d:PyData}{v:V}(h:bD H ds vs)(r:cO H d v):bD H (ds++[d]) (vs++[v]):=bD.append (bD.cons r bD.nil) h
theorem BE{i:Int}{n:Nat}(h:i.natAbs<2^n):bits i<=n:=PySem.intBits_le_iff.mpr h
theorem uD{i j:Int}{n m:Nat}(h1:i.natAbs<2^n)(h2:j.natAbs<2^m)(hn:n<=1048576:=by decide)(hm:m<=1048576:=by decide):IntMulOk i j:=by
 refine IntMulOk.of_bits ?_ ?_
 ·exact aQ (BE h1) hn
 ·exact aQ (BE h2) hm
mutual
def QO:PyData->Nat
 | .none=>4
 | .bool _=>5
 | .int _=>1921
 | .str x=>(reprText x).length
 | .list xs=>AB xs+4
 | .tuple xs=>AB xs+4
 | .dict _=>0
def AB:List PyData->Nat
 | []=>0
 | x::xs=>QO x+2+AB xs
end
theorem tK:∀(ts:List Str) (k:Nat) (acc:Str),(textFrom k acc ts).length<=acc.length+piled ts
 | [],k,acc=>by show acc.length<=_;omega
 | t::r,k,acc=>by
  have h:=tK r (k+1) (acc++(if k > 0 then ", " else "" : String)++t);have e:(acc++(if k > 0 then ", " else "" : String)++t).length=acc.length+(if k > 0 then 2 else 0)+t.length:=by
   rw [strLen_append,strLen_append];split <;> rfl
  rw [e] at h;rw [piled_cons];show (textFrom (k+1) _ r).length<=_;refine aQ h ?_;split <;> omega
theorem zQ(ts:List Str):(tupleText ts).length<=piled ts+4:=by
 unfold tupleText;rw [strLen_append,strLen_append];have e1:(("(" : Str)).length=1:=rfl;have e2:((if ts.length == 1 then ",)" else ")" : String):Str).length<=2:=by split <;> decide
 rw [e1];by_cases h:ts=[]
 ·subst h;have:(Str.join ", " []).length=0:=rfl;omega
 ·have:=join_length_add ts h;omega
theorem CS(ts:List Str):(listText ts).length<=piled ts+4:=by
 unfold listText;rw [strLen_append];have:=tK ts 0 "[";have e1:(("[" : String):Str).length=1:=rfl;have e2:(("]" : String):Str).length=1:=rfl;rw [e1] at this;rw [e2];omega
mutual
theorem vK:∀d:PyData,d.showable=true->d.hasDict=false->d.shown.length<=QO d
 | .none,_,_=>by simp only [PyData.shown,QO];decide
 | .bool b,_,_=>by cases b <;> (simp only [PyData.shown,QO];decide)
 | .int i,h,_=>by
  simp only [PyData.shown,QO];exact int_text_len_1921 (by simpa [PyData.showable] using h)
 | .str x,_,_=>by simp only [PyData.shown,QO];exact aJ _
 | .list xs,h,h2=>by
  simp only [PyData.shown,QO];have:=oG xs (by simpa [PyData.showable] using h) (by simpa [PyData.hasDict] using h2);have:=CS (PyData.shownAll xs);omega
 | .tuple xs,h,h2=>by
  simp only [PyData.shown,QO];have:=oG xs (by simpa [PyData.showable] using h) (by simpa [PyData.hasDict] using h2);have:=zQ (PyData.shownAll xs);omega
 | .dict _,_,h=>by simp [PyData.hasDict] at h
theorem oG:∀ds:List PyData,PyData.showableAll ds=true->PyData.hasDictAll ds=false->piled (PyData.shownAll ds)<=AB ds
 | [],_,_=>by simp only [PyData.shownAll,AB];exact aJ _
 | d::ds,h,h2=>by
  simp only [PyData.showableAll,cY] at h;simp only [PyData.hasDictAll,Bool.or_eq_false_iff] at h2;have:=vK d h.1 h2.1;have:=oG ds h.2 h2.2;simp only [PyData.shownAll,AB,piled_cons];omega
end
theorem RK{i:Int}{n:Nat}(h:i.natAbs<2^n)(hn:n<=1920:=by decide):PyData.showable (.int i)=true:=by
 simp only [PyData.showable];refine bV (tQ (aQ (BE h) hn) Dd)
section
variable{X:Cx}(K:PySem.W.Frag)
theorem lE(h:X.K=K:=by rfl):QL X (rIx K):=by subst h;exact bU
theorem UU(hc:X.calm=true)(h:X.K=K:=by rfl):fX X (.builtin "sum") (NB K):=by subst h;exact PH hc
end
end L2
namespace L2
open PySem
def xS(b:Bool)(h:Heap)(i l:Addr)(k:Nat):Prop:=∃o,h.get? i=some o/\o.cls=.type (bif b then "tuple_iterator" else "list_iterator")/\o.data=.fields #[.ref l,.int k 0]
def lN(b:Bool)(h:Heap)(l:Addr)(xs:Array Value):Prop:=∃o,h.get? l=some o/\o.cls=.type (bif b then "tuple" else "list")/\∃n,o.data=.seq xs n
theorem xS.at{b:Bool}{h h':Heap}{i l:Addr}{k:Nat}(x:xS b h i l k)(f:∀o,h.get? i=some o->h'.get? i=some o):xS b h' i l k:=let ⟨o,ho,r⟩:=x;⟨o,f o ho,r⟩
theorem lN.at{b:Bool}{h h':Heap}{l:Addr}{xs:Array Value}(x:lN b h l xs)(f:∀o,h.get? l=some o->h'.get? l=some o):lN b h' l xs:=let ⟨o,ho,r⟩:=x;⟨o,f o ho,r⟩
section
variable{prog:Program}{w:World}{A:Around}{E:Value->Shared->Prop}{s:Shared}
theorem AN{b:Bool}{it l:Addr}{i:Nat}{items:Array Value}{x:Value}{Q:Value->Shared->Prop}(hit:xS b s.heap it l i)(hl:lN b s.heap l items)(hx:items[i]?=some x)
  (hQ:∀h',xS b h' it l (i+1)->Heap.SameBut it s.heap h'->Q x { s with heap:=h' }):wpAny (model prog w) A (Builtin.SmallTypes.nextOf (.ref it)) Q E s:=by
 cases b with
 | false=>exact wpAny_nextOf_list_item hit hl hx hQ
 | true =>
  have ty:s.heap.IsTupleIter it l i:=hit;obtain ⟨o,ho,hc,hd⟩:=id ty;obtain ⟨ol,hol,_,nl,hdl⟩:=hl;unfold Builtin.SmallTypes.nextOf;refine wpAny_bind (wpAny_callSpecial?_slot (name:=Str.ofString "__next__") ty.typeIs F.slot_tuple_iterator_next (wpAny_call_entry F.slot_tuple_iterator_next ty.typeIs F.entry_tuple_iterator_next ?_ (F.args_tuple_iterator_next_1 _)));show wpAny _ _ (field (.ref it) 0 >>= _) _ _ s;refine wpAny_bind (wpAny_field ho hd (x:=.ref l) rfl ?_);show wpAny _ _ (if (Value.ref l == Value.none)=true then _ else _) _ _ s;rw [if_neg (show ¬((Value.ref l == Value.none)=true) from bI)];show wpAny _ _ (field (.ref it) 1 >>= _) _ _ s;refine wpAny_bind (wpAny_field ho hd (x:=.int i 0) rfl ?_);show wpAny _ _ (seqItems? (.ref l) >>= _) _ _ s;refine wpAny_bind (wpAny_seqItems hol hdl ?_);simp only [Int.toNat_natCast,hx];refine wpAny_bind (wpAny_setField ho hd (by simp) (wpAny_pure ⟨x,rfl,wpAny_pure (hQ _ ?_ (Heap.SameBut.update ..))⟩));refine ⟨_,Heap.get?_update_self _ ho (Obj.isFreed_of_fields (Obj.data_mapFields hd _)),(Obj.cls_mapFields ..).trans hc,?_⟩;rw [Obj.data_mapFields hd];simp [rawInt]
theorem NS{b:Bool}{it l:Addr}{i:Nat}{items:Array Value}{Q:Value->Shared->Prop}(hh:A.handled=none)(hit:xS b s.heap it l i)(hl:lN b s.heap l items)(hx:items[i]?=none)
  (hE:∀h' e,Heap.ExtBut it s.heap h'->(∃o,h'.get? e=some o/\o.cls=.type "StopIteration")->E (.ref e) { s with heap:=h' }):wpAny (model prog w) A (Builtin.SmallTypes.nextOf (.ref it)) Q E s:=by
 cases b with
 | false=>exact wpAny_nextOf_list_end hh hit hl hx hE
 | true =>
  have ty:s.heap.IsTupleIter it l i:=hit;obtain ⟨o,ho,hc,hd⟩:=id ty;obtain ⟨ol,hol,_,nl,hdl⟩:=hl;unfold Builtin.SmallTypes.nextOf;refine wpAny_bind (wpAny_callSpecial?_slot (name:=Str.ofString "__next__") ty.typeIs F.slot_tuple_iterator_next (wpAny_call_entry F.slot_tuple_iterator_next ty.typeIs F.entry_tuple_iterator_next ?_ (F.args_tuple_iterator_next_1 _)));show wpAny _ _ (field (.ref it) 0 >>= _) _ _ s;refine wpAny_bind (wpAny_field ho hd (x:=.ref l) rfl ?_);show wpAny _ _ (if (Value.ref l == Value.none)=true then _ else _) _ _ s;rw [if_neg (show ¬((Value.ref l == Value.none)=true) from bI)];show wpAny _ _ (field (.ref it) 1 >>= _) _ _ s;refine wpAny_bind (wpAny_field ho hd (x:=.int i 0) rfl ?_);show wpAny _ _ (seqItems? (.ref l) >>= _) _ _ s;refine wpAny_bind (wpAny_seqItems hol hdl ?_);simp only [Int.toNat_natCast,hx];refine wpAny_bind (wpAny_rule (wpAny_bind (wpAny_setField ho hd (by simp) ?_)));show wpAny _ _ (newExc (.type "StopIteration") [] >>= _) _ _ _;refine wpAny_bind ?_;simp only [newExc,newTuple];refine wpAny_bind (wpAny_newObj_type ?_ (by size_fits));refine wpAny_bind (m:=firstArgMember _ _) (wpAny_of_eq (a:=Value.none) (by first | rfl | (simp only [firstArgMember];rfl)) ?_);refine wpAny_newObj_type ?_ (by size_fits);simp only [raiseNew];refine wpAny_bind (wpAny_handled ?_)
  first | rw [show A.in1.handled=none from hh] | rw [hh]
  refine wpAny_bind (wpAny_pure (wpAny_throw ?_));exact hE _ _ (((Heap.SameBut.update ..).extBut.push _).push _) ⟨_,aY _ rfl,rfl⟩
structure WV(b1 b2:Bool)(z TI TO i1 i2 l1 l2:Addr)(f:Value)(k:Nat)(h:Heap):Prop where
 z:IsZip h z TI TO f
 ti:IsPair h TI (.ref i1) (.ref i2)
 to:∃a b,IsPair h TO a b
 i1:xS b1 h i1 l1 k
 i2:xS b2 h i2 l2 k
theorem IR{b1 b2:Bool}{z TI TO i1 i2 l1 l2:Addr}{k:Nat}{xs ys:Array Value}{x y:Value}{Q:Value->Shared->Prop}(D:ZipApart z TI TO i1 i2 l1 l2)(Z:WV b1 b2 z TI TO i1 i2 l1 l2 .none k s.heap)
  (hl1:lN b1 s.heap l1 xs) (hl2:lN b2 s.heap l2 ys) (hx:xs[k]?=some x) (hy:ys[k]?=some y)
  (hQ:∀h',WV b1 b2 z TI TO i1 i2 l1 l2 (rawInt s.heap.objs.size) (k+1) h'->IsPair h' s.heap.objs.size x y->(∀c o,c≠z->c≠TO->c≠i1->c≠i2->s.heap.get? c=some o->h'.get? c=some o)->Q (.ref s.heap.objs.size) { s with heap:=h' }) :
  wpAny (model prog w) A (Builtin.«zip.__next__» ⟨[.ref z],[]⟩) (λfin s'=>∃v,fin=.done (.ret v)/\Q v s') E s:=by
 obtain ⟨hz,hTI,⟨a,b,hTO⟩,h1,h2⟩:=Z;show wpAny _ _ (field (.ref z) 2 >>= _) _ _ _;refine wpAny_bind (wpAny_field hz rfl (x:=.bool false) rfl ?_);show wpAny _ _ (field (.ref z) 3 >>= _) _ _ _;refine wpAny_bind (wpAny_field hz rfl (x:=.ref TI) rfl ?_);refine wpAny_bind (wpAny_seqItems hTI rfl ?_);show wpAny _ _ (Builtin.SmallTypes.ownedTupleIsFree (.ref z) >>= _) _ _ _;refine wpAny_bind ?_;unfold Builtin.SmallTypes.ownedTupleIsFree;refine wpAny_bind (wpAny_field hz rfl (x:=.none) rfl (wpAny_pure ?_));simp only [if_true];refine wpAny_bind (wpAny_rule ?_);refine wpAny_bind (wpAny_field hz rfl (x:=.ref TO) rfl ?_);refine wpAny_bind (wpAny_setField_rec hz (by simp) λh₁ hz₁ hs₁=>?_);have g₁:=hs₁.extBut;replace hz₁:IsZip h₁ z TI TO .ellipsis:=hz₁;refine wpAny_bind ?_;simp only [List.zipIdx_cons,List.zipIdx_nil,List.forIn_cons,List.forIn_nil];refine wpAny_bind (wpAny_bind (wpAny_onRaise ?_));show wpAny _ _ (Builtin.SmallTypes.nextOf (.ref i1) >>= _) _ _ _;refine wpAny_bind (AN (h1.at λo e=>g₁ _ o D.i1z e) (hl1.at λo e=>g₁ _ o D.l1z e) hx λh₂ h1₂ hs₂=>wpAny_pure ?_);have g₂:=hs₂.extBut;have hTO₂:IsPair h₂ TO a b:=g₂ _ _ D.TOi1 (g₁ _ _ D.TOz hTO);refine wpAny_bind (wpAny_seqItems hTO₂ rfl ?_);refine wpAny_bind (wpAny_updateSeq_pair hTO₂ λh₃ hTO₃ hs₃=>?_);have g₃:=hs₃.extBut;replace hTO₃:IsPair h₃ TO x b:=hTO₃;refine wpAny_bind (wpAny_letGo (wpAny_pure ?_));refine wpAny_bind (wpAny_bind (wpAny_onRaise ?_));show wpAny _ _ (Builtin.SmallTypes.nextOf (.ref i2) >>= _) _ _ _
 refine wpAny_bind (AN (h2.at λo e=>g₃ _ o D.TOi2.symm (g₂ _ o D.i12.symm (g₁ _ o D.i2z e))) (hl2.at λo e=>g₃ _ o D.l2TO (g₂ _ o D.l2i1 (g₁ _ o D.l2z e))) hy λh₄ h2₄ hs₄=>wpAny_pure ?_);have g₄:=hs₄.extBut;have hTO₄:IsPair h₄ TO x b:=g₄ _ _ D.TOi2 hTO₃;refine wpAny_bind (wpAny_seqItems hTO₄ rfl ?_);refine wpAny_bind (wpAny_updateSeq_pair hTO₄ λh₅ hTO₅ hs₅=>?_);have g₅:=hs₅.extBut;replace hTO₅:IsPair h₅ TO x y:=hTO₅;refine wpAny_bind (wpAny_letGo (wpAny_pure (wpAny_pure ?_)));refine wpAny_bind (wpAny_seqItems hTO₅ rfl ?_);refine wpAny_bind (wpAny_newTuple ?_);have hsz:h₅.objs.size=s.heap.objs.size:=by rw [hs₅.1,hs₄.1,hs₃.1,hs₂.1,hs₁.1]
 have hz₅:IsZip h₅ z TI TO .ellipsis:=g₅ _ _ D.TOz.symm (g₄ _ _ D.i2z.symm (g₃ _ _ D.TOz.symm (g₂ _ _ D.i1z.symm hz₁)));have hk₅:∀c o,c≠z->c≠TO->c≠i1->c≠i2->s.heap.get? c=some o->h₅.get? c=some o:=λc o c1 c2 c3 c4 e=>g₅ _ _ c2 (g₄ _ _ c4 (g₃ _ _ c2 (g₂ _ _ c3 (g₁ _ _ c1 e))));have h1₅:xS b1 h₅ i1 l1 (k+1):=h1₂.at λo e=>g₅ _ o D.TOi1.symm (g₄ _ o D.i12 (g₃ _ o D.TOi1.symm e));have h2₅:xS b2 h₅ i2 l2 (k+1):=h2₄.at λo e=>g₅ _ o D.TOi2.symm e;have hzlt:=aX hz₅;show wpAny _ _ (Builtin.SmallTypes.ownedTupleHandOut (.ref z) (.ref h₅.objs.size) >>= _) _ _ _;refine wpAny_bind ?_;unfold Builtin.SmallTypes.ownedTupleHandOut;have hz₆:IsZip (h₅.push { cls:=.type "tuple",data:=.seq #[x,y] }) z TI TO .ellipsis:=aB _ hz₅;refine wpAny_bind (wpAny_setField_rec hz₆ (by simp) λh₇ hz₇ hs₇=>?_);replace hz₇:IsZip h₇ z TI TO (rawInt h₅.objs.size):=hz₇;refine wpAny_setField_rec hz₇ (by simp) λh₈ hz₈ hs₈=>?_;replace hz₈:IsZip h₈ z TI TO (rawInt h₅.objs.size):=hz₈;have up:∀c o,c≠z->h₅.get? c=some o->h₈.get? c=some o:=λc o c1 e=>hs₈.extBut _ _ c1 (hs₇.extBut _ _ c1 (aB _ e));have hT₈:IsPair h₈ h₅.objs.size x y:=hs₈.extBut _ _ (Nat.ne_of_gt hzlt) (hs₇.extBut _ _ (Nat.ne_of_gt hzlt) (aY _ rfl));rw [hsz] at hz₈ hT₈;refine wpAny_pure ⟨_,rfl,?_⟩;show Q (.ref h₅.objs.size) _;rw [hsz]
 exact hQ h₈ ⟨hz₈,up _ _ D.TIz (hk₅ _ _ D.TIz D.TITO D.TIi1 D.TIi2 hTI),⟨_,_,up _ _ D.TOz hTO₅⟩,h1₅.at λo e=>up _ o D.i1z e,h2₅.at λo e=>up _ o D.i2z e⟩ hT₈ λc o c1 c2 c3 c4 e=>up c o c1 (hk₅ c o c1 c2 c3 c4 e)
theorem LQ{b1 b2:Bool}{z TI TO i1 i2 l1 l2:Addr}{k:Nat}{xs ys:Array Value}{Q:Fin->Shared->Prop}(hh:A.handled=none)(D:ZipApart z TI TO i1 i2 l1 l2)(Z:WV b1 b2 z TI TO i1 i2 l1 l2 .none k s.heap)
  (hl1:lN b1 s.heap l1 xs) (hl2:lN b2 s.heap l2 ys) (hend:xs[k]?=none\/ys[k]?=none)
  (hE:∀h' e,(∀c o,c≠z->c≠TO->c≠i1->c≠i2->s.heap.get? c=some o->h'.get? c=some o)->(∃o,h'.get? e=some o/\o.cls=.type "StopIteration")->E (.ref e) { s with heap:=h' }) :
  wpAny (model prog w) A (Builtin.«zip.__next__» ⟨[.ref z],[]⟩) Q E s:=by
 obtain ⟨hz,hTI,⟨a,b,hTO⟩,h1,h2⟩:=Z;show wpAny _ _ (field (.ref z) 2 >>= _) _ _ _;refine wpAny_bind (wpAny_field hz rfl (x:=.bool false) rfl ?_);show wpAny _ _ (field (.ref z) 3 >>= _) _ _ _;refine wpAny_bind (wpAny_field hz rfl (x:=.ref TI) rfl ?_);refine wpAny_bind (wpAny_seqItems hTI rfl ?_);show wpAny _ _ (Builtin.SmallTypes.ownedTupleIsFree (.ref z) >>= _) _ _ _;refine wpAny_bind ?_;unfold Builtin.SmallTypes.ownedTupleIsFree;refine wpAny_bind (wpAny_field hz rfl (x:=.none) rfl (wpAny_pure ?_));simp only [if_true];refine wpAny_bind (wpAny_rule ?_);refine wpAny_bind (wpAny_field hz rfl (x:=.ref TO) rfl ?_);refine wpAny_bind (wpAny_setField_rec hz (by simp) λh₁ hz₁ hs₁=>?_);have g₁:=hs₁.extBut;replace hz₁:IsZip h₁ z TI TO .ellipsis:=hz₁;refine wpAny_bind ?_;simp only [List.zipIdx_cons,List.zipIdx_nil,List.forIn_cons,List.forIn_nil];refine wpAny_bind (wpAny_bind (wpAny_onRaise ?_));show wpAny _ _ (Builtin.SmallTypes.nextOf (.ref i1) >>= _) _ _ _;cases hx:xs[k]? with
 | none =>
  refine wpAny_bind (NS hh (h1.at λo e=>g₁ _ o D.i1z e) (hl1.at λo e=>g₁ _ o D.l1z e) hx λh₂ e hs₂ he=>?_);obtain ⟨oe,hoe,hce⟩:=he;have hz₂:IsZip h₂ z TI TO .ellipsis:=hs₂ _ _ D.i1z.symm hz₁;have hez:e≠z:=λx=>by subst x;rw [hz₂] at hoe;cases hoe;simp at hce
  exact wpAny_setField_rec hz₂ (by simp) λh₃ _ hs₃=>hE h₃ e (λc o c1 _ c3 _ x=>hs₃.extBut _ _ c1 (hs₂ _ _ c3 (g₁ _ _ c1 x))) ⟨oe,hs₃.extBut _ _ hez hoe,hce⟩
 | some x =>
  have hy:ys[k]?=none:=by
   rcases hend with h | h
   ·rw [hx] at h;cases h
   ·exact h
  refine wpAny_bind (AN (h1.at λo e=>g₁ _ o D.i1z e) (hl1.at λo e=>g₁ _ o D.l1z e) hx λh₂ h1₂ hs₂=>wpAny_pure ?_);have g₂:=hs₂.extBut;have hTO₂:IsPair h₂ TO a b:=g₂ _ _ D.TOi1 (g₁ _ _ D.TOz hTO);refine wpAny_bind (wpAny_seqItems hTO₂ rfl ?_);refine wpAny_bind (wpAny_updateSeq_pair hTO₂ λh₃ hTO₃ hs₃=>?_);have g₃:=hs₃.extBut;refine wpAny_bind (wpAny_letGo (wpAny_pure ?_));refine wpAny_bind (wpAny_bind (wpAny_onRaise ?_));show wpAny _ _ (Builtin.SmallTypes.nextOf (.ref i2) >>= _) _ _ _;refine wpAny_bind (NS hh (h2.at λo e=>g₃ _ o D.TOi2.symm (g₂ _ o D.i12.symm (g₁ _ o D.i2z e))) (hl2.at λo e=>g₃ _ o D.l2TO (g₂ _ o D.l2i1 (g₁ _ o D.l2z e))) hy λh₄ e hs₄ he=>?_);obtain ⟨oe,hoe,hce⟩:=he;have hz₄:IsZip h₄ z TI TO .ellipsis:=hs₄ _ _ D.i2z.symm (g₃ _ _ D.TOz.symm (g₂ _ _ D.i1z.symm hz₁));have hez:e≠z:=λx=>by subst x;rw [hz₄] at hoe;cases hoe;simp at hce
  exact wpAny_setField_rec hz₄ (by simp) λh₅ _ hs₅=>hE h₅ e (λc o c1 c2 c3 c4 x=>hs₅.extBut _ _ c1 (hs₄ _ _ c4 (g₃ _ _ c2 (g₂ _ _ c3 (g₁ _ _ c1 x))))) ⟨oe,hs₅.extBut _ _ hez hoe,hce⟩
theorem IQ{b1 b2:Bool}{z TI TO i1 i2 l1 l2:Addr}{k:Nat}{xs ys:Array Value}{x y:Value}{Q:Option Value->Shared->Prop}(D:ZipApart z TI TO i1 i2 l1 l2)(Z:WV b1 b2 z TI TO i1 i2 l1 l2 .none k s.heap)
  (hl1:lN b1 s.heap l1 xs) (hl2:lN b2 s.heap l2 ys) (hx:xs[k]?=some x) (hy:ys[k]?=some y)
  (hQ:∀h',WV b1 b2 z TI TO i1 i2 l1 l2 (rawInt s.heap.objs.size) (k+1) h'->IsPair h' s.heap.objs.size x y->(∀c o,c≠z->c≠TO->c≠i1->c≠i2->s.heap.get? c=some o->h'.get? c=some o)->Q (some (.ref s.heap.objs.size)) { s with heap:=h' }) :
  wpAny (model prog w) A (pyNext (.ref z)) Q E s:=by
 have hT:s.TypeIs (.ref z) "zip" := ⟨_,Z.z,rfl⟩;unfold pyNext;refine wpAny_bind (wpAny_attempt (wpAny_callSpecial?_slot (name:=Str.ofString "__next__") hT F.slot_zip_next (wpAny_call_entry F.slot_zip_next hT F.entry_zip_next ?_ (F.args_zip_next_1 _))));exact IR D Z hl1 hl2 hx hy λh' a1 a2 a3=>wpAny_pure (hQ h' a1 a2 a3)
theorem IP{b1 b2:Bool}{z TI TO i1 i2 l1 l2:Addr}{k:Nat}{xs ys:Array Value}{Q:Option Value->Shared->Prop}(hh:A.handled=none)(D:ZipApart z TI TO i1 i2 l1 l2)(Z:WV b1 b2 z TI TO i1 i2 l1 l2 .none k s.heap)
  (hl1:lN b1 s.heap l1 xs) (hl2:lN b2 s.heap l2 ys) (hend:xs[k]?=none\/ys[k]?=none)
  (hQ:∀h',(∀c o,c≠z->c≠TO->c≠i1->c≠i2->s.heap.get? c=some o->h'.get? c=some o)->Q none { s with heap:=h' }):wpAny (model prog w) A (pyNext (.ref z)) Q E s:=by
 have hT:s.TypeIs (.ref z) "zip" := ⟨_,Z.z,rfl⟩;unfold pyNext;refine wpAny_bind (wpAny_attempt (wpAny_callSpecial?_slot (name:=Str.ofString "__next__") hT F.slot_zip_next (wpAny_call_entry F.slot_zip_next hT F.entry_zip_next ?_ (F.args_zip_next_1 _))));refine LQ hh D Z hl1 hl2 hend λh' e hk he=>?_;obtain ⟨o,ho,hc⟩:=he;refine wpAny_bind (wpAny_isInstance (T := "StopIteration") (b:=true) ⟨o,ho,hc⟩ isSubtype_stop ?_);exact wpAny_pure (hQ _ hk)
abbrev itO(b:Bool)(l:Addr):Obj:={ cls:=.type (bif b then "tuple_iterator" else "list_iterator"),data:=.fields #[.ref l,.int 0 0] }
theorem WJ{b:Bool}{l:Addr}{xs:Array Value}{Q:Value->Shared->Prop}(h:lN b s.heap l xs)(q:Q (.ref s.heap.objs.size) { s with heap:=s.heap.push (itO b l) }):wpAny (model prog w) A (pyIter (.ref l)) Q E s:=by
 cases b with
 | false=>exact wpAny_pyIter_list h q
 | true=>exact wpAny_pyIter_tuple h q
end
end L2
namespace L2
open PySem PySem.Spec PyProof.Rows
section
variable{X:Cx}{pins:List (Addr × Obj)}{σ:St}{H:Hp}{s:Shared}{h':Heap}
theorem cE.turnedL{t':Nat}{fp:List Addr}(I:cE X pins σ H s)(k:∀b o,b ∉ fp->s.heap.get? b=some o->h'.get? b=some o)(hf:∀b∈fp,jP X pins H b):cE X pins σ H { s with heap:=h',toks:=t' }:=by
 have nit:∀b u,H b=some u->b ∉ fp:=λb u e z=>by rw [(hf b z).1] at e;cases e
 refine I.step (g':=s.gens) (d':=s.drawn) (ch:=fp) (λb hb=>?_) (λb o _ _ hc e _=>k b o hc e) (λb o _ _ hc e _=>⟨o.slots,k b o hc e⟩) (λ_ _ _ _ n=>n)
  (λb o hc e=>⟨o,k b o hc e⟩) (λ_ _ e=>e) (λ_ _ _ e=>e) (λb ps e=>⟨#[],by rw [e];simp⟩) (λm hm=>?_) (λb u e=>?_) I.bare
 ·obtain ⟨f0,f1,f2,f3,f4,f5⟩:=hf b hb;exact ⟨f3,f1,f4,f5⟩
 ·obtain ⟨o,es,ep,ho,r⟩:=hm;exact ⟨o,es,ep,k _ o (λz=>(hf _ z).2.1 rfl) ho,r⟩
 ·refine (I.hok b u e).stay (λc v hc q=>k c v ?_ q) (λ_ q=>q) λ_ _ q=>q;rcases hc with z | z
  ·rw [z];exact nit b u e
  ·exact nit c _ z
theorem Un.putE{fs ex:List Addr}{H H1:Hp}{h h1:Heap}{a:Addr}{u:HO}(x:Un fs ex H H1 h h1)(ha:h.get? a=none)(hn:H1 a=none):Un fs ex H (upd H1 a u) h h1 where
 keep:=x.keep
 slot:=x.slot
 free:=λb ob e n m=>by rw [bT (λz=>by subst z;rw [ha] at e;cases e)];exact x.free b ob e n m
 there:=x.there
 tups:=λb xs e=>by rw [bT (cU (x.tups b xs e) hn)];exact x.tups b xs e
 frzs:=λb ob xs e=>by rw [bT (cU (x.frzs b ob xs e) hn)];exact x.frzs b ob xs e
 tbls:=λb ps e=>by
  obtain ⟨m,q⟩:=x.tbls b ps e;exact ⟨m,by rw [bT (cU q hn)];exact q⟩
theorem nC.putE{P:Program}{w:World}{h:Heap}{a:Addr}{u:HO}(x:nC P w H h)(hn:H a=none)(new:eI P w (upd H a u) h a u):nC P w (upd H a u) h:=λb v e=>by
 by_cases hb:b=a
 ·subst hb;rw [bH] at e;cases e;exact new
 ·rw [bT hb] at e;exact (x b v e).stay (λc q _ r=>r) (λc q=>by rw [bT (cU q hn)];exact q) λc xs q=>by rw [bT (cU q hn)];exact q
theorem cE.put{a:Addr}{o:HO}(I:cE X pins σ H s)(f:jP X pins H a)(hs:X.s₀.heap.get? a=none)(new:eI X.prog X.w (upd H a o) s.heap a o):cE X pins σ (upd H a o) s :=
 ⟨I.ok,I.os,I.bare,I.base.putE hs f.1,I.loc,I.cell,by rw [bT (Ne.symm f.2.1)];exact I.free,λx c e=>by rw [bT (f.2.2.2.2.1 x c e)];exact I.freeC x c e,λp hp=>by
  obtain ⟨q1,q2,q3⟩:=I.pin p hp;exact ⟨q1,by rw [bT (f.2.2.2.2.2 p hp)];exact q2,q3⟩,nC.putE I.hok f.1 new,I.len⟩
def BO(b:Bool)(xs:List V):HO:=bif b then .tup xs else .lst xs
theorem BO.inj{b:Bool}{xs ys:List V}(h:some (BO b xs)=some (BO b ys)):xs=ys:=by
 cases b <;> (injection h with h;injection h)
theorem cE.sq{b:Bool}{a:Addr}{xs:List V}(I:cE X pins σ H s)(h:H a=some (BO b xs)):∃its:List Value,cV xs its/\lN b s.heap a its.toArray:=by
 cases b with
 | false=>obtain ⟨its,r,p,_⟩:=I.list (fS.of h);exact ⟨its,r,p.isList⟩
 | true=>obtain ⟨its,r,p,_⟩:=I.tuple (eZ.of h);exact ⟨its,r,p⟩
end
def Itz(b1 b2:Bool)(l1 l2:Addr):It :=
  ⟨λi H=>∃xs ys x y,H l1=some (BO b1 xs)/\H l2=some (BO b2 ys)/\xs[i]?=some x/\ys[i]?=some y,
   λi H v H'=>∃q x y,v=.ref q/\H q=none/\H'=upd H q (.tup [x,y])/\∀xs ys,H l1=some (BO b1 xs)->H l2=some (BO b2 ys)->xs[i]?=some x/\ys[i]?=some y,
   λi H=>∃xs ys,H l1=some (BO b1 xs)/\H l2=some (BO b2 ys)/\(xs.length<=i\/ys.length<=i)⟩
structure ZD(z TI TO i1 i2:Addr):Prop where
 TIz:TI≠z
 TOz:TO≠z
 i1z:i1≠z
 i2z:i2≠z
 TITO:TI≠TO
 TIi1:TI≠i1
 TIi2:TI≠i2
 TOi1:TO≠i1
 TOi2:TO≠i2
 i12:i1≠i2
theorem ZD.seq(n:Nat):ZD (n+4) (n+2) (n+3) n (n+1) where
 TIz:=λh=>absurd (show (n+2:Nat)=n+4 from h) Oo
 TOz:=λh=>absurd (show (n+3:Nat)=n+4 from h) Oo
 i1z:=λh=>absurd (show (n:Nat)=n+4 from h) Oo
 i2z:=λh=>absurd (show (n+1:Nat)=n+4 from h) Oo
 TITO:=λh=>absurd (show (n+2:Nat)=n+3 from h) Oo
 TIi1:=λh=>absurd (show (n+2:Nat)=n from h) Oo
 TIi2:=λh=>absurd (show (n+2:Nat)=n+1 from h) Oo
 TOi1:=λh=>absurd (show (n+3:Nat)=n from h) Oo
 TOi2:=λh=>absurd (show (n+3:Nat)=n+1 from h) Oo
 i12:=λh=>absurd (show (n:Nat)=n+1 from h) Oo
theorem ZD.all{z TI TO i1 i2 l1 l2:Addr}(d:ZD z TI TO i1 i2){H:Hp}{o1 o2:HO}(e1:H l1=some o1)(e2:H l2=some o2)(h:∀b∈[z,TI,TO,i1,i2],H b=none):ZipApart z TI TO i1 i2 l1 l2 :=
 ⟨d.TIz,d.TOz,d.i1z,d.i2z,d.TITO,d.TIi1,d.TIi2,d.TOi1,d.TOi2,d.i12,cU e1 (h _ (by simp)),cU e1 (h _ (by simp)),cU e1 (h _ (by simp)),cU e1 (h _ (by simp)),cU e2 (h _ (by simp)),cU e2 (h _ (by simp)),cU e2 (h _ (by simp)),cU e2 (h _ (by simp))⟩
theorem MC{P:Program}{w:World}{K:PySem.W.Frag}{elts:List Expr}{x1}{tp:Pos}{b1 b2:Bool}{z TI TO i1 i2 l1 l2:Addr}(d:ZD z TI TO i1 i2):GC P w K (.Tuple elts x1 tp) (Itz b1 b2 l1 l2) [z,TI,TO,i1,i2] z (λi h=>WV b1 b2 z TI TO i1 i2 l1 l2 .none i h) where
 mem:=by simp
 obj:=λi h st b hb=>by
  obtain ⟨a,b',ht⟩:=st.to;obtain ⟨o1,e1,_,d1⟩:=st.i1;obtain ⟨o2,e2,_,d2⟩:=st.i2;simp only [aT,List.not_mem_nil,or_false] at hb;rcases hb with rfl | rfl | rfl | rfl | rfl
  ·exact ⟨_,st.z,λv q=>by cases q⟩
  ·exact ⟨_,st.ti,λv q=>by cases q⟩
  ·exact ⟨_,ht,λv q=>by cases q⟩
  ·exact ⟨_,e1,λv q=>by rw [d1] at q;cases q⟩
  ·exact ⟨_,e2,λv q=>by rw [d2] at q;cases q⟩
 keep:=λi h h' st k=>by
  obtain ⟨a,b,ht⟩:=st.to;exact ⟨k _ (by simp) _ st.z,k _ (by simp) _ st.ti,⟨a,b,k _ (by simp) _ ht⟩,st.i1.at λo e=>k _ (by simp) o e,st.i2.at λo e=>k _ (by simp) o e⟩
 item:=by
  intro X hP hw hK hc i pins s σ H E I hf st hg;subst hP hw hK;obtain ⟨xs,ys,x,y,e1,e2,hx,hy⟩:=hg;obtain ⟨u1,r1,p1⟩:=I.sq e1;obtain ⟨u2,r2,p2⟩:=I.sq e2;obtain ⟨ux,hux,rx⟩:=r1.get hx;obtain ⟨uy,huy,ry⟩:=r2.get hy;have D:=d.all e1 e2 λb hb=>(hf b hb).1;refine IQ D st p1 p2 (x:=ux) (y:=uy) (by simpa using hux) (by simpa using huy) λh' Z' hp hk=>?_;refine ⟨_,rfl,wpAny_letOwnedTupleGo_zip Z'.z λh2 hz2 hs2=>?_⟩;have kk:∀b o,b ∉ [z,TI,TO,i1,i2]->s.heap.get? b=some o->h2.get? b=some o:=λb o hb e=>by
   simp only [aT,List.not_mem_nil,or_false,not_or] at hb;exact hs2.extBut b o hb.1 (hk b o hb.1 hb.2.2.1 hb.2.2.2.1 hb.2.2.2.2 e)
  have I1:cE X pins σ H { s with heap:=h2 }:=I.turnedL (t':=s.toks) kk hf;have fq:jP X pins H s.heap.objs.size:=I.fpOk (aJ _) (I.hok.fresh (aJ _));have e0:X.s₀.heap.get? s.heap.objs.size=none:=by
   cases q:X.s₀.heap.get? s.heap.objs.size with
   | none=>rfl
   | some o=>exact absurd (aV (aX q) I.sz) (cP _)
  have nz:s.heap.objs.size≠z:=λq=>absurd (aX st.z) (by rw [<-q];exact cP _);obtain ⟨a,b,ht⟩:=Z'.to;refine ⟨.ref s.heap.objs.size,upd H s.heap.objs.size (.tup [x,y]),I1.put fq e0 ⟨⟨pC (by show 2<=64;decide),_,hs2.extBut _ _ nz hp,rfl⟩,[ux,uy],.cons rx (.cons ry .nil),⟨_,hs2.extBut _ _ nz hp,rfl,_,rfl⟩⟩,rfl,⟨_,x,y,rfl,fq.1,rfl,λxs' ys' q1 q2=>?_⟩,
   ⟨hz2,hs2.extBut _ _ d.TIz Z'.ti,⟨a,b,hs2.extBut _ _ d.TOz ht⟩,Z'.i1.at λo e=>hs2.extBut _ o d.i1z e,Z'.i2.at λo e=>hs2.extBut _ o d.i2z e⟩,λb hb=>?_⟩
  ·rw [e1] at q1;rw [e2] at q2;rw [<-BO.inj q1,<-BO.inj q2];exact ⟨hx,hy⟩
  ·have nb:b≠s.heap.objs.size:=λq=>by
    obtain ⟨a',b',ht'⟩:=st.to;obtain ⟨o1,e1',_⟩:=st.i1;obtain ⟨o2,e2',_⟩:=st.i2;have lt:∀{c o},s.heap.get? c=some o->c≠s.heap.objs.size:=λe=>bW (aX e);simp only [aT,List.not_mem_nil,or_false] at hb;rcases hb with rfl | rfl | rfl | rfl | rfl
    ·exact lt st.z q
    ·exact lt st.ti q
    ·exact lt ht' q
    ·exact lt e1' q
    ·exact lt e2' q
   rw [bT nb];exact (hf b hb).1
 done:=by
  intro X hP hw hK hc i pins s σ H E I hf st hg;subst hP hw hK;obtain ⟨xs,ys,e1,e2,hl⟩:=hg;obtain ⟨u1,r1,p1⟩:=I.sq e1;obtain ⟨u2,r2,p2⟩:=I.sq e2;have D:=d.all e1 e2 λb hb=>(hf b hb).1;have l1:=r1.length;have l2:=r2.length;have hend:u1.toArray[i]?=none\/u2.toArray[i]?=none:=by
   rcases hl with h | h
   ·left;simp;omega
   ·right;simp;omega
  refine IP (I.ok.hd hc) D st p1 p2 hend λh' hk=>⟨rfl,I.turnedL (t':=s.toks) (λb o hb e=>?_) hf⟩;simp only [aT,List.not_mem_nil,or_false,not_or] at hb;exact hk b o hb.1 hb.2.2.1 hb.2.2.2.1 hb.2.2.2.2 e
 self:=λ_ _ _ _ _ st h=>wpAny_pyIter_zip st.z h
abbrev zA(b:Bool)(h:Heap)(l:Addr):Heap:=h.push (itO b l)
abbrev zB(b1 b2:Bool)(h:Heap)(l1 l2:Addr):Heap:=(zA b1 h l1).push (itO b2 l2)
abbrev zC(b1 b2:Bool)(h:Heap)(l1 l2:Addr):Heap:=(zB b1 b2 h l1 l2).push { cls:=.type "tuple",data:=.seq #[.ref h.objs.size,.ref (zA b1 h l1).objs.size] }
abbrev zE(b1 b2:Bool)(h:Heap)(l1 l2:Addr):Heap:=(zC b1 b2 h l1 l2).push { cls:=.type "tuple",data:=.seq #[.none,.none] }
abbrev zF(b1 b2:Bool)(h:Heap)(l1 l2:Addr):Heap:=(zE b1 b2 h l1 l2).push { cls:=.type "zip",data:=.fields #[.none,.bool false,.bool false,.ref (zB b1 b2 h l1 l2).objs.size,.ref (zC b1 b2 h l1 l2).objs.size] }
theorem aAg(b1 b2:Bool)(l1 l2:Addr)(xs ys:Array Value):Meets (Builtin.«zip.__new__» ⟨[.type "zip",.ref l1,.ref l2],[]⟩) (λ_ R s=>lN b1 s.heap l1 xs/\lN b2 s.heap l2 ys/\R (.ok (.ret (.ref (zE b1 b2 s.heap l1 l2).objs.size))) { s with heap:=zF b1 b2 s.heap l1 l2 }) :=
 .of_wp λprog w A R s h=>by
  obtain ⟨hp,g,d,tk,os⟩:=s;obtain ⟨hl1,hl2,h⟩:=h;have hsub:=sub_zip;have hL1:lN b1 (Shared.heap ⟨hp,g,d,tk,os⟩) l1 xs:=hl1;have hL2:lN b2 (Shared.heap ⟨hp.push (itO b1 l1),g,d,tk,os⟩) l2 ys:=hl2.at λo e=>aB _ e
  wp_walk using WJ hL1,WJ hL2
  exact ⟨_,rfl,h⟩
section
variable{prog:Program}{w:World}{A:Around}{E:Value->Shared->Prop}{s:Shared}
theorem aB5{b1 b2:Bool}{l1 l2:Addr}{xs ys:Array Value}{Q:Value->Shared->Prop}(hl1:lN b1 s.heap l1 xs)(hl2:lN b2 s.heap l2 ys)
  (h:∀h',WV b1 b2 (s.heap.objs.size+4) (s.heap.objs.size+2) (s.heap.objs.size+3) s.heap.objs.size (s.heap.objs.size+1) l1 l2 .none 0 h'->(∀c o,s.heap.get? c=some o->h'.get? c=some o)->Q (.ref (s.heap.objs.size+4)) { s with heap:=h' }) :
  wpAny (model prog w) A (call (.type "zip") [.ref l1,.ref l2]) Q E s:=by
 refine callType_new F.called_zip Dd (F.typeCall_zip_2 _ _) (F.newCall_zip_2 _ _) (λobj=>F.args_object_init_3 obj _ _) F.entry_zip_new (aAg b1 b2 l1 l2 xs ys) ⟨hl1,hl2,?_⟩;have z1:(zA b1 s.heap l1).objs.size=s.heap.objs.size+1:=gB ..;have z2:(zB b1 b2 s.heap l1 l2).objs.size=s.heap.objs.size+2:=by rw [gB,z1]
 have z3:(zC b1 b2 s.heap l1 l2).objs.size=s.heap.objs.size+3:=by rw [gB,z2]
 have z4:(zE b1 b2 s.heap l1 l2).objs.size=s.heap.objs.size+4:=by rw [gB,z3]
 have g5:(zF b1 b2 s.heap l1 l2).get? (zE b1 b2 s.heap l1 l2).objs.size=some _:=aY _ rfl;have g4:(zF b1 b2 s.heap l1 l2).get? (zC b1 b2 s.heap l1 l2).objs.size=some _:=aB _ (aY _ rfl);have g3:(zF b1 b2 s.heap l1 l2).get? (zB b1 b2 s.heap l1 l2).objs.size=some _:=aB _ (aB _ (aY _ rfl));have g2:(zF b1 b2 s.heap l1 l2).get? (zA b1 s.heap l1).objs.size=some _:=aB _ (aB _ (aB _ (aY _ rfl)));have g1:(zF b1 b2 s.heap l1 l2).get? s.heap.objs.size=some _:=aB _ (aB _ (aB _ (aB _ (aY _ rfl))));show _/\_;rw [z2,z3,z4] at g5;rw [z1,z2] at g3;rw [z3] at g4;rw [z1] at g2;rw [z4];exact ⟨⟨_,g5,rfl⟩,h _ ⟨g5,g3,⟨_,_,g4⟩,⟨_,g1,rfl,rfl⟩,⟨_,g2,rfl,rfl⟩⟩ λc o x=>aB _ (aB _ (aB _ (aB _ (aB _ x))))⟩
end
def aBX(b1 b2:Bool)(ta:TA):TI:=λσ H R=>ta σ H λvs H1=>∃l1 l2 xs ys,vs=[.ref l1,.ref l2]/\H1 l1=some (BO b1 xs)/\H1 l2=some (BO b2 ys)/\R (Itz b1 b2 l1 l2) H1
theorem QA:bootBuiltins (Str.ofString "zip")=some (Value.type "zip"):=Kk
section
variable{X:Cx}
theorem ZK{a b:Expr}{ta:TA}{p pos tp:Pos}{elts:List Expr}{x1}{b1 b2:Bool}(hg:Gl X "zip")(hm:X.mg "zip" = none)(ha:PA X [a,b] ta)(hs:starEach [a,b] X.env=[(false,eval a X.env),(false,eval b X.env)])(hs2:starEach [b] X.env=[(false,eval b X.env)]) :
  PI X (.Tuple elts x1 tp) (.Call (.Name "zip" p) [a,b] [] pos) (aBX b1 b2 ta):=by
 intro pins s σ H R I h;refine Call_ (sN I hg hm QA (PyProof.Rows.callWith_type1 (thn (ha pos pins s σ H _ I h) λus s1 ⟨vs,H1,I1,r1,q1⟩=>?_) (by rw [hs,hs2]) (by rw [hs2];rfl)));obtain ⟨l1,l2,xs,ys,e,e1,e2,q⟩:=q1;subst e;cases r1 with
 | cons r rr =>
  cases rr with
  | cons r' rr =>
   cases rr;cases r;cases r';obtain ⟨u1,_,p1⟩:=I1.sq e1;obtain ⟨u2,_,p2⟩:=I1.sq e2;refine aB5 p1 p2 λh' Z kk=>wpAny_pyIter_zip Z.z ?_;refine ⟨_,[s1.heap.objs.size+4,s1.heap.objs.size+2,s1.heap.objs.size+3,s1.heap.objs.size,s1.heap.objs.size+1],_,_,H1,rfl,I1.kept (t':=s1.toks) kk,MC (ZD.seq _),Z,λb hb=>?_,q⟩;have hle:s1.heap.objs.size<=b:=by
    simp only [aT,List.not_mem_nil,or_false] at hb;rcases hb with rfl | rfl | rfl | rfl | rfl
    ·exact Nat.le_add_right _ _
    ·exact Nat.le_add_right _ _
    ·exact Nat.le_add_right _ _
    ·exact aJ _
    ·exact Nat.le_add_right _ _
   exact I1.fpOk hle (I1.hok.fresh hle)
theorem EE(b1 b2:Bool){a b:Expr}{ta:TA}{p pos tp:Pos}{elts:List Expr}{x1}(hg:Gl X "zip")(hm:X.mg "zip" = none)(ha:LL X [a,b] ta)(hs:starEach [a,b] X.env=[(false,eval a X.env),(false,eval b X.env)]:=by rfl)(hs2:starEach [b] X.env=[(false,eval b X.env)]:=by first | exact gQ | exact gR | exact dO | rfl) :
  WX X (.Tuple elts x1 tp) (.Call (.Name "zip" p) [a,b] [] pos) (aBX b1 b2 ta):=⟨ZK hg hm ha.p hs hs2⟩
end
theorem UJ{b1 b2:Bool}{l1 l2:Addr}{xs ys:List V}{g:TG}{tb:TS}{D:tI}{σ:St}{H:Hp}(Pv:Nat->St->Hp->Prop)(h0:Pv 0 σ H)(hl:∀i σ H,Pv i σ H->H l1=some (BO b1 xs)/\H l2=some (BO b2 ys))
  (hs:∀i x y q σ H H',xs[i]?=some x->ys[i]?=some y->Pv i σ H->H q=none->H' q=some (.tup [x,y])->bC H H'->g (.ref q) σ H' λσ2 H2=>tb { D with nx:=Pv (i+1),ct:=Pv (i+1),bk:=D.nx } σ2 H2) (hd:∀σ H,Pv (min xs.length ys.length) σ H->D.nx σ H) :
  ∃W:Nat->Nat->St->Hp->Prop,(∃m,W 0 m σ H)/\∀i m σ H,W i m σ H ->
   ((Itz b1 b2 l1 l2).stop i H/\D.nx σ H)\/((Itz b1 b2 l1 l2).go i H/\∃N:St->Hp->Prop,(∀σ' H',N σ' H'->∃m',m' < m/\W (i+1) m' σ' H')/\∀x H',(Itz b1 b2 l1 l2).yld i H x H'->g x σ H' λσ2 H2=>tb { D with nx:=N,ct:=N,bk:=D.nx } σ2 H2):=by
 refine ⟨λi m σ H=>m=min xs.length ys.length-i/\i<=min xs.length ys.length/\Pv i σ H,⟨_,rfl,cC _,h0⟩,?_⟩;rintro i m σ H ⟨rfl,hi,p⟩;obtain ⟨q1,q2⟩:=hl i σ H p;by_cases hlt:i<min xs.length ys.length
 ·have hx:xs[i]?=some xs[i]:=aC Oo;have hy:ys[i]?=some ys[i]:=aC Oo;refine .inr ⟨⟨xs,ys,_,_,q1,q2,hx,hy⟩,Pv (i+1),λσ' H' p'=>⟨_,Oo,rfl,hlt,p'⟩,λv H' y=>?_⟩;obtain ⟨q,x,y,rfl,hq,rfl,hh⟩:=y;obtain ⟨h1,h2⟩:=hh xs ys q1 q2;exact hs i x y q σ H _ h1 h2 p hq bH (bC.upd hq)
 ·have e:i=min xs.length ys.length:=Oo;subst e;refine .inl ⟨⟨xs,ys,q1,q2,?_⟩,hd σ H p⟩;omega
end L2
namespace L2
open PySem
def mW:List Value->List Int->Bool
 | [],[]=>true
 | .int i _::vs,n::ns=>decide (i=n)&&mW vs ns
 | _,_=>false
def qB(K:PySem.W.Frag)(a:Addr)(ns:List Int):Bool :=
 match K.lookup a with
 | some o=>(match o.cls with | .type n=>n == "tuple" | _=>false)&&(match o.data with | .seq xs _=>decide (xs.size<=64)&&mW xs.toList ns | _=>false)
 | none=>false
theorem mW.vals:∀{vs:List Value}{ns:List Int},mW vs ns=true->cV (ns.map V.int) vs
 | [],[],_=>.nil
 | v::vs,n::ns,h=>by
  cases v with
  | int i t =>
   have h':(decide (i=n)&&mW vs ns)=true:=h;rw [cY] at h';have e:=of_decide_eq_true h'.1;subst e;exact .cons ⟨t,rfl⟩ (mW.vals h'.2)
  | _=>cases h
 | [],_::_,h=>by cases h
 | v::_,[],h=>by cases v <;> cases h
theorem nQ{K:PySem.W.Frag}{H:Hp}{a:Addr}{ns:List Int}(h:qB K a ns=true):eZ K H a (ns.map V.int):=by
 unfold qB at h;split at h
 ·rename_i o ho
  rw [cY] at h;obtain ⟨h1,h2⟩:=h;split at h1
  ·rename_i n hn
   split at h2
   ·rename_i xs m hx
    rw [cY] at h2;have e:n = "tuple" := by simpa using h1
    subst e;exact .inr ⟨o,xs,m,ho,hn,hx,pC (of_decide_eq_true h2.1),mW.vals h2.2⟩
   ·cases h2
  ·cases h1
 ·cases h
theorem eZ.keep{K:PySem.W.Frag}{H H':Hp}{a:Addr}{xs:List V}(s:bC H H')(h:eZ K H a xs):eZ K H' a xs:=by
 rcases h with (h | ⟨o,h⟩) | h
 ·exact .inl (.inl (s _ _ h))
 ·exact .inl (.inr ⟨o,s _ _ h⟩)
 ·exact .inr h
mutual
def iE(K:PySem.W.Frag)(H:Hp):PyData->V->Prop
 | .none,v=>v=.non
 | .bool b,v=>v=.bl b
 | .int i,v=>v=.int i
 | .str x,v=>v=.str x
 | .list ds,v=>∃a xs,v=.ref a/\H a=some (.lst xs)/\fP K H ds xs
 | .tuple ds,v=>∃a xs,v=.ref a/\eZ K H a xs/\fP K H ds xs
 | .dict kvs,v=>kvs=[]/\∃a,v=.ref a/\H a=some (.dK [])
def fP(K:PySem.W.Frag)(H:Hp):List PyData->List V->Prop
 | [],vs=>vs=[]
 | d::ds,vs=>∃x xs,vs=x::xs/\iE K H d x/\fP K H ds xs
end
mutual
theorem cO.k{K:PySem.W.Frag}{H:Hp}:∀{d:PyData}{v:V},cO H d v->iE K H d v
 | .none,_,h=>h
 | .bool _,_,h=>h
 | .int _,_,h=>h
 | .str _,_,h=>h
 | .list ds,_,h=>by
  unfold cO at h;unfold iE;obtain ⟨a,xs,rfl,h1,h2⟩:=h;exact ⟨a,xs,rfl,h1,bD.k h2⟩
 | .tuple ds,_,h=>by
  unfold cO at h;unfold iE;obtain ⟨a,xs,rfl,h1,h2⟩:=h;exact ⟨a,xs,rfl,eZ.of h1,bD.k h2⟩
 | .dict kvs,_,h=>by unfold cO at h;unfold iE;exact h
theorem bD.k{K:PySem.W.Frag}{H:Hp}:∀{ds:List PyData}{vs:List V},bD H ds vs->fP K H ds vs
 | [],_,h=>h
 | d::ds,_,h=>by
  unfold bD at h;unfold fP;obtain ⟨x,xs,rfl,h1,h2⟩:=h;exact ⟨x,xs,rfl,cO.k h1,bD.k h2⟩
end
theorem iE.tup{K:PySem.W.Frag}{H:Hp}{a:Addr}{xs:List V}{ds:List PyData}(h:eZ K H a xs)(r:fP K H ds xs):iE K H (.tuple ds) (.ref a):=by
 unfold iE;exact ⟨a,xs,rfl,h,r⟩
theorem fP.ints{K:PySem.W.Frag}{H:Hp}:∀ns:List Int,fP K H (ns.map PyData.int) (ns.map V.int)
 | []=>by unfold fP;rfl
 | n::ns=>by unfold fP;exact ⟨_,_,rfl,by unfold iE;rfl,fP.ints ns⟩
section
variable{X:Cx}{pins:List (Addr × Obj)}{σ:St}{H:Hp}{s:Shared}
mutual
theorem iE.reads(I:cE X pins σ H s):∀{d:PyData}{v:V}{u:Value},iE X.K H d v->dH v u->∃as,Reads s.heap u d as
 | .none,_,u,h,r=>by
  cases (show _=V.non from h);cases (show u=Value.none from r);exact ⟨_,.none⟩
 | .bool b,_,u,h,r=>by
  cases (show _=V.bl b from h);cases (show u=Value.bool b from r);exact ⟨_,.bool b⟩
 | .int b,_,u,h,r=>by
  cases (show _=V.int b from h);obtain ⟨t,q⟩:=(show ∃t,u=Value.int b t from r);cases q;exact ⟨_,.int b t⟩
 | .str b,_,u,h,r=>by
  cases (show _=V.str b from h);obtain ⟨t,q⟩:=(show ∃t,u=Value.str b t from r);cases q;exact ⟨_,.str b t⟩
 | .list ds,v,u,h,r=>by
  unfold iE at h;obtain ⟨a,xs,rfl,h1,h2⟩:=h;cases (show u=Value.ref a from r);obtain ⟨_,its,n,r',e⟩:=(show eI X.prog X.w H s.heap a (.lst xs) from I.hok a _ h1);obtain ⟨as,q⟩:=fP.reads I h2 r';exact ⟨_,.list e rfl rfl (by simpa using q)⟩
 | .tuple ds,v,u,h,r=>by
  unfold iE at h;obtain ⟨a,xs,rfl,h1,h2⟩:=h;cases (show u=Value.ref a from r);obtain ⟨its,r',⟨o,e,hc,n,hd⟩,_⟩:=I.tuple h1;obtain ⟨as,q⟩:=fP.reads I h2 r';exact ⟨_,.tuple e hc hd (by simpa using q)⟩
 | .dict kvs,v,u,h,r=>cO.reads I (d:=.dict kvs) (by unfold cO;unfold iE at h;exact h) r
theorem fP.reads(I:cE X pins σ H s):∀{ds:List PyData}{vs:List V}{us:List Value},fP X.K H ds vs->cV vs us->∃as,ReadsAll s.heap us ds as
 | [],_,us,h,r=>by
  cases (show _=[] from h);cases r;exact ⟨_,.nil⟩
 | d::ds,_,us,h,r=>by
  unfold fP at h;obtain ⟨x,xs,rfl,h1,h2⟩:=h;cases r with
  | cons r1 r2 =>
   obtain ⟨as,q1⟩:=iE.reads I h1 r1;obtain ⟨bs,q2⟩:=fP.reads I h2 r2;exact ⟨_,.cons q1 q2⟩
end
end
@[irreducible] def JN(K:PySem.W.Frag)(b:Bool):R2:=λx y H Q=>∃d d',iE K H d x/\iE K H d' y/\SeqAt.shaped d=true/\SeqAt.shaped d'=true/\Q (.bl (b == PyData.eqv d d')) H
section
variable{X:Cx}
theorem ZZ(K:PySem.W.Frag)(hu:X.A.units+64<cLine)(hK:X.K=K:=by rfl):mN X (compareOp .Eq) (JN K true):=by
 subst hK;unfold JN;intro pins s σ H x y v u Q I rx ry h;obtain ⟨d,d',h1,h2,s1,s2,q⟩:=h;obtain ⟨as,ra⟩:=h1.reads I rx;obtain ⟨bs,rb⟩:=h2.reads I ry;exact SeqAt.compareEq_shaped ra rb s1 s2 hu ⟨.bl _,H,I,by show _=_;simp,q⟩
theorem AM(K:PySem.W.Frag)(hu:X.A.units+64<cLine)(hK:X.K=K:=by rfl):mN X (compareOp .NotEq) (JN K false):=by
 subst hK;unfold JN;intro pins s σ H x y v u Q I rx ry h;obtain ⟨d,d',h1,h2,s1,s2,q⟩:=h;obtain ⟨as,ra⟩:=h1.reads I rx;obtain ⟨bs,rb⟩:=h2.reads I ry;exact SeqAt.compareNe_shaped ra rb s1 s2 hu ⟨.bl _,H,I,by show _=_;simp,q⟩
end
section
variable{K:PySem.W.Frag}{H:Hp}{p:Addr}{xs:List V}{i:Int}{v:V}{Q:VK}
theorem reK{b:Bool}{x y:V}{d d':PyData}(h1:iE K H d x)(h2:iE K H d' y)(s1:SeqAt.shaped d=true)(s2:SeqAt.shaped d'=true)(q:Q (.bl (b == PyData.eqv d d')) H):JN K b x y H Q:=by
 unfold JN;exact ⟨d,d',h1,h2,s1,s2,q⟩
theorem mF(h:eZ K H p xs)(e:EB xs i=some v)(q:Q v H):rIx K (.ref p) (.int i) H Q:=.inr (.inl ⟨p,xs,i,v,rfl,rfl,h,e,q⟩)
theorem rlK(h:eZ K H p xs)(q:Q (.int xs.length) H):xN K [V.ref p] H Q:=by unfold xN;exact ⟨_,_,rfl,.inr ⟨xs,h,rfl⟩,q⟩
end
theorem UQ(xs:List V)(k:Nat):oQ xs (some (k:Int)) none=xs.drop k:=by
 unfold oQ;rw [HT.GR,HT.CB];by_cases h:k<=xs.length
 ·rw [Nat.min_eq_left h];exact List.take_of_length_le (by rw [List.length_drop];exact aJ _)
 ·rw [Nat.min_eq_right Oo,List.drop_of_length_le (aJ _),List.drop_of_length_le Oo,List.take_nil]
theorem IE(xs:List V)(k:Nat):oQ xs none (some (k:Int))=xs.take k:=by
 unfold oQ;rw [HT.GR,HT.CB,List.drop_zero,Nat.sub_zero];by_cases h:k<=xs.length
 ·rw [Nat.min_eq_left h]
 ·rw [Nat.min_eq_right Oo,List.take_of_length_le (aJ _),List.take_of_length_le Oo]
section
variable{σ:St}{js:List Nat}{te:TE}{H:Hp}{Q:VK}
theorem vI{R:Nat->V->Prop}{ys:List V}{y:V}(h:∀(j:Nat) z,ys[j]?=some z->R j z)(r:R ys.length y):∀(j:Nat) z,(ys++[y])[j]?=some z->R j z:=λj z hj=>by
 by_cases hji:j<ys.length
 ·rw [List.getElem?_append_left hji] at hj;exact h j z hj
 ·rw [List.getElem?_append_right Oo] at hj;have:j-ys.length=0:=by
   by_cases q:j-ys.length=0
   ·exact q
   ·rw [bO (by simp;omega)] at hj;cases hj
  rw [this] at hj;have hj':y=z:=by simpa using hj
  have:j=ys.length:=Oo;subst this hj';exact r
theorem sR{J:It}{n:Nat}(src:Nat->V->Prop)(R:Nat->V->Hp->Prop)(hR:∀i y H1 H2,dX H1 H2->R i y H1->R i y H2)(hz:n<=100000)
  (hg:∀i H',bC H H'->i<n->J.go i H'/\∀x H3,J.yld i H' x H3->H3=H'/\src i x) (hst:∀H',bC H H'->J.stop n H')
  (hs:∀i x H' (Q':VK),src i x->i<n->bC H H'->(∀y H5,bC H' H5->R i y H5->Q' y H5)->te (some x::slots σ js) H' Q')
  (hd:∀D ys H',H D=none->H' D=some (.lst ys)->bC H H'->ys.length=n->(∀(i:Nat) (y:V),ys[i]?=some y->R i y H')->Q (.ref D) H'):mL J σ js xH te H Q:=by
 refine DL (J:=J) (n:=n) src hz (λD i ys H'=>H D=none/\bC H H'/\∀(i:Nat) (y:V),ys[i]?=some y->R i y H') (λD H1 hD _ s=>⟨hD,s,λi y h=>by simp at h⟩)
  (λD i ys H' hi _ p=>hg i H' p.2.1 hi) (λD ys H' _ p=>hst H' p.2.1) (λD i x ys H' hx hi hy hD p=>?_) (λD ys H' hy hD hD' p=>hd D ys H' hD hD' p.2.1 hy p.2.2)
 refine hs i x H' _ hx hi p.2.1 λy H5 s5 r=>?_;refine ⟨s5 _ _ hD,λH6 hD6 s6=>⟨p.1,bC.thru p.1 (p.2.1.trans s5) s6,?_⟩⟩;have t6:=s6.t (s5 _ _ hD);exact vI (R:=λj z=>R j z H6) (λj z hj=>hR j z _ _ (s5.t.trans t6) (p.2.2 j z hj)) (by rw [hy];exact hR i y _ _ t6 r)
theorem sS{K:PySem.W.Frag}{a:Addr}{xs:List V}(R:Nat->V->Hp->Prop)(hR:∀i y H1 H2,dX H1 H2->R i y H1->R i y H2)(hz:xs.length<=100000)(hl:H a=some (.lst xs))
  (hs:∀i x H' (Q':VK),xs[i]?=some x->bC H H'->(∀y H5,bC H' H5->R i y H5->Q' y H5)->te (some x::slots σ js) H' Q')
  (hd:∀D ys H',H D=none->H' D=some (.lst ys)->bC H H'->ys.length=xs.length->(∀(i:Nat) (y:V),ys[i]?=some y->R i y H')->Q (.ref D) H'):mL (Itl K a) σ js xH te H Q :=
 sR (λi x=>xs[i]?=some x) R hR hz (λi H' s hi=>⟨⟨xs,xs[i],fS.of (s _ _ hl),by simp [hi]⟩,λx H3 y=>⟨y.1,y.2 xs (fS.of (s _ _ hl))⟩⟩) (λH' s=>⟨xs,fS.of (s _ _ hl),aJ _⟩)
  (λi x H' Q' hx _ s k=>hs i x H' Q' hx s k) hd
theorem iP{K:PySem.W.Frag}{a:Addr}{xs:List V}(R:Nat->V->Hp->Prop)(hR:∀i y H1 H2,dX H1 H2->R i y H1->R i y H2)(hz:xs.length<=100000)(hl:H a=some (.tup xs))
  (hs:∀i x H' (Q':VK),xs[i]?=some x->bC H H'->(∀y H5,bC H' H5->R i y H5->Q' y H5)->te (some x::slots σ js) H' Q')
  (hd:∀D ys H',H D=none->H' D=some (.lst ys)->bC H H'->ys.length=xs.length->(∀(i:Nat) (y:V),ys[i]?=some y->R i y H')->Q (.ref D) H'):mL (Itt K a) σ js xH te H Q :=
 sR (λi x=>xs[i]?=some x) R hR hz (λi H' s hi=>⟨⟨xs,xs[i],eZ.of (s _ _ hl),by simp [hi]⟩,λx H3 y=>⟨y.1,y.2 xs (eZ.of (s _ _ hl))⟩⟩) (λH' s=>⟨xs,eZ.of (s _ _ hl),aJ _⟩)
  (λi x H' Q' hx _ s k=>hs i x H' Q' hx s k) hd
theorem kI{lo:Int}{n:Nat}(R:Nat->V->Hp->Prop)(hR:∀i y H1 H2,dX H1 H2->R i y H1->R i y H2)(hz:n<=100000)
  (hs:∀i H' (Q':VK),i<n->bC H H'->(∀y H5,bC H' H5->R i y H5->Q' y H5)->te (some (.int (lo+(i:Nat)))::slots σ js) H' Q')
  (hd:∀D ys H',H D=none->H' D=some (.lst ys)->bC H H'->ys.length=n->(∀(i:Nat) (y:V),ys[i]?=some y->R i y H')->Q (.ref D) H'):mL (XA lo n) σ js xH te H Q :=
 sR (λi x=>x=.int (lo+(i:Nat))) R hR hz (λi H' s hi=>⟨hi,λx H3 y=>y⟩) (λH' s=>aJ _)
  (λi x H' Q' hx hi s k=>by subst hx;exact hs i H' Q' hi s k) hd
theorem aU.thru{p l:Addr}{H0 H1 H2:Hp}(hl:H0 l=none)(s:aU p H0 H1)(b:aU l H1 H2):aU p H0 H2:=λc o e=>by
 have n:=fF.ne e;have e0:H0 c=some o:=by rw [fF.at n] at e;exact e
 have nl:c≠l:=λz=>by subst z;rw [hl] at e0;cases e0
 exact fF.of n (b.at nl (s.at n e0))
end
theorem bD.ofIdx{H:Hp}:∀{ds:List PyData}{ys:List V},ys.length=ds.length->(∀(i:Nat) (y:V),ys[i]?=some y->∃d,ds[i]?=some d/\cO H d y)->bD H ds ys
 | [],[],_,_=>bD.nil
 | d::ds,y::ys,hl,h=>by
  obtain ⟨d',e,r⟩:=h 0 y rfl;cases (show d=d' by simpa using e);exact bD.cons r (bD.ofIdx (by simpa using hl) λi z hz=>by simpa using h (i+1) z (by simpa using hz))
 | [],_::_,hl,_=>by simp at hl
 | _::_,[],hl,_=>by simp at hl
theorem uU{P:Nat->Int->Prop}:∀{ys:List V},(∀(i:Nat) (y:V),ys[i]?=some y->∃n,y=.int n/\P i n)->∃ns:List Int,ys=ns.map V.int/\∀(i:Nat) n,ns[i]?=some n->P i n
 | [],_=>⟨[],rfl,λi n h=>by simp at h⟩
 | y::ys,h=>by
  obtain ⟨n,rfl,hn⟩:=h 0 y rfl;obtain ⟨ns,rfl,hs⟩:=uU (P:=λi=>P (i+1)) (ys:=ys) λi z hz=>h (i+1) z (by simpa using hz);refine ⟨n::ns,rfl,λi m hm=>?_⟩;cases i with
  | zero=>cases (show n=m by simpa using hm);exact hn
  | succ i=>exact hs i m (by simpa using hm)
end L2
namespace L2
open PySem PySem.Spec PyProof.Rows
theorem iD.u1{k:Nat}{A:Around}(r:iD k A):A.units+1<cLine:=by have:=r.units;omega
@[irreducible] def WD:R2:=λx y H Q=>∃a v,x=.ref a/\iS H a y (some v)/\Q v H
@[irreducible] def rDP(D:tI)(σ:St)(x y v:V)(H:Hp):Prop:=∃a H4,x=.ref a/\BN H a y v H4/\D.nx σ H4
def VU(td ty tv:TE):TS:=λD σ H=>tv σ H λv H1=>td σ H1 λx H2=>ty σ H2 λy H3=>rDP D σ x y v H3
structure VG(X:Cx)(pos:Pos)(keys:List (Option Expr))(values:List Expr)(trs:List (TE × TE)):Prop where p:PPs X pos keys values trs
section
variable{X:Cx}{o i value k v:Expr}{td ty tv tk:TE}{pos pos':Pos}{ks:List (Option Expr)}{vs:List Expr}{trs:List (TE × TE)}
theorem gM(hu:X.A.units+1<cLine)(ho:fY X o td)(hi:fY X i ty)(hs:aAZ i:=by intro _ _;rfl):fY X (.Subscript o i pos) (RD WD td ty):=⟨by unfold WD;exact TC hu ho.p hi.p hs⟩
theorem jW(hu:X.A.units+1<cLine)(ho:fY X o td)(hi:fY X i ty)(hv:fY X value tv)(hs:swapsWith value (some (.Subscript o i pos')) pos.line X.env=pure false:=by rfl) :
  GE X (.Assign [.Subscript o i pos'] value pos) (VU td ty tv):=⟨by unfold VU rDP;exact SS hu ho.p hi.p hv.p hs⟩
theorem QW:VG X pos [] [] []:=⟨pps_nil⟩
theorem uZ(hk:fY X k tk)(hv:fY X v tv)(hr:VG X pos ks vs trs):VG X pos (some k::ks) (v::vs) ((tk,tv)::trs):=⟨NG hk.p hv.p hr.p⟩
theorem QX(h:VG X pos ks vs trs)(hall:ks.all (·.isSome)=true:=by rfl)(hl:ks.length=vs.length:=by rfl)(h0:ks≠[]:=by intro h;cases h)(h15:ks.length<=15:=by decide):fY X (.Dict ks vs pos) (VT trs):=⟨SZ h.p hall hl h0 h15⟩
end
theorem dgS{H:Hp}{p:Addr}{kvs:List (dP × V)}{x:Str}{v:V}{Q:VK}(e:H p=some (.dK kvs))(hv:dU kvs (.inr x)=some v)(q:Q v H):WD (.ref p) (.str x) H Q:=by
 unfold WD;exact ⟨p,v,rfl,hv ▸ iS.k (k:=.inr x) e,q⟩
theorem dpS{H:Hp}{p:Addr}{kvs kvs2:List (dP × V)}{x:Str}{v:V}{D:tI}{σ:St}(e:H p=some (.dK kvs))(hl:kvs.length<=64)(hk:iQ kvs (.inr x) v=kvs2)(q:∀H',H' p=some (.dK kvs2)->aU p H H'->D.nx σ H') :
  rDP D σ (.ref p) (.str x) v H:=by
 unfold rDP;exact ⟨p,_,rfl,BN.k (k:=.inr x) e (bB hl Dd),q _ (by rw [hk];exact bH) aU.self⟩
theorem aU.tD{H H':Hp}{p:Addr}(s:aU p H H'){xs:List (dP × V)}(hp:H p=some (.dK xs)):dX H H':=λb ys h=>s.at (vX h hp (by intro z;cases z)) h
structure oS(p:Addr)(Fd:Nat->Hp->Prop):Prop where
 but:∀n D H1 H2,D≠p->aU D H1 H2->Fd n H1->Fd n H2
 same:∀n H1 H2,bC H1 H2->Fd n H1->Fd n H2
 dic:∀n H',Fd n H'->∃xs,H' p=some (.dK xs)
section
variable{σ:St}{js:List Nat}{te:TE}{H:Hp}{Q:VK}
theorem oS.np{p:Addr}{Fd:Nat->Hp->Prop}(fl:oS p Fd){n:Nat}{H':Hp}{D:Addr}(F:Fd n H')(h:H' D=none):D≠p:=λe=>by
 obtain ⟨xs,hp⟩:=fl.dic n H' F;subst e;rw [hp] at h;cases h
theorem US{J:It}{n:Nat}{p:Addr}{Fd:Nat->Hp->Prop}(fl:oS p Fd)(F0:Fd 0 H)(src:Nat->V->Prop)(R:Nat->V->Hp->Prop)(hR:∀i y H1 H2,dX H1 H2->R i y H1->R i y H2)(hz:n<=100000)
  (hg:∀i H',aU p H H'->i<n->J.go i H'/\∀x H3,J.yld i H' x H3->H3=H'/\src i x) (hst:∀H',aU p H H'->J.stop n H')
  (hs:∀i x H' (Q':VK),src i x->i<n->Fd i H'->aU p H H'->(∀y H5,Fd (i+1) H5->aU p H' H5->R i y H5->Q' y H5)->te (some x::slots σ js) H' Q')
  (hd:∀D ys H',H D=none->H' D=some (.lst ys)->Fd n H'->aU p H H'->ys.length=n->(∀(i:Nat) (y:V),ys[i]?=some y->R i y H')->Q (.ref D) H'):mL J σ js xH te H Q:=by
 refine DL (J:=J) (n:=n) src hz (λD i ys H'=>H D=none/\Fd i H'/\aU p H H'/\∀(i:Nat) (y:V),ys[i]?=some y->R i y H') (λD H1 hD _ s=>⟨hD,fl.same _ _ _ s F0,s.but,λi y h=>by simp at h⟩)
  (λD i ys H' hi _ q=>hg i H' q.2.2.1 hi) (λD ys H' _ q=>hst H' q.2.2.1) (λD i x ys H' hx hi hy hD q=>?_) (λD ys H' hy hD hD' q=>hd D ys H' hD hD' q.2.1 q.2.2.1 hy q.2.2.2)
 have np:=fl.np F0 q.1;refine hs i x H' _ hx hi q.2.1 q.2.2.1 λy H5 F5 s5 r=>?_;obtain ⟨xs,hp⟩:=fl.dic _ H' q.2.1;have hD5:=s5.at np hD;refine ⟨hD5,λH6 hD6 s6=>⟨q.1,fl.but _ D _ _ np s6 F5,aU.thru q.1 (q.2.2.1.trans s5) s6,?_⟩⟩;have t6:=s6.t hD5;exact vI (R:=λj z=>R j z H6) (λj z hj=>hR j z _ _ ((s5.tD hp).trans t6) (q.2.2.2 j z hj)) (by rw [hy];exact hR i y _ _ t6 r)
theorem PD{lo:Int}{n:Nat}{p:Addr}{Fd:Nat->Hp->Prop}(fl:oS p Fd)(F0:Fd 0 H)(R:Nat->V->Hp->Prop)(hR:∀i y H1 H2,dX H1 H2->R i y H1->R i y H2)(hz:n<=100000)
  (hs:∀i H' (Q':VK),i<n->Fd i H'->aU p H H'->(∀y H5,Fd (i+1) H5->aU p H' H5->R i y H5->Q' y H5)->te (some (.int (lo+(i:Nat)))::slots σ js) H' Q')
  (hd:∀D ys H',H D=none->H' D=some (.lst ys)->Fd n H'->aU p H H'->ys.length=n->(∀(i:Nat) (y:V),ys[i]?=some y->R i y H')->Q (.ref D) H'):mL (XA lo n) σ js xH te H Q :=
 US fl F0 (λi x=>x=.int (lo+(i:Nat))) R hR hz (λi H' s hi=>⟨hi,λx H3 y=>y⟩) (λH' s=>aJ _)
  (λi x H' Q' hx hi f s k=>by subst hx;exact hs i H' Q' hi f s k) hd
end
section
variable{X:Cx}
@[irreducible] def HB(K:PySem.W.Frag):R2:=λx y H Q=>∃a b xs ys,x=.ref a/\y=.ref b/\H a=some (.tup xs)/\H b=some (.tup ys)/\xs.length+ys.length<=1000/\∀c H',bC H H'->H' c=some (.tup (xs++ys))->Q (.ref c) H'
theorem LB{K:PySem.W.Frag}{H:Hp}{Q:VK}{a b:Addr}{xs ys:List V}(h1:H a=some (.tup xs))(h2:H b=some (.tup ys))(hz:xs.length+ys.length<=1000)(k:∀c H',bC H H'->H' c=some (.tup (xs++ys))->Q (.ref c) H'):HB K (.ref a) (.ref b) H Q:=by
 unfold HB;exact ⟨a,b,xs,ys,rfl,rfl,h1,h2,hz,k⟩
theorem pF(K:PySem.W.Frag)(hK:X.K=K:=by rfl):mN X (binaryOp .Add) (HB K):=by
 subst hK;unfold HB;intro pins s σ H x y v u Q I rx ry h;obtain ⟨a,b,xs,ys,rfl,rfl,ha,hb,hz,q⟩:=h;by_cases hx:xs=[]
 ·cases rx;cases ry;subst hx;obtain ⟨its,r1,p1,_⟩:=I.tuple (eZ.of ha);obtain ⟨its2,r2,p2,_⟩:=I.tuple (eZ.of hb);cases r1;obtain ⟨⟨cls,dd,data,sl⟩,ho,hc,n,hd⟩:=id p1;obtain ⟨⟨cls2,dd2,data2,sl2⟩,ho2,hc2,n2,hd2⟩:=id p2;simp only at hc hd hc2 hd2;subst hc hd hc2 hd2;exact concat_meets ⟨_,ho,rfl⟩ ⟨_,ho2,rfl⟩ noFill_tuple_add seq_tuple_add PySem.F.slot_tuple_add PySem.F.entry_tuple_add (PySem.F.args_tuple_add_2 _ _)
   (tuple_addW0 a b _ _ n n2 dd dd2 sl sl2 rfl) ⟨ho,ho2,⟨.ref b,H,I,rfl,q b H (bC.refl _) hb⟩⟩
 ·refine TM pins s σ H _ _ v u Q I rx ry ⟨a,b,xs,ys,rfl,rfl,eZ.of ha,eZ.of hb,hx,aQ hz Dd,λe=>?_,λ_ p hp=>q p _ (bC.upd hp) bH⟩;subst e;exact q a H (bC.refl _) (by rw [List.append_nil];exact ha)
@[irreducible] def SI:V->List V->Hp->VK->Prop:=λx vs H Q=>∃a,∃(ns:List Int) (m:Int),x=.ref a/\vs=[.int m]/\H a=some (.tup (ns.map V.int))/\Q (.int (ns.count m:Nat)) H
theorem aDu{H:Hp}{a:Addr}{ns:List Int}{m:Int}{Q:VK}(h:H a=some (.tup (ns.map V.int)))(q:Q (.int (ns.count m:Nat)) H):SI (.ref a) [.int m] H Q:=by
 unfold SI;exact ⟨a,ns,m,rfl,rfl,h,q⟩
theorem uB{m:Int}:∀{ns:List Int}{us:List Value},cV (ns.map V.int) us->us.countP (eqU (.int m))=ns.count m
 | [],_,h=>by cases h;rfl
 | n::ns,_,h=>by
  cases h with
  | cons r hr =>
   obtain ⟨t,rfl⟩:=r;rw [List.countP_cons,uB hr,List.count_cons];have e:eqU (.int m) (.int n t)=(n == m):=by
    show WQ (.int n) (.int m)=_;simp [WQ]
   rw [e]
theorem aAe:MtR X "tuple.count" SI:=by
 unfold SI;intro pins s σ H x vs v us Q I rx rv h;obtain ⟨a,ns,m,rfl,rfl,hH,q⟩:=h;cases rx;obtain ⟨u,rfl,ru⟩:=jJ rv;obtain ⟨t,rfl⟩:=(show ∃t,u=Value.int m t from ru);obtain ⟨its,r,p,_⟩:=I.tuple (eZ.of hH);obtain ⟨⟨cls,dd,data,sl⟩,ho,hc,n,hd⟩:=id p;simp only at hc hd;subst hc hd;have fl:∀ns:List Int,(ns.map V.int).all tX=true:=λns=>by induction ns with | nil=>rfl | cons a l ih=>show (tX (V.int a)&&(l.map V.int).all tX)=true;rw [ih];rfl
 refine call_meets F.slot_tuple_count ⟨_,ho,rfl⟩ F.entry_tuple_count (F.args_tuple_count_2 _ _) (SeqAt.tuple_countAt a its.toArray n dd sl (.int m t) (eqU (.int m))) ⟨ho,λy hy=>CO (x:=.int m) ⟨t,rfl⟩ rfl r (fl ns) y (by simpa using hy),?_⟩;rw [show its.toArray.toList=its from rfl,uB r];exact ⟨.int _,H,I.tok _,⟨_,rfl⟩,q⟩
end
theorem wG(a:Int)(t:Tok)(l:Addr)(items:Array Value)(n:Nat)(dd:Option Addr)(sl:Array (Option Value)) :
  Meets (Builtin.«int.__rmul__» ⟨[.int a t,.ref l],[]⟩) (λ_ R s=>s.heap.get? l=some { cls:=.type "tuple",dict:=dd,data:=.seq items n,slots:=sl }/\R (.ok (.ret Value.notImplemented)) s) :=
 .of_wp λprog w A R s h=>by
  obtain ⟨hp,g,d,tk,os⟩:=s;obtain ⟨hl,h⟩:=h
  wp_walk
  exact ⟨_,rfl,h⟩
theorem EJ(l:Addr)(items:Array Value)(n:Nat)(dd:Option Addr)(sl:Array (Option Value))(k:Int)(u:Tok)(h0:2<=k)(h1:k<=64)(he:items.isEmpty=false)(hz:items.size<=64)(hsz:((List.replicate k.toNat items).foldl (· ++ ·) #[]).size<=sizeLine) :
  Meets (Builtin.«tuple.__mul__» ⟨[.ref l,.int k u],[]⟩) (λ_ R s=>s.heap.get? l=some { cls:=.type "tuple",dict:=dd,data:=.seq items n,slots:=sl }/\R (.ok (.ret (.ref s.heap.objs.size))) { s with heap:=s.heap.push { cls:=.type "tuple",data:=.seq ((List.replicate k.toNat items).foldl (· ++ ·) #[]) } }) :=
 .of_wp λprog w A R s h=>by
  obtain ⟨hp,g,d,tk,os⟩:=s;obtain ⟨hl,h⟩:=h;have f1:=AutoSeq1.idx_int
  wp_walk using wpAny_loadPart' hl
  rw [if_neg (by simp;omega)]
  wp_walk using wpAny_loadPart' hl
  have he':¬items=#[]:=λz=>by simp [z] at he
  have hm:(items.size:Int)*k<=4096:=by
   have h2:(items.size:Int)*k<=64*64:=Int.mul_le_mul Oo h1 Oo Oo;omega
  rw [if_neg (by simp;exact ⟨he',Oo⟩)];rw [if_neg (by simp;exact ⟨Oo,he'⟩)];show wpAny _ _ (if (items.size:Int)*k > (2^63-1)/8 then _ else _) _ _ _;rw [if_neg Oo];show wpAny _ _ (if Builtin.Tuple.tupleTooMany (items.size*k)=true then _ else _) _ _ _;rw [if_neg (by unfold Builtin.Tuple.tupleTooMany;simp;exact Int.le_trans hm Dd)]
  wp_walk
  exact ⟨_,rfl,h⟩
theorem sK:fillsNumberSlot (.type "tuple") "mul" = pure false:=PySem.fillsNumberSlot_seq (id := "tuple.__mul__") (r:=some (.builtin "tuple.__rmul__")) F.slot_tuple_mul.lookup Kk F.slot_tuple_rmul.lookup Kk
theorem AG:seqRepeat? (.type "tuple")=pure (some (.builtin "tuple.__mul__")):=by
 unfold seqRepeat?;rw [PySem.seqSlot_of (T := "tuple") (name := "__mul__") (id := "tuple.__mul__") F.slot_tuple_mul.lookup Kk,PySem.seqSlot_of (T := "tuple") (name := "__rmul__") (id := "tuple.__rmul__") F.slot_tuple_rmul.lookup Kk];rfl
@[irreducible] def GX:R2:=λx y H Q=>∃a z,∃k:Nat,x=.ref a/\y=.int (k:Int)/\H a=some (.tup [z])/\2<=k/\k<=64/\∀c H',bC H H'->H' c=some (.tup (List.replicate k z))->Q (.ref c) H'
theorem aBR{H:Hp}{Q:VK}{a:Addr}{z:V}{k:Nat}(h:H a=some (.tup [z]))(h2:2<=k)(hk:k<=64)(q:∀c H',bC H H'->H' c=some (.tup (List.replicate k z))->Q (.ref c) H'):GX (.ref a) (.int (k:Int)) H Q:=by
 unfold GX;exact ⟨a,z,k,rfl,rfl,h,h2,hk,q⟩
section
variable{X:Cx}
theorem HF:mN X (binaryOp .Mult) GX:=by
 unfold GX;intro pins s σ H x y v u Q I rx ry h;obtain ⟨a,z,k,rfl,rfl,hH,h2,hk,q⟩:=h;cases rx;obtain ⟨t,rfl⟩:=(show ∃t,u=Value.int (k:Int) t from ry);obtain ⟨its,r,p,_⟩:=I.tuple (eZ.of hH);obtain ⟨w1,rfl,rw1⟩:=jJ r;obtain ⟨⟨cls,dd,data,sl⟩,ho,hc,n,hd⟩:=id p;simp only at hc hd;subst hc hd;have flat1:∀k:Nat,(List.replicate k [w1]).flatten=List.replicate k w1:=λk=>by
  induction k with
  | zero=>rfl
  | succ k ih=>rw [List.replicate_succ,List.flatten_cons,ih,List.replicate_succ];rfl
 have f0:List.foldl (λx1 x2=>x1++x2) #[] (List.replicate k [w1].toArray)=(List.replicate k w1).toArray:=by
  have:=sO [w1] k [];rw [List.nil_append,flat1] at this;exact this
 have vr:∀k:Nat,cV (List.replicate k z) (List.replicate k w1):=λk=>by
  induction k with
  | zero=>exact .nil
  | succ k ih=>exact .cons rw1 ih
 generalize hk':(k:Int)=kk;have hkk:kk.toNat=k:=Oo;refine wpAny_binaryOp_repeat_ref (T := "tuple") (U := "int") Dd ⟨_,ho,rfl⟩ (λs'=>typeIs_int s' kk t) sK F.fills_int_mul F.slot_int_rmul AG F.slot_int_index.lookup
  (call_meets F.slot_int_rmul (typeIs_int s kk t) F.entry_int_rmul (F.args_int_rmul_2 _ _) (wG kk t a [w1].toArray n dd sl) ⟨ho,rfl,⟨_,ho,rfl⟩,?_⟩)
 refine call_meets F.slot_tuple_mul ⟨_,ho,rfl⟩ F.entry_tuple_mul (F.args_tuple_mul_2 _ _) (EJ a [w1].toArray n dd sl kk t Oo Oo rfl (by show 1<=64;decide) (by rw [hkk,f0,aW,cB];exact aQ hk Dd)) ⟨ho,?_⟩;rw [hkk,f0];refine ⟨.ref _,_,I.laid (t':=s.toks) (o:=.tup (List.replicate k z)) (λb ob q=>aB _ q) (aJ _) ?_,rfl,q _ _ (bC.upd (I.hok.fresh (aJ _))) bH⟩;exact ⟨⟨by rw [cB];exact pC hk,_,aY _ rfl,rfl⟩,_,vr k,IsTup.new _ _⟩
end
@[irreducible] def SG:V->List V->Hp->VK->Prop:=HA
theorem FM{X:Cx}:MtR X "list.extend" SG:=by unfold SG;exact JY
theorem aAA{H:Hp}{l b:Addr}{xs zs:List V}{Q:VK}(h:H l=some (.lst xs))(h2:H b=some (.lst zs))(hz:xs.length+zs.length<=1000)(k:∀H',H' l=some (.lst (xs++zs))->aU l H H'->Q .non H'):SG (.ref l) [.ref b] H Q:=by
 unfold SG;exact ⟨l,b,xs,zs,rfl,rfl,h,h2,Nat.le_of_lt (sD hz),k _ bH aU.self⟩
section
variable{prog:Program}{w:World}{A:Around}{E:Value->Shared->Prop}{s:Shared}{l:Addr}{xs:Array (Int × Tok)}
theorem ML{Q:Value->Shared->Prop}(hh:A.handled=none)(hl:s.heap.IsTuple l (intItems xs))
  (h:∀h' tk t',(∀b o,s.heap.get? b=some o->h'.get? b=some o)->Q (.int (preSum (numAt xs) xs.size) t') { s with heap:=h',toks:=tk }) :
  wpAny (model prog w) A (call (.builtin "sum") [.ref l]) Q E s:=by
 have hlt:l<s.heap.objs.size:=by obtain ⟨_,e,_⟩:=hl;exact aX e
 refine call_sum_walkG (wpAny_pyIter_tuple hl ?_);refine ⟨_,[_,l],[_],_,_,_,numAt xs,rfl,Walks.tuple (A:=A.in1) hh _ l (bW hlt) (intItems xs),⟨⟨_,aY _ rfl,rfl,rfl⟩,hl.push _⟩,λc hc=>?_,(λ_ _=>intItems_at),λh' tk t' hk=>?_⟩
 ·show c<(s.heap.push _).objs.size;rw [gB];rcases aT.mp hc with rfl | hc
  ·exact Nat.lt_succ_self _
  ·rcases aT.mp hc with rfl | hc
   ·exact Nat.lt_succ_of_lt hlt
   ·cases hc
 ·have:=h h' tk t' λc o e=>by
   refine hk c o (λhm=>?_) (aB _ e);rcases aT.mp hm with e1 | hm
   ·exact absurd (e1 ▸ aX e) (cP _)
   ·cases hm
  simpa [intItems] using this
end
@[irreducible] def GU(K:PySem.W.Frag):List V->Hp->VK->Prop:=λxs H Q=>∃(p:Addr) (ns:List Int),xs=[.ref p]/\eZ K H p (ns.map V.int)/\Q (.int ns.sum) H
theorem rsT{K:PySem.W.Frag}{H:Hp}{p:Addr}{ns:List Int}{Q:VK}(h:eZ K H p (ns.map V.int))(q:Q (.int ns.sum) H):GU K [.ref p] H Q:=by unfold GU;exact ⟨p,ns,rfl,h,q⟩
theorem BC{X:Cx}(K:PySem.W.Frag)(hc:X.calm=true)(hK:X.K=K:=by rfl):fX X (.builtin "sum") (GU K):=by
 subst hK;unfold GU;intro pins s σ H xs us Q I r h;obtain ⟨p,ns,rfl,hq,q⟩:=h;obtain ⟨u,rfl,rx⟩:=jJ r;cases rx;obtain ⟨its,r',pl,hz⟩:=I.tuple hq;have hi:=mV r';obtain ⟨xs',e⟩:=hi.allInts.items;rw [e] at pl;refine ML (I.ok.hd hc) pl λh' tk t' hk=>⟨.int ns.sum,H,I.kept hk,⟨t',?_⟩,q⟩;rw [preSum_eq,List.take_of_length_le (by simp)];rw [<-hi.numsOf];have e2:its=(intItems xs').toList:=by rw [<-e]
 rw [e2,nums_intItems]
section
variable{js:List Nat}{te:TE}{tc:TT}{σ:St}{H:Hp}{Q:VK}
theorem bD.atI{α:Type}{g:α->PyData}:∀{as:List α}{xs:List V},bD H (as.map g) xs->∀{i:Nat}{x:V},xs[i]?=some x->∃a,as[i]?=some a/\cO H (g a) x:=by
 intro as xs r i x e;obtain ⟨d,h1,h2⟩:=r.get e;rw [aE] at h1;cases q:as[i]? with
 | none=>rw [q] at h1;cases h1
 | some a=>rw [q] at h1;cases h1;exact ⟨a,rfl,h2⟩
theorem KU{K:PySem.W.Frag}{a:Addr}{xs:List V}{α:Type}{g:α->PyData}{as:List α}(r:bD H (as.map g) xs)(p:α->Bool)(hz:xs.length<=100000)(hl:H a=some (.lst xs))
  (ht:∀x c H' (Q':Bool->Hp->Prop),c∈as->cO H' (g c) x->bC H H'->(∀H5,bC H' H5->Q' (p c) H5)->tc (some x::slots σ js) H' Q')
  (he:∀x H' (Q':VK),Q' x H'->te (some x::slots σ js) H' Q')
  (hd:∀D ys H',H D=none->H' D=some (.lst ys)->bC H H'->bD H' ((as.filter p).map g) ys->Q (.ref D) H'):mL (Itl K a) σ js tc te H Q:=by
 unfold mL;intro D hD;have hlen:xs.length=as.length:=by rw [r.len,aA]
 refine ⟨λi m ys H'=>m=xs.length-i/\i<=xs.length/\H' D=some (.lst ys)/\bC H H'/\bD H (((as.take i).filter p).map g) ys/\ys.length<=i,⟨xs.length,by simp,cC _,bH,bC.upd hD,bD.nil,aJ _⟩,?_⟩;rintro i m ys H2 ⟨rfl,hi,hD2,s2,ry,hy⟩;refine ⟨hD2,?_⟩;by_cases hlt:i<xs.length
 ·have hx:xs[i]?=some xs[i]:=aC hlt;refine .inr ⟨⟨xs,_,fS.of (s2 _ _ hl),hx⟩,bB (m:=100000) Oo Dd,λx H3 hy3=>?_⟩;obtain ⟨rfl,hx3⟩:=hy3;have hx3:=hx3 xs (fS.of (s2 _ _ hl));obtain ⟨c,hc,rc⟩:=r.atI hx3;have hti:as.take (i+1)=as.take i++[c]:=by rw [eJ,hc];rfl
  refine ⟨λb H4=>b=p c/\bC H3 H4,ht x c H3 _ (aZ hc) (rc.same s2) s2 λH5 s5=>⟨rfl,s5⟩,?_⟩;rintro b H4 ⟨rfl,s4⟩;by_cases hp:p c=true
  ·rw [if_pos hp];refine ⟨λy H5=>y=x/\H5=H4,he x H4 _ ⟨rfl,rfl⟩,?_⟩;rintro y H5 ⟨rfl,rfl⟩;refine ⟨s4 _ _ hD2,_,?_,rfl,hlt,bH,bC.thru hD (s2.trans s4) aU.self,?_,?_⟩
   ·omega
   ·rw [hti,List.filter_append,bM];have:List.filter p [c]=[c]:=by simp [hp]
    rw [this];exact bD.snoc ry rc
   ·rw [bF,List.length_singleton];omega
  ·rw [if_neg hp];refine ⟨s4 _ _ hD2,_,?_,rfl,hlt,s4 _ _ hD2,s2.trans s4,?_,?_⟩
   ·omega
   ·rw [hti,List.filter_append];have:List.filter p [c]=[]:=by simp [hp]
    rw [this,List.append_nil];exact ry
   ·omega
 ·have e:i=xs.length:=Oo;subst e;refine .inl ⟨⟨xs,fS.of (s2 _ _ hl),aJ _⟩,hd D ys H2 hD hD2 s2 ?_⟩;rw [hlen,cQ] at ry;exact ry.same s2
end
end L2
namespace Mf
def lw(n d:Int):Int × Int:=(n/(Int.gcd n d:Int),d/(Int.gcd n d:Int))
structure VI(n d:Int):Prop where
 pos:0<d
 low:Int.gcd n d=1
theorem hZ{n d:Int}(h:0<d):0<(Int.gcd n d:Int):=by
 have:=Int.gcd_pos_of_ne_zero_right n (Int.ne_of_gt h);omega
theorem gA{n d:Int}(h:0<d):VI (lw n d).1 (lw n d).2:=by
 have g:=hZ (n:=n) h;refine ⟨?_,?_⟩
 ·exact Int.ediv_pos_of_pos_of_dvd h (Int.le_of_lt g) (Int.gcd_dvd_right n d)
 ·exact Int.gcd_ediv_gcd_ediv_gcd Oo
theorem NZ{n d:Int}:(lw n d).1*(Int.gcd n d:Int)=n/\(lw n d).2*(Int.gcd n d:Int)=d :=
 ⟨Int.ediv_mul_cancel (Int.gcd_dvd_left n d),Int.ediv_mul_cancel (Int.gcd_dvd_right n d)⟩
theorem oK{n d:Int}:(lw n d).1*d=n*(lw n d).2:=by
 obtain ⟨e1,e2⟩:=NZ (n:=n) (d:=d);generalize (lw n d).1=a at *;generalize (lw n d).2=b at *;generalize (Int.gcd n d:Int)=g at *;rw [<-e1,<-e2];rw [Int.mul_assoc,Int.mul_comm g b]
theorem HY{b a d:Int}(h:b ∣ a*d)(g:Int.gcd b a=1):b ∣ d:=by
 rw [<-Int.natAbs_dvd_natAbs,jI] at h;rw [<-Int.natAbs_dvd_natAbs];rw [Int.gcd_eq_natAbs_gcd_natAbs] at g;exact Nat.Coprime.dvd_of_dvd_mul_left g h
theorem CQ{a b c d:Int}(h1:VI a b)(h2:VI c d)(e:a*d=c*b):a=c/\b=d:=by
 have d1:b ∣ d:=by
  have:b ∣ a*d:=by rw [e];exact Int.dvd_mul_left c b
  exact HY this (by rw [Int.gcd_comm];exact h1.low)
 have d2:d ∣ b:=by
  have:d ∣ c*b:=by rw [<-e];exact Int.dvd_mul_left a d
  exact HY this (by rw [Int.gcd_comm];exact h2.low)
 have hb:=h1.pos;have hd:=h2.pos;have e1:b=d:=Int.dvd_antisymm (Int.le_of_lt hb) (Int.le_of_lt hd) d1 d2;subst e1;exact ⟨Int.eq_of_mul_eq_mul_right Oo e,rfl⟩
theorem sM{a b n d:Int}(h:VI a b)(hd:0<d)(e:a*d=n*b):lw n d=(a,b):=by
 have c:=oK (n:=n) (d:=d);have q:=CQ (gA (n:=n) hd) h (by
  have hd':d≠0:=Oo;apply Int.eq_of_mul_eq_mul_right hd'
  calc (lw n d).1*b*d=((lw n d).1*d)*b:=by rw [Int.mul_assoc,Int.mul_comm b d,<-Int.mul_assoc]
   _=(n*(lw n d).2)*b:=by rw [c]
   _=(n*b)*(lw n d).2:=by rw [Int.mul_assoc,Int.mul_comm (lw n d).2 b,<-Int.mul_assoc]
   _=(a*d)*(lw n d).2:=by rw [e]
   _=a*(lw n d).2*d:=by rw [Int.mul_assoc,Int.mul_comm d,<-Int.mul_assoc])
 exact Prod.ext q.1 q.2
theorem rN{u a b:Int}(h1:Int.gcd u a=1)(h2:Int.gcd u b=1):Int.gcd u (a*b)=1:=by
 rw [Int.gcd_eq_natAbs_gcd_natAbs] at *;rw [jI];exact Nat.Coprime.mul_right h1 h2
theorem kW{a b c:Int}(h:Int.gcd a b=1)(d:c ∣ b):Int.gcd a c=1:=by
 have:=Int.gcd_dvd_gcd_of_dvd_right a d;rw [h] at this;exact Nat.eq_one_of_dvd_one this
theorem iK{a b c:Int}(h:Int.gcd a b=1)(d:c ∣ a):Int.gcd c b=1:=by
 rw [Int.gcd_comm] at *;exact kW h d
theorem SU{a b c d:Int}(h1:VI a b)(h2:VI c d) :
  let g:Int:=Int.gcd b d
  let u:=a*(d/g)+c*(b/g)
  let l:Int:=Int.gcd u g
  lw (a*d+c*b) (b*d)=(u/l,(b/g)*(d/l)):=by
 intro g u l;have hg:0<g:=hZ h2.pos;have hl:0<l:=hZ hg;obtain ⟨b',eb⟩:=Int.gcd_dvd_left b d;obtain ⟨d',ed⟩:=Int.gcd_dvd_right b d;have eb:b=g*b':=eb;have ed:d=g*d':=ed;have qb:b/g=b':=by rw [eb];exact Int.mul_ediv_cancel_left _ Oo
 have qd:d/g=d':=by rw [ed];exact Int.mul_ediv_cancel_left _ Oo
 have eu:u=a*d' + c*b':=by show a*(d/g)+c*(b/g)=_;rw [qb,qd]
 have cbd:Int.gcd b' d'=1:=by
  have:=Int.gcd_ediv_gcd_ediv_gcd (i:=b) (j:=d) (by have:0<(Int.gcd b d:Int):=hg;omega);have h:Int.gcd (b/g) (d/g)=1:=this
  rwa [qb,qd] at h
 have cab:Int.gcd a b'=1:=kW h1.low ⟨g,by rw [eb,Int.mul_comm]⟩;have ccd:Int.gcd c d'=1:=kW h2.low ⟨g,by rw [ed,Int.mul_comm]⟩;have ub:Int.gcd u b'=1:=by
  rw [eu,Int.add_comm,Int.gcd_mul_right_add_left,Int.gcd_mul_right_left_of_gcd_eq_one cab,Int.gcd_comm];exact cbd
 have ud:Int.gcd u d'=1:=by
  rw [eu,Int.gcd_mul_right_add_left,Int.gcd_mul_right_left_of_gcd_eq_one ccd];exact cbd
 obtain ⟨u',eu'⟩:=Int.gcd_dvd_left u g;obtain ⟨g',eg'⟩:=Int.gcd_dvd_right u g;have eu':u=l*u':=eu';have eg':g=l*g':=eg';have qu:u/l=u':=by rw [eu'];exact Int.mul_ediv_cancel_left _ Oo
 have qdl:d/l=g' * d':=by rw [ed,eg',Int.mul_assoc];exact Int.mul_ediv_cancel_left _ Oo
 have cug:Int.gcd u' g'=1:=by
  have:=Int.gcd_ediv_gcd_ediv_gcd (i:=u) (j:=g) (by have:0<(Int.gcd u g:Int):=hl;omega);have h:Int.gcd (u/l) (g/l)=1:=this;rw [qu] at h
  rwa [show g/l=g' from by rw [eg'];exact Int.mul_ediv_cancel_left _ Oo] at h
 rw [qu,qb,qdl];have hu':u' ∣ u:=⟨l,by rw [eu',Int.mul_comm]⟩;have hb':0<b':=by
  have:=h1.pos;rw [eb] at this;exact Int.pos_of_mul_pos_right this Oo
 have hd':0<d':=by
  have:=h2.pos;rw [ed] at this;exact Int.pos_of_mul_pos_right this Oo
 have hg':0<g':=by
  have:=hg;rw [eg'] at this;exact Int.pos_of_mul_pos_right this Oo
 refine sM ⟨Int.mul_pos hb' (Int.mul_pos hg' hd'),?_⟩ (Int.mul_pos h1.pos h2.pos) ?_
 ·exact rN (iK ub hu') (rN cug (iK ud hu'))
 ·have e1:a*d+c*b=g*(l*u'):=by
   rw [<-eu',eu,eb,ed];rw [Int.mul_add,Int.mul_left_comm a,Int.mul_left_comm c]
  rw [e1,eb,ed];generalize hG:g=G at *;rw [eg'];simp only [Int.mul_assoc,Int.mul_left_comm,Int.mul_comm]
theorem MD{a b c d:Int}(h1:VI a b)(h2:VI c d) :
  let f:Int:=Int.gcd a d
  let s:Int:=Int.gcd c b
  lw (a*c) (b*d)=((a/f)*(c/s),(b/s)*(d/f)):=by
 intro f s;have hf:0<f:=hZ h2.pos;have hs:0<s:=hZ h1.pos;obtain ⟨a',ea⟩:=Int.gcd_dvd_left a d;obtain ⟨d',ed⟩:=Int.gcd_dvd_right a d;obtain ⟨c',ec⟩:=Int.gcd_dvd_left c b;obtain ⟨b',eb⟩:=Int.gcd_dvd_right c b;have ea:a=f*a':=ea;have ed:d=f*d':=ed;have ec:c=s*c':=ec;have eb:b=s*b':=eb;have qa:a/f=a':=by rw [ea];exact Int.mul_ediv_cancel_left _ Oo
 have qd:d/f=d':=by rw [ed];exact Int.mul_ediv_cancel_left _ Oo
 have qc:c/s=c':=by rw [ec];exact Int.mul_ediv_cancel_left _ Oo
 have qb:b/s=b':=by rw [eb];exact Int.mul_ediv_cancel_left _ Oo
 have cad:Int.gcd a' d'=1:=by
  have:=Int.gcd_ediv_gcd_ediv_gcd (i:=a) (j:=d) (by have:0<(Int.gcd a d:Int):=hf;omega);have h:Int.gcd (a/f) (d/f)=1:=this
  rwa [qa,qd] at h
 have ccb:Int.gcd c' b'=1:=by
  have:=Int.gcd_ediv_gcd_ediv_gcd (i:=c) (j:=b) (by have:0<(Int.gcd c b:Int):=hs;omega);have h:Int.gcd (c/s) (b/s)=1:=this
  rwa [qc,qb] at h
 have cab:Int.gcd a' b'=1:=iK (kW h1.low ⟨s,by rw [eb,Int.mul_comm]⟩) ⟨f,by rw [ea,Int.mul_comm]⟩;have ccd:Int.gcd c' d'=1:=iK (kW h2.low ⟨f,by rw [ed,Int.mul_comm]⟩) ⟨s,by rw [ec,Int.mul_comm]⟩;have hb':0<b':=by
  have:=h1.pos;rw [eb] at this;exact Int.pos_of_mul_pos_right this Oo
 have hd':0<d':=by
  have:=h2.pos;rw [ed] at this;exact Int.pos_of_mul_pos_right this Oo
 rw [qa,qb,qc,qd];refine sM ⟨Int.mul_pos hb' hd',?_⟩ (Int.mul_pos h1.pos h2.pos) ?_
 ·have x1:Int.gcd a' (b' * d')=1:=rN cab cad;have x2:Int.gcd c' (b' * d')=1:=rN ccb ccd;rw [Int.gcd_comm] at x1 x2 ⊢;exact rN x1 x2
 ·rw [ea,eb,ec,ed];simp only [Int.mul_assoc,Int.mul_left_comm,Int.mul_comm]
end Mf
namespace Mf
abbrev Fr:=Int × Int
def oR(x y:Fr):Fr:=lw (x.1*y.2+y.1*x.2) (x.2*y.2)
def sB(fs:List Fr):Fr:=fs.foldl oR (0,1)
def eM(f:Fr):Prop:=VI f.1 f.2
theorem pD{α:Type}{P:List α->Prop}(h0:P [])(hs:∀l a,P l->P (l++[a]))(l:List α):P l:=by
 have:∀r:List α,P r.reverse:=by
  intro r
  induction r with
  | nil=>exact h0
  | cons a r ih=>rw [List.reverse_cons];exact hs _ _ ih
 have:=this l.reverse
 rwa [List.reverse_reverse] at this
theorem oZ(l:List Fr)(a:Fr):sB (l++[a])=oR (sB l) a:=by unfold sB;rw [List.foldl_append];rfl
theorem BS(l:List Fr):(∀f∈l,eM f)->eM (sB l):=by
 refine pD (P:=λl=>(∀f∈l,eM f)->eM (sB l)) (λ_=>⟨Dd,Dd⟩) (λl a ih h=>?_) l;rw [oZ];have h1:=ih λf hf=>h f (cX _ hf);have h2:=h a (aP _ aH);exact gA (Int.mul_pos h1.pos h2.pos)
theorem NY{n d:Int}(h:0<d):(lw n d).2<=d/\(lw n d).1.natAbs<=n.natAbs:=by
 obtain ⟨e1,e2⟩:=NZ (n:=n) (d:=d);have g:=hZ (n:=n) h;have p:=(gA (n:=n) h).pos;generalize (lw n d).1=a at *;generalize (lw n d).2=b at *;generalize (Int.gcd n d:Int)=G at *;refine ⟨?_,?_⟩
 ·rw [<-e2];have:=Int.mul_le_mul_of_nonneg_left (show (1:Int)<=G by omega) (Int.le_of_lt p);simpa using this
 ·rw [<-e1,jI];exact Nat.le_mul_of_pos_right _ Oo
end Mf
namespace Mf
theorem OA{n d n' d':Int}(hd:0<d)(hd':0<d')(e:n*d'=n' * d):lw n d=lw n' d':=by
 have h:=gA (n:=n') hd';have c:=oK (n:=n') (d:=d');generalize lw n' d'=L at c h;refine sM (a:=L.1) (b:=L.2) h hd ?_;refine Int.eq_of_mul_eq_mul_right (a:=d') Oo ?_
 calc L.1*d*d'=(L.1*d')*d:=by ac_rfl
  _=n' * L.2*d:=by rw [c]
  _=(n' * d)*L.2:=by ac_rfl
  _=n*d' * L.2:=by rw [e]
  _=n*L.2*d':=by ac_rfl
def pK(f g:Fr):Fr:=lw (f.1*g.1) (f.2*g.2)
theorem mC{f g:Fr}(h:eM f)(h':eM g):eM (pK f g):=gA (Int.mul_pos h.pos h'.pos)
theorem aAc{a b c d:Int}(hb:0<b)(hd:0<d):pK (lw a b) (lw c d)=lw (a*c) (b*d):=by
 have h1:=(gA (n:=a) hb).pos;have h2:=(gA (n:=c) hd).pos;refine OA (Int.mul_pos h1 h2) (Int.mul_pos hb hd) ?_;have e1:=oK (n:=a) (d:=b);have e2:=oK (n:=c) (d:=d);generalize lw a b=L at *;generalize lw c d=M at *
 calc L.1*M.1*(b*d)=(L.1*b)*(M.1*d):=by ac_rfl
  _=(a*L.2)*(c*M.2):=by rw [e1,e2]
  _=a*c*(L.2*M.2):=by ac_rfl
theorem TR{d:Int}(h:0<d):lw 0 d=(0,1):=sM (a:=0) (b:=1) ⟨Dd,Dd⟩ h Oo
theorem aAh{d:Int}(h:0<d):lw d d=(1,1):=sM (a:=1) (b:=1) ⟨Dd,Dd⟩ h Oo
end Mf
namespace Mf
def gT(F:Nat):Nat->List (List Nat)
 | 0=>[[]]
 | n+1=>(gT F n).flatMap λr=>(List.range F).map λj=>r++[j]
theorem kG{F:Nat}:∀{n:Nat}{r:List Nat},r∈gT F n->r.length=n/\∀x∈r,x<F
 | 0,r,h=>by
  have:r=[]:=by simpa [gT] using h
  subst this;exact ⟨rfl,λx hx=>by cases hx⟩
 | n+1,r,h=>by
  obtain ⟨q,hq,h⟩:=List.mem_flatMap.mp h;obtain ⟨j,hj,rfl⟩:=aD.mp h;obtain ⟨h1,h2⟩:=kG hq;refine ⟨by simp [h1],λx hx=>?_⟩;rcases dB.mp hx with hx | hx
  ·exact h2 x hx
  ·rw [bQ.mp hx];exact cG.mp hj
def cnt(F:Nat)(r:List Nat):List Nat:=(List.range F).map λj=>r.count j
theorem pI(F:Nat)(r:List Nat):(cnt F r).length=F:=by simp [cnt]
theorem mZ{F j:Nat}(r:List Nat)(h:j<F):(cnt F r)[j]?=some (r.count j):=by
 simp [cnt,h]
theorem DM(F:Nat)(r:List Nat){j:Nat}(h:j<F):cnt F (r++[j])=(cnt F r).set j (r.count j+1):=by
 apply List.ext_getElem?;intro i;by_cases hi:i<F
 ·rw [mZ _ hi,List.getElem?_set];by_cases e:j=i
  ·subst e;rw [if_pos rfl,if_pos (by rw [pI];exact h),List.count_append];simp
  ·rw [if_neg e,mZ _ hi,List.count_append];simp [List.count_singleton,e]
 ·rw [bO (by rw [pI];omega),bO (by rw [List.length_set,pI];omega)]
theorem uK:∀(l:List Nat) (j v x:Nat),l[j]?=some x->(l.set j v).sum+x=l.sum+v
 | [],j,v,x,h=>by simp at h
 | a::l,0,v,x,h=>by
  have:a=x:=by simpa using h
  subst this;simp only [List.set_cons_zero,List.sum_cons];omega
 | a::l,j+1,v,x,h=>by
  have:=uK l j v x (by simpa using h);simp only [List.set_cons_succ,List.sum_cons];omega
theorem IF{F:Nat}(r:List Nat):(∀x∈r,x<F)->(cnt F r).sum=r.length:=by
 induction r using pD with
 | h0 =>
  intro _;have:cnt F []=List.replicate F 0:=by
   apply List.ext_getElem?;intro i;by_cases hi:i<F
   ·rw [mZ _ hi];simp [hi]
   ·rw [bO (by rw [pI];omega)];simp [hi]
  rw [this];simp
 | hs l a ih =>
  intro h;have ha:=h a (by simp);have h1:=ih λx hx=>h x (cX _ hx);rw [DM F l ha];have:=uK (cnt F l) a (l.count a+1) _ (mZ l ha);rw [bF,List.length_singleton];omega
theorem UT(F:Nat):cnt F []=List.replicate F 0:=by
 apply List.ext_getElem?;intro i;by_cases hi:i<F
 ·rw [mZ _ hi];simp [hi]
 ·rw [bO (by rw [pI];omega)];simp [hi]
def cta:Nat->Nat->List (List Nat)
 | 0,_=>[]
 | 1,m=>[[m]]
 | F+2,m=>(List.range (m+1)).flatMap λk=>(cta (F+1) (m-k)).map λc=>k::c
theorem iA:∀{F m:Nat}{c:List Nat},c∈cta F m->c.length=F/\c.sum=m
 | 0,m,c,h=>by cases h
 | 1,m,c,h=>by
  have:c=[m]:=by simpa [cta] using h
  subst this;simp
 | F+2,m,c,h=>by
  obtain ⟨k,hk,h⟩:=List.mem_flatMap.mp h;obtain ⟨d,hd,rfl⟩:=aD.mp h;have hk:=cG.mp hk;obtain ⟨h1,h2⟩:=iA hd;refine ⟨by simp [h1],?_⟩;rw [List.sum_cons];omega
end Mf
namespace Mf
theorem TU{f:Fr}{D:Int}(h:eM f)(hD:0<D)(hd:f.2 ∣ D):lw (f.1*(D/f.2)) D=f:=by
 obtain ⟨a,b⟩:=f;refine sM h hD ?_;obtain ⟨k,rfl⟩:=hd;have hb:b≠0:=by have:0<b:=h.pos;omega
 show a*(b*k)=a*(b*k/b)*b;rw [Int.mul_ediv_cancel_left _ hb,Int.mul_assoc,Int.mul_comm k b]
end Mf
namespace L2
open PySem PySem.Spec PyProof.Rows
theorem XG(K:PySem.W.Frag){X:Cx}{T id:String}{o e:Expr}{es:List Expr}{to:TE}{t:TA}{name:Str}{apos cpos:Pos}{r:V->List V->Hp->VK->Prop}(pa:PlainAttrs T)(slot:Slot T name id)(hty:typeOf (.builtin id)=pure (.type "method_descriptor"))(hm:MtR X id r)(ho:fY X o to)(ha:LL X (e::es) t)(hK:X.K=K:=by rfl)
  (hbase:attributeBase o name X.env (eval o X.env)=eval o X.env:=by rfl)
  (hfew:((backTo cpos (starEach (e::es) X.env)).all (λx=>!x.1)&&(backToKw cpos (keywordEach [] X.env)).all (λx=>x.1.isSome)
   && decide ((e::es).length+([]:List Keyword).length+(if ([]:List Keyword).isEmpty then 0 else 1)<30))=true:=by rfl)
  (hline:(apos.endLine == cpos.line)=true:=by rfl) (hs:starEach (e::es) X.env=(false,eval e X.env)::starEach es X.env:=by first | exact gQ | exact eL | exact se_BoolOp | exact gH | exact eV | exact se_IfExp | exact se_Dict | exact eK | exact eW | exact gR | exact se_Attribute | exact dO | exact iJ | exact gG | exact se_JoinedStr | exact se_GeneratorExp) (hplain:(backTo cpos (starEach es X.env)).any (·.1)=false:=by repeat (first | exact wV | refine rQ (by first | exact gQ | exact eL | exact se_BoolOp | exact gH | exact eV | exact se_IfExp | exact se_Dict | exact eK | exact eW | exact gR | exact se_Attribute | exact dO | exact iJ | exact gG | exact se_JoinedStr | exact se_GeneratorExp) ?_)) :
  fY X (.Call (.Attribute o name apos) (e::es) [] cpos) (tBM K T r to t):=by subst hK;exact ⟨WE pa slot hty hm ho.p ha.p hbase hfew hline hs hplain⟩
theorem oU{X:Cx}{e:Expr}{t:TT}(h:IN X e t):IN X e (qK t):=⟨h.p.mono⟩
end L2
namespace HT
open PySem PyProof.Rows
section
variable{prog:Program}{w:World}{A:Around}{E:Value->Shared->Prop}{s:Shared}
theorem pL{t sl:Addr}{items:Array Value}{vl vu:Value}{lo hi:Option Int}{Q:Value->Shared->Prop}(ht:IsTup s.heap t items)(hs:s.heap.IsSliceOf sl vl vu .none)(pl:IsPart vl lo)(pu:IsPart vu hi)
  (h0:iG items.size 0 lo=0) (h1:iG items.size items.size hi=items.size) (h:Q (.ref t) s):wpAny (model prog w) A (getItem (.ref t) (.ref sl)) Q E s:=by
 obtain ⟨os,hos,hcs,hds⟩:=id hs;have hTs:s.TypeIs (.ref sl) "slice" := ⟨os,hos,hcs⟩;have hTt:s.TypeIs (.ref t) "tuple" := ht.typeIs;unfold getItem
 try with_reducible refine wpAny_holding ?_
 first | refine wpAny_bind (wpAny_pure ?_) | skip
 refine wpAny_bind (wpAny_sequenceKey ht.typeIs Dd ?_);refine wpAny_bind (wpAny_callSpecial?_slot (name:=Str.ofString "__getitem__") ht.typeIs PyProof.Rows.slot_tuple_getitem
  (wpAny_call_entry PyProof.Rows.slot_tuple_getitem ht.typeIs entry_tuple_getitem ?_ (args_tuple_getitem _ _)))
 show wpAny _ _ (Builtin.Tuple.tupleItemsOf (.ref t) >>= _) _ _ s;refine wpAny_bind (tupleItemsOf_ ht ?_);refine wpAny_bind (wpAny_typeOf hTs ?_);rw [if_pos Dd];refine wpAny_bind (lZ hs pl pu ?_);have hyes:(((iG items.size 0 lo:Nat):Int) == 0&&(1:Int) == 1&&(iG items.size items.size hi-iG items.size 0 lo) == items.size)=true:=by
  rw [h0,h1];simp
 show wpAny _ _ (if (((iG items.size 0 lo:Nat):Int) == 0&&(1:Int) == 1&&(iG items.size items.size hi-iG items.size 0 lo) == items.size)=true then _ else _) _ _ s;rw [if_pos hyes];unfold Builtin.Tuple.tupleIsExact;refine wpAny_bind (wpAny_bind (wpAny_typeOf hTt (wpAny_pure ?_)));rw [if_pos Dd];refine wpAny_bind (wpAny_rule ?_)
 first
  | exact wpAny_pure ⟨_,rfl,wpAny_pure h⟩
  | exact wpAny_bind (wpAny_pure (wpAny_pure ⟨_,rfl,wpAny_pure h⟩))
end
end HT
namespace L2
open PySem PySem.W PySem.Spec PySem.Calls PyProof.Rows
theorem FV{xs:List V}{lo hi:Option Int}(h0:HT.iG xs.length 0 lo=0)(h1:HT.iG xs.length xs.length hi=xs.length):oQ xs lo hi=xs:=by
 unfold oQ;rw [h0,h1];simp
section
variable{X:Cx}
@[irreducible] def CG(K:PySem.W.Frag):V->Option Int->Option Int->Hp->VK->Prop:=λx lo hi H Q=>∃a xs,x=.ref a/\H a=some (.tup xs)/\∀c H',bC H H'->H' c=some (.tup (oQ xs lo hi))->Q (.ref c) H'
theorem qV(K:PySem.W.Frag)(hK:X.K=K:=by rfl):SlR X (CG K):=by
 unfold CG;subst hK;intro pins s σ H x v vl vu lo hi sl Q I rx hs pl pu h;obtain ⟨a,xs,rfl,hx,q⟩:=h;by_cases hw:HT.iG xs.length 0 lo=0/\HT.iG xs.length xs.length hi=xs.length
 ·cases rx;obtain ⟨its,r,ht,hz⟩:=I.tuple (eZ.of hx);have hlen:its.toArray.size=xs.length:=by rw [aW];exact r.length.symm
  refine ⟨"tuple",_,PyProof.Rows.slot_tuple_getitem.lookup,ht.typeIs,?_⟩;refine HT.pL ht hs pl pu (by rw [hlen];exact hw.1) (by rw [hlen];exact hw.2) ?_;exact ⟨.ref a,H,I,rfl,q a H (bC.refl _) (by rw [FV hw.1 hw.2];exact hx)⟩
 ·exact XO pins s σ H (.ref a) v vl vu lo hi sl Q I rx hs pl pu ⟨a,xs,rfl,eZ.of hx,hw,λp hp=>q p _ (bC.upd hp) bH⟩
theorem EZ{K:PySem.W.Frag}{H:Hp}{a:Addr}{xs:List V}{k:Nat}{Q:VK}(h:H a=some (.tup xs))(q:∀c H',bC H H'->H' c=some (.tup (xs.take k))->Q (.ref c) H'):CG K (.ref a) none (some (k:Int)) H Q:=by
 unfold CG;exact ⟨a,xs,rfl,h,λc H' s e=>q c H' s (by rw [e,IE])⟩
theorem MN{K:PySem.W.Frag}{H:Hp}{a:Addr}{xs:List V}{k:Nat}{Q:VK}(h:H a=some (.tup xs))(q:∀c H',bC H H'->H' c=some (.tup (xs.drop k))->Q (.ref c) H'):CG K (.ref a) (some (k:Int)) none H Q:=by
 unfold CG;exact ⟨a,xs,rfl,h,λc H' s e=>q c H' s (by rw [e,UQ])⟩
end
end L2
namespace HT
open PySem PySem.W PyProof.Rows
def dI{α:Type}(n:Nat)(lt:Nat->Nat->Bool)(R:α->Prop):KasT α->Prop
 | .ret a=>R a
 | .ask i j k=>i<n/\j<n/\dI n lt R (k (lt i j))
section
variable{n:Nat}{lt:Nat->Nat->Bool}
theorem dI.bind{α β:Type}{R:α->Prop}{S:β->Prop}{f:α->KasT β}:∀{t:KasT α},dI n lt R t->(∀a,R a->dI n lt S (f a))->dI n lt S (t.bind f)
 | .ret a,h,k=>k a h
 | .ask i j t,⟨h1,h2,h3⟩,k=>⟨h1,h2,dI.bind (t:=t (lt i j)) h3 k⟩
theorem dI.wp{α:Type}{R:α->Prop}{cmp:Nat->Nat->(Bool->Shared->Prop)->Shared->Prop}{Q:α->Shared->Prop}{s:Shared}(hc:∀i j C,i<n->j<n->C (lt i j) s->cmp i j C s)(q:∀a,R a->Q a s) :
  ∀{t:KasT α},dI n lt R t->t.kasWp cmp Q s
 | .ret a,h=>q a h
 | .ask i j t,⟨h1,h2,h3⟩=>hc i j _ h1 h2 (dI.wp (t:=t (lt i j)) hc q h3)
def fB(n:Nat)(p:Array Nat):Prop:=p.Perm (List.toArray (List.range n))
theorem fB.bd{p:Array Nat}(g:fB n p)(hn:0<n)(i:Nat):p.getD i 0<n:=by
 by_cases hi:i<p.size
 ·have e:p.getD i 0=p[i]:=by simp [Array.getD,hi]
  rw [e];have m:p[i]∈List.toArray (List.range n):=(Array.Perm.mem_iff g).mp (Array.getElem_mem hi);simpa using m
 ·have e:p.getD i 0=0:=by simp [Array.getD,hi]
  rw [e];exact hn
theorem fB.rev{p:Array Nat}(g:fB n p)(i j:Nat):fB n (kas_rev p i j):=(mirror_perm p i j _).trans g
theorem fB.bub{p:Array Nat}(g:fB n p)(i j:Nat):fB n (bubble p i j):=(bubble_perm p i j).trans g
theorem BI{p:Array Nat}(g:fB n p)(hn:0<n):∀(f m:Nat),dI n lt (λ_=>True) (kas_asc p f m)
 | 0,m=>True.intro
 | f+1,m=>⟨g.bd hn _,g.bd hn _,by
  cases lt (p.getD m 0) (p.getD (m-1) 0) with
  | true=>exact True.intro
  | false=>exact BI g hn f (m+1)⟩
theorem rS(hn:0<n):∀(f:Nat) {p:Array Nat}(g:fB n p) (m q:Nat),dI n lt (λr=>fB n r.1) (kas_desc f p m q)
 | 0,p,g,m,q=>g
 | f+1,p,g,m,q=>by
  refine ⟨g.bd hn _,g.bd hn _,?_⟩;cases lt (p.getD m 0) (p.getD (m-1) 0) with
  | true =>
   show dI n lt _ (if q > 0 then _ else _);split
   ·exact rS hn f (g.rev _ _) _ _
   ·exact rS hn f g _ _
  | false =>
   refine ⟨g.bd hn _,g.bd hn _,?_⟩;cases lt (p.getD (m-1) 0) (p.getD m 0) with
   | true=>exact g
   | false=>exact rS hn f g _ _
theorem zD{p:Array Nat}(g:fB n p)(hn:0<n)(m r:Nat):dI n lt (λr=>fB n r.2) (kas_tail3 m r p):=by
 unfold kas_tail3;exact (BI (g.rev 0 m) hn _ _).bind λ_ _=>g.rev 0 m
theorem rR{p:Array Nat}(g:fB n p)(hn:0<n)(m r:Nat):dI n lt (λr=>fB n r.2) (kas_descPart m r p):=by
 unfold kas_descPart;refine (rS hn _ g _ _).bind λr hr=>?_;split
 ·exact zD (fB.rev hr _ _) hn _ _
 ·exact zD hr hn _ _
theorem LI{p:Array Nat}(g:fB n p)(hn:0<n)(m:Nat):dI n lt (λr=>fB n r.2) (kas_count m p):=by
 unfold kas_count;refine (BI g hn _ _).bind λk _=>?_;split
 ·exact g
 ·split
  ·refine ⟨g.bd hn _,g.bd hn _,?_⟩;cases lt (p.getD 0 0) (p.getD (k-1) 0) with
   | true=>exact g
   | false=>exact rR (g.rev _ _) hn _ _
  ·exact rR g hn _ _
theorem sZ{p:Array Nat}(g:fB n p)(hn:0<n)(k:Nat):∀(f l r:Nat),dI n lt (λ_=>True) (kas_place p k f l r)
 | 0,l,r=>True.intro
 | f+1,l,r=>by
  unfold kas_place;split
  ·exact True.intro
  ·refine ⟨g.bd hn _,g.bd hn _,?_⟩;cases lt (p.getD k 0) (p.getD ((l+r)/2) 0) with
   | true=>exact sZ g hn k f _ _
   | false=>exact sZ g hn k f _ _
theorem IJ(hn:0<n):∀(f:Nat) {p:Array Nat}(g:fB n p) (k:Nat),dI n lt (fB n) (kas_bin f p k)
 | 0,p,g,k=>g
 | f+1,p,g,k=>by
  unfold kas_bin;exact (sZ g hn k _ _ _).bind λl _=>IJ hn f (g.bub _ _) _
theorem QD(hn:0<n):dI n lt (fB n) (kas_sort n):=by
 unfold kas_sort;refine (LI (Array.Perm.refl _) hn n).bind λr hr=>?_;split
 ·exact IJ hn _ hr _
 ·exact hr
end
structure wZ(n:Nat)(lt:Nat->Nat->Bool):Prop where
 tot:∀i j,i<n->j<n->i≠j->lt i j=false->lt j i=true
 tra:∀i j k,lt i j=true->lt j k=true->lt i k=true
def rX(lt:Nat->Nat->Bool)(p:Array Nat)(m:Nat):Prop:=∀a b,a<b->b<m->lt (p.getD a 0) (p.getD b 0)=true
def XB(lt:Nat->Nat->Bool)(p:Array Nat)(m:Nat):Prop:=∀a b,a<b->b<m->lt (p.getD b 0) (p.getD a 0)=true
section
variable{n:Nat}{lt:Nat->Nat->Bool}
theorem dI.mono{α:Type}{R S:α->Prop}(k:∀a,R a->S a):∀{t:KasT α},dI n lt R t->dI n lt S t
 | .ret a,h=>k a h
 | .ask i j t,⟨h1,h2,h3⟩=>⟨h1,h2,dI.mono k (t:=t (lt i j)) h3⟩
theorem fB.size{p:Array Nat}(g:fB n p):p.size=n:=by
 have:=(Array.perm_iff_toList_perm.mp g).length_eq;simpa using this
theorem fB.ne{p:Array Nat}(g:fB n p){i j:Nat}(hi:i<n)(hj:j<n)(h:i≠j):p.getD i 0≠p.getD j 0:=by
 have hn:p.toList.Nodup:=(Array.perm_iff_toList_perm.mp g).nodup_iff.mpr (by simpa using List.nodup_range);have hs:=g.size;have e1:p.getD i 0=p.toList[i]'(by simpa [hs] using hi):=by simp [Array.getD,hs,hi]
 have e2:p.getD j 0=p.toList[j]'(by simpa [hs] using hj):=by simp [Array.getD,hs,hj]
 rw [e1,e2];intro e;exact h ((List.getElem_inj hn).mp e)
theorem rX.one{p:Array Nat}:rX lt p 1:=λa b h1 h2=>Oo
theorem rX.more(O:wZ n lt){p:Array Nat}(g:fB n p){m:Nat}(h:rX lt p m)(h1:1<=m)(hm:m<n)(e:lt (p.getD m 0) (p.getD (m-1) 0)=false):rX lt p (m+1):=λa b hab hb=>by
 by_cases q:b<m
 ·exact h a b hab q
 ·have e':b=m:=Oo;subst e';have l1:lt (p.getD (b-1) 0) (p.getD b 0)=true:=O.tot _ _ (g.bd Oo _) (g.bd Oo _) (g.ne Oo Oo Oo) e;by_cases r:a=b-1
  ·rw [r];exact l1
  ·exact O.tra _ _ _ (h a (b-1) Oo Oo) l1
theorem BH(O:wZ n lt){p:Array Nat}(g:fB n p):∀(f m:Nat),1<=m->m+f<=n->rX lt p m->dI n lt (λk=>m<=k/\k<=m+f/\rX lt p k/\(k<m+f->lt (p.getD k 0) (p.getD (k-1) 0)=true)) (kas_asc p f m)
 | 0,m,_,_,h=>⟨aJ _,aJ _,h,λq=>Oo⟩
 | f+1,m,h1,hm,h=>by
  refine ⟨g.bd Oo _,g.bd Oo _,?_⟩;cases e:lt (p.getD m 0) (p.getD (m-1) 0) with
  | true=>exact ⟨aJ _,Oo,h,λ_=>e⟩
  | false =>
   refine (show dI n lt _ (kas_asc p f (m+1)) from ?_);have ih:=BH O g f (m+1) Oo Oo (h.more O g h1 Oo e);exact dI.mono (λk ⟨a1,a2,a3,a4⟩=>⟨Oo,Oo,a3,λq=>a4 Oo⟩) ih
theorem XB.more(O:wZ n lt){p:Array Nat}{m:Nat}(h:XB lt p m)(h1:1<=m)(e:lt (p.getD m 0) (p.getD (m-1) 0)=true):XB lt p (m+1):=λa b hab hb=>by
 by_cases q:b<m
 ·exact h a b hab q
 ·have e':b=m:=Oo;subst e';by_cases r:a=b-1
  ·rw [r];exact e
  ·exact O.tra _ _ _ e (h a (b-1) Oo Oo)
theorem DD(O:wZ n lt){p:Array Nat}(g:fB n p):∀(f m:Nat),1<=m->m+f<=n->XB lt p m->dI n lt (λr=>r.1=p/\r.2.2=0/\m<=r.2.1/\r.2.1<=m+f/\XB lt p r.2.1) (kas_desc f p m 0)
 | 0,m,_,_,h=>⟨rfl,rfl,aJ _,aJ _,h⟩
 | f+1,m,h1,hm,h=>by
  refine ⟨g.bd Oo _,g.bd Oo _,?_⟩;cases e:lt (p.getD m 0) (p.getD (m-1) 0) with
  | true =>
   refine (show dI n lt _ (kas_desc f p (m+1) 0) from ?_);exact dI.mono (λr ⟨a1,a2,a3,a4,a5⟩=>⟨a1,a2,Oo,Oo,a5⟩) (DD O g f (m+1) Oo Oo (h.more O h1 e))
  | false =>
   refine ⟨g.bd Oo _,g.bd Oo _,?_⟩;rw [O.tot _ _ (g.bd Oo _) (g.bd Oo _) (g.ne Oo Oo Oo) e];exact ⟨rfl,rfl,aJ _,(show m<=m+(f+1) by omega),h⟩
theorem MX{p:Array Nat}{m i:Nat}(hm:m<=p.size):(kas_rev p 0 m).getD i 0=if i<m then p.getD (m-1-i) 0 else p.getD i 0:=by
 have e:=getElem?_mirror (xs:=p) (i:=0) (j:=m) hm (m/2) Oo i;have e':(kas_rev p 0 m)[i]?=if (0<=i/\i<0+m/2)\/(m-m/2<=i/\i<m) then p[0+m-1-i]? else p[i]?:=e
 have g:∀(q:Array Nat) (k:Nat),q.getD k 0=q[k]?.getD 0:=λq k=>by simp [Array.getD_eq_getD_getElem?]
 rw [g,e',g,g];by_cases h:i<m
 ·rw [if_pos h];by_cases h2:(0<=i/\i<0+m/2)\/(m-m/2<=i/\i<m)
  ·rw [if_pos h2,show 0+m-1-i=m-1-i by omega]
  ·rw [if_neg h2,show m-1-i=i by omega]
 ·rw [if_neg h,if_neg Oo]
theorem XB.rev{p:Array Nat}{m:Nat}(h:XB lt p m)(hm:m<=p.size):rX lt (kas_rev p 0 m) m:=λa b hab hb=>by
 rw [MX hm,MX hm,if_pos Oo,if_pos hb];exact h _ _ Oo Oo
theorem KS(O:wZ n lt){p:Array Nat}(g:fB n p)(hn:2<=n):dI n lt (λr=>fB n r.2/\1<=r.1/\r.1<=n/\rX lt r.2 r.1) (kas_count n p):=by
 unfold kas_count;refine (BH O g (n-1) 1 (aJ _) Oo rX.one).bind λk ⟨k1,k2,k3,k4⟩=>?_;split
 ·exact ⟨g,k1,by show k<=n;omega,k3⟩
 ·rename_i hk
  have hkn:k≠n:=λe=>hk (by simp [e]);split
  ·refine ⟨g.bd Oo _,g.bd Oo _,?_⟩;rw [k3 0 (k-1) Oo Oo];exact ⟨g,k1,by show k<=n;omega,k3⟩
  ·have e1:k=1:=Oo;subst e1;unfold kas_descPart;have d2:XB lt p 2:=λa b hab hb=>by
    have e:a=0/\b=1:=Oo;rw [e.1,e.2];exact k4 Oo
   refine (DD O g (n-2) 2 Oo Oo d2).bind λr ⟨r1,r2,r3,r4,r5⟩=>?_;obtain ⟨p',m,q⟩:=r;dsimp only at r1 r2 r3 r4 r5 ⊢;subst r1 r2;rw [if_neg Dd];unfold kas_tail3;have hs:=g.size;refine (BH O (g.rev 0 m) (n-m) m Oo Oo (r5.rev Oo)).bind λk' ⟨a1,a2,a3,_⟩=>?_;exact ⟨g.rev 0 m,(show 1<=k' by omega),(show k'<=n by omega),a3⟩
theorem sI(O:wZ n lt){p:Array Nat}(g:fB n p){k:Nat}(hk:k<n)(h:rX lt p k):∀(f l r:Nat),l<=r->r<=k->r-l<=f->(∀a,a<l->lt (p.getD a 0) (p.getD k 0)=true)->(∀a,r<=a->a<k->lt (p.getD k 0) (p.getD a 0)=true) ->
  dI n lt (λm=>m<=k/\(∀a,a<m->lt (p.getD a 0) (p.getD k 0)=true)/\∀a,m<=a->a<k->lt (p.getD k 0) (p.getD a 0)=true) (kas_place p k f l r)
 | 0,l,r,h1,h2,h3,h4,h5=>⟨Oo,h4,λa q1 q2=>h5 a Oo q2⟩
 | f+1,l,r,h1,h2,h3,h4,h5=>by
  unfold kas_place;split
  ·exact ⟨Oo,h4,λa q1 q2=>h5 a Oo q2⟩
  ·refine ⟨g.bd Oo _,g.bd Oo _,?_⟩;cases e:lt (p.getD k 0) (p.getD ((l+r)/2) 0) with
   | true =>
    refine (show dI n lt _ (kas_place p k f l ((l+r)/2)) from ?_);refine sI O g hk h f l ((l+r)/2) Oo Oo Oo h4 λa q1 q2=>?_;by_cases q:a=(l+r)/2
    ·rw [q];exact e
    ·exact O.tra _ _ _ e (h _ _ Oo q2)
   | false =>
    refine (show dI n lt _ (kas_place p k f ((l+r)/2+1) r) from ?_);have e2:=O.tot _ _ (g.bd Oo _) (g.bd Oo _) (g.ne hk Oo Oo) e;refine sI O g hk h f ((l+r)/2+1) r Oo Oo Oo (λa q1=>?_) h5;by_cases q:a=(l+r)/2
    ·rw [q];exact e2
    ·exact O.tra _ _ _ (h a ((l+r)/2) Oo Oo) e2
theorem PZ{p:Array Nat}{k m i:Nat}(hk:k<p.size)(hm:m<=k):(bubble p k (k-m)).getD i 0=if i=m then p.getD k 0 else if m<i/\i<=k then p.getD (i-1) 0 else p.getD i 0:=by
 have e:=getElem?_bubble (xs:=p) hk (k-m) Oo i;have g:∀(q:Array Nat) (k:Nat),q.getD k 0=q[k]?.getD 0:=λq k=>by simp [Array.getD_eq_getD_getElem?]
 rw [g,e,g,g,g,show k-(k-m)=m by omega];by_cases h:i=m
 ·rw [if_pos h,if_pos h]
 ·rw [if_neg h,if_neg h];by_cases h2:m<i/\i<=k
  ·rw [if_pos h2,if_pos h2]
  ·rw [if_neg h2,if_neg h2]
theorem II(O:wZ n lt):∀(f:Nat) {p:Array Nat}(g:fB n p) (k:Nat),k+f=n->rX lt p k->dI n lt (λp=>fB n p/\rX lt p n) (kas_bin f p k)
 | 0,p,g,k,hk,h=>⟨g,by rw [<-hk];exact h⟩
 | f+1,p,g,k,hk,h=>by
  unfold kas_bin;refine (sI O g Oo h k 0 k Oo Oo Oo (λa q=>Oo) (λa q1 q2=>Oo)).bind λm ⟨m1,m2,m3⟩=>?_;have hs:=g.size;refine II O f (g.bub _ _) (k+1) Oo λa b hab hb=>?_;rw [PZ Oo m1,PZ Oo m1];by_cases ha:a=m
  ·rw [if_pos ha,if_neg Oo,if_pos Oo];exact m3 _ Oo Oo
  ·rw [if_neg ha];by_cases hb':b=m
   ·rw [if_pos hb',if_neg Oo];exact m2 a Oo
   ·rw [if_neg hb'];by_cases q1:m<a/\a<=k
    ·rw [if_pos q1,if_pos Oo];exact h _ _ Oo Oo
    ·rw [if_neg q1];by_cases q2:m<b/\b<=k
     ·rw [if_pos q2];exact h _ _ Oo Oo
     ·rw [if_neg q2];exact h _ _ hab Oo
theorem MM(O:wZ n lt)(hn:2<=n):dI n lt (λp=>fB n p/\rX lt p n) (kas_sort n):=by
 unfold kas_sort;refine (KS O (Array.Perm.refl _) hn).bind λr ⟨h1,h2,h3,h4⟩=>?_;split
 ·rename_i q
  rw [Nat.max_eq_left h2];exact II O _ h1 _ Oo h4
 ·rename_i q
  have e:r.1=n:=Oo;exact ⟨h1,e ▸ h4⟩
end
end HT
namespace L2
open PySem PySem.Spec PySem.W PyProof.Rows HT
theorem qH{x:V}{xs:List V}{us:List Value}(r:cV (x::xs) us):∃u us',us=u::us'/\dH x u/\cV xs us':=by
 cases r with
 | cons h t=>exact ⟨_,_,rfl,h,t⟩
def CU(fin:Bool):List Int->List Int->Bool
 | x::a,y::b=>if x=y then CU fin a b else decide (x<y)
 | _,_=>fin
def hV(a b:List Int):Bool:=CU (decide (a.length<b.length)) a b
theorem rE(a:List Int):hV a []=false:=by
 unfold hV;cases a <;> rfl
theorem uT(y:Int)(b:List Int):hV [] (y::b)=true:=by unfold hV;rfl
theorem pG(x y:Int)(a b:List Int):hV (x::a) (y::b)=if x=y then hV a b else decide (x<y):=by
 show (if x=y then CU (decide ((x::a).length<(y::b).length)) a b else decide (x<y))=_;rw [cM,cM,show decide (a.length+1<b.length+1)=decide (a.length<b.length) by simp]
 rfl
theorem HI:∀{a b:List Int},a≠b->hV a b=false->hV b a=true
 | [],[],h,_=>absurd rfl h
 | [],y::b,_,e=>by rw [uT] at e;cases e
 | x::a,[],_,_=>uT _ _
 | x::a,y::b,h,e=>by
  rw [pG] at e ⊢;by_cases q:x=y
  ·subst q;rw [if_pos rfl] at e ⊢;exact HI (λz=>h (by rw [z])) e
  ·rw [if_neg q] at e;rw [if_neg (Ne.symm q)];have:=of_decide_eq_false e;exact bV Oo
theorem AS:∀{a b c:List Int},hV a b=true->hV b c=true->hV a c=true
 | a,b,[],_,h=>by rw [rE] at h;cases h
 | [],b,z::c,_,_=>uT _ _
 | x::a,[],z::c,h,_=>by rw [rE] at h;cases h
 | x::a,y::b,z::c,h1,h2=>by
  rw [pG] at h1 h2 ⊢;by_cases q1:x=y
  ·subst q1;rw [if_pos rfl] at h1;by_cases q2:x=z
   ·subst q2;rw [if_pos rfl] at h2 ⊢;exact AS h1 h2
   ·rw [if_neg q2] at h2 ⊢;exact h2
  ·rw [if_neg q1] at h1;have h1:=of_decide_eq_true h1;by_cases q2:y=z
   ·subst q2;rw [if_neg q1];exact bV h1
   ·rw [if_neg q2] at h2;have h2:=of_decide_eq_true h2;rw [if_neg Oo];exact bV Oo
theorem uS{a:List Int}:hV a a=false:=by
 induction a with
 | nil=>exact rE _
 | cons x a ih=>rw [pG,if_pos rfl];exact ih
theorem rC:∀{l m:List (List Int)},l.Pairwise (λa b=>hV a b=true)->m.Pairwise (λa b=>hV a b=true)->(∀x,x∈l↔x∈m)->l=m
 | [],[],_,_,_=>rfl
 | [],y::m,_,_,h=>by have:=(h y).mpr (aH ..);cases this
 | x::l,[],_,_,h=>by have:=(h x).mp (aH ..);cases this
 | x::l,y::m,h1,h2,h=>by
  obtain ⟨a1,a2⟩:=List.pairwise_cons.mp h1;obtain ⟨b1,b2⟩:=List.pairwise_cons.mp h2;have e:x=y:=by
   rcases aT.mp ((h x).mp (aH ..)) with q | q
   ·exact q
   ·rcases aT.mp ((h y).mpr (aH ..)) with r | r
    ·exact r.symm
    ·have:=AS (b1 x q) (a1 y r);rw [uS] at this;cases this
  subst e;rw [rC a2 b2 λz=>?_];constructor
  ·intro q;rcases aT.mp ((h z).mp (aF _ q)) with r | r
   ·subst r;have:=a1 z q;rw [uS] at this;cases this
   ·exact r
  ·intro q;rcases aT.mp ((h z).mpr (aF _ q)) with r | r
   ·subst r;have:=b1 z q;rw [uS] at this;cases this
   ·exact r
abbrev rW(cs:List (List Int)):Nat->Nat->Bool:=λi j=>hV (cs.getD i []) (cs.getD j [])
theorem FI{cs:List (List Int)}(h:cs.Nodup):wZ cs.length (rW cs):=⟨λi j hi hj ne e=>HI (λz=>by
  have e1:cs.getD i []=cs[i]:=by simp [hi]
  have e2:cs.getD j []=cs[j]:=by simp [hj]
  rw [e1,e2] at z;exact ne ((List.getElem_inj h).mp z)) e,λi j k h1 h2=>AS h1 h2⟩
section
variable{prog:Program}{w:World}{A:Around}{E:Value->Shared->Prop}{s:Shared}{Q:Bool->Shared->Prop}
theorem tR{fin:Bool}:∀{a b:List Int}{us vs:List Value}{i:Nat},cV (a.map V.int) us->cV (b.map V.int) vs->Q (CU fin a b) s->KatLex prog w A true fin Q (us.zip vs) i s
 | [],b,us,vs,i,ha,hb,q=>by cases ha;exact kat_nil (by unfold CU at q;exact q)
 | x::a,[],us,vs,i,ha,hb,q=>by
  cases hb;cases us with
  | nil=>exact kat_nil (by unfold CU at q;exact q)
  | cons u us=>exact kat_nil (by unfold CU at q;exact q)
 | x::a,y::b,us,vs,i,ha,hb,q=>by
  rw [aO] at ha hb;obtain ⟨u,us',rfl,⟨t,rfl⟩,ra⟩:=qH ha;obtain ⟨v,vs',rfl,⟨t',rfl⟩,rb⟩:=qH hb;rw [List.zip_cons_cons];refine kat_cons (wpAny_eqBool_int ?_);unfold CU at q;by_cases h:x=y
  ·rw [if_pos h] at q;rw [show (x == y)=true by simp [h]];exact kat_yes (tR ra rb q)
  ·rw [if_neg h] at q;rw [show (x == y)=false by simp [h]];refine kat_no ?_;cases (true&&i == 0) with
   | true=>exact oneLt_int q
   | false=>exact kat_one _ _ (lt_int q)
def WW(h:Heap)(v:Value)(c:List Int):Prop:=∃b its,v=.ref b/\IsTup h b (List.toArray its)/\cV (c.map V.int) its/\c≠[]
abbrev iM(h:Heap):List Value->List (List Int)->Prop:=Paired (WW h)
theorem iM.get{h:Heap}:∀{vs:List Value}{cs:List (List Int)}{i:Nat},iM h vs cs->i<vs.length->WW h (vs.getD i Value.none) (cs.getD i [])
 | _,_,_,.nil,hi=>by simp at hi
 | _,_,0,.cons t r,hi=>t
 | v::vs,c::cs,i+1,.cons t r,hi=>by
  have:=iM.get (i:=i) r (by simpa using hi);simpa using this
theorem iM.firsts{h:Heap}:∀{vs:List Value}{cs:List (List Int)},iM h vs cs->∃fs,KatTups h vs fs/\fs.length=vs.length/\∀v∈fs,∃i t,v=Value.int i t
 | _,_,.nil=>⟨[],KatTups.nil,rfl,λv hv=>by cases hv⟩
 | v::vs,c::cs,.cons t r=>by
  obtain ⟨fs,h1,h2,h3⟩:=iM.firsts r;obtain ⟨b,its,rfl,⟨o,ho,hc,n,hd⟩,hv,hne⟩:=t;cases c with
  | nil=>exact absurd rfl hne
  | cons x c =>
   rw [aO] at hv;obtain ⟨u,us,rfl,⟨t,rfl⟩,_⟩:=qH hv;exact ⟨.int x t::fs,KatTups.cons ho hc hd (by simp) h1,by simp [h2],λv hv=>by
    rcases aT.mp hv with rfl | hv
    ·exact ⟨_,_,rfl⟩
    ·exact h3 v hv⟩
theorem iM.keep{h h':Heap}(k:∀b o,h.get? b=some o->o.cls=.type "tuple" -> h'.get? b=some o):∀{vs:List Value}{cs:List (List Int)},iM h vs cs->iM h' vs cs
 | _,_,.nil=>.nil
 | _,_,.cons ⟨b,its,e,⟨o,ho,hc,hd⟩,hv,hne⟩ r=>.cons ⟨b,its,e,⟨o,k b o ho hc,hc,hd⟩,hv,hne⟩ (iM.keep k r)
theorem BZ{n:Nat}{lt:Nat->Nat->Bool}(hn:2<=n):dI n lt (λp=>fB n p/\(wZ n lt->rX lt p n)) (kas_sort n):=by
 by_cases O:wZ n lt
 ·exact dI.mono (λp h=>⟨h.1,λ_=>h.2⟩) (MM O hn)
 ·exact dI.mono (λp h=>⟨h,λz=>absurd z O⟩) (QD Oo)
theorem yC{a:Addr}{vs:List Value}{cs:List (List Int)}{n:Nat}{P:PySem.Fin->Shared->Prop}(ho:s.heap.get? a=some (seqObj "list" vs.toArray n))(ht:iM s.heap vs cs)(h64:vs.length<64)
  (h:∀p:Array Nat,fB vs.length p->(wZ vs.length (rW cs)->rX (rW cs) p vs.length)->P (.done (.ret .none)) { s with heap:=sortedHeap s.heap a vs (List.toArray (p.toList.map λi=>vs.getD i Value.none)) }) :
  wpAny (model prog w) A (Builtin.«list.sort» ⟨[.ref a],[]⟩) P E s:=by
 rw [list_sort_plain];have ha:a<s.heap.objs.size:=aX ho;refine wpAny_bind (listItems_at ho rfl ?_);refine wpAny_bind (listUpdate_at ho rfl ?_ (by rw [aW,sizeLine_eq];omega) (cC _));obtain ⟨e1,ho1⟩:∃e1,(s.heap.update a (Obj.mapSeq λ_=>#[])).get? a=some (seqObj "list" #[] e1):=⟨_,get?_update_seq ho (λ_=>#[])⟩;refine wpAny_bind (seqEpoch_at ho1 rfl ?_);refine wpAny_bind (wpAny_newTuple ?_ (by show vs.length<=_;rw [sizeLine_eq];omega));refine wpAny_bind (wpAny_newList ?_ (cC _));refine wpAny_holding ?_;have ho6:(((s.heap.update a (Obj.mapSeq λ_=>#[])).push (seqObj "tuple" vs.toArray 0)).push (seqObj "list" #[] 0)).get? a=some (seqObj "list" #[] e1):=by
  rw [Heap.get?_push_ne _ _ _ (by rw [size_push',Heap.size_update];exact bW (Nat.lt_succ_of_lt ha)),Heap.get?_push_ne _ _ _ (by rw [Heap.size_update];exact bW ha)];exact ho1
 show wpAny (model prog w) A _ P E { s with heap:=((s.heap.update a (Obj.mapSeq λ_=>#[])).push (seqObj "tuple" vs.toArray 0)).push (seqObj "list" #[] 0) };dsimp only;have fin:∀st':SortSt,∀p:Array Nat,fB vs.length p->(wZ vs.length (rW cs)->rX (rW cs) p vs.length)->(arrOf st').map (·.2)=List.toArray (p.toList.map λi=>vs.getD i Value.none) ->
   P (.done (.ret .none)) { s with heap:=sortedHeap s.heap a vs ((arrOf st').map (·.2)) }:=by
  intro st' p hp ho hs;rw [hs];exact h p hp ho
 have ht6:iM (((s.heap.update a (Obj.mapSeq λ_=>#[])).push (seqObj "tuple" vs.toArray 0)).push (seqObj "list" #[] 0)) vs cs:=ht.keep λb o hb hc=>by
  have hne:b≠a:=λe=>by
   subst e;rw [ho] at hb;cases hb;exact absurd (show Value.type "list" = Value.type "tuple" from hc) Dd
  exact aB _ (aB _ (by rw [cZ _ _ _ _ hne];exact hb))
 by_cases h2:vs.toArray.size<2
 ·rw [if_pos h2,if_pos h2];refine wpAny_bind (wpAny_pure ?_);rw [StateT.run_pure];refine wpAny_bind (wpAny_pure ?_);dsimp only;refine wpAny_bind (seqEpoch_at ho6 rfl ?_);refine wpAny_bind (listUpdate_at ho6 rfl ?_ (hsz2:=by rw [Array.size_map];show (pairsOf vs).size<=_;rw [pairsOf_size,sizeLine_eq];omega));simp only [bne_self_eq_false,Bool.false_eq_true,if_false];refine wpAny_pure (fin (SortSt.mk' general' (vs.toArray.zip vs.toArray) #[] 7 none) (List.toArray (List.range vs.length)) (Array.Perm.refl _) (λ_ a b h1 h3=>by rw [aW] at h2;omega) ?_);have e:=kat_snds (ks:=vs) (vs:=vs) (st:=SortSt.mk' general' (vs.toArray.zip vs.toArray) #[] 7 none) (p:=List.toArray (List.range vs.length)) rfl (by
   have e:=kas_range (vs.toArray.zip vs.toArray);rw [show (vs.toArray.zip vs.toArray).size=vs.length by simp] at e;exact e.symm)
  exact e
 ·rw [if_neg h2,if_neg h2];have hl2:2<=vs.length:=by rw [aW] at h2;omega
  obtain ⟨fs,k1,k2,k3⟩:=ht6.firsts;refine wpAny_bind (kat_kind (T:=.type "int") k1 Oo (λv hv=>?_) rfl ?_)
  ·obtain ⟨i,t,rfl⟩:=k3 v hv;exact .now
  refine wpAny_bind (wpAny_mono (kat_run (ks:=vs) (vs:=vs) (G:=λp s'=>s'={ s with heap:=((s.heap.update a (Obj.mapSeq λ_=>#[])).push (seqObj "tuple" vs.toArray 0)).push (seqObj "list" #[] 0) }/\fB vs.length p/\(wZ vs.length (rW cs)->rX (rW cs) p vs.length))
   (Q:=λst' s'=>s'={ s with heap:=((s.heap.update a (Obj.mapSeq λ_=>#[])).push (seqObj "tuple" vs.toArray 0)).push (seqObj "list" #[] 0) }/\failedOf st'=none/\∃p:Array Nat,p.size=vs.length/\(fB vs.length p/\(wZ vs.length (rW cs)->rX (rW cs) p vs.length))/\arrOf st'=p.map (kas_item (vs.toArray.zip vs.toArray)))
   rfl hl2 h64 (λp' st' s' a1 a2 a3 a4=>⟨a4.1,a3,p',a1,a4.2,a2⟩)
   (dI.wp (n:=vs.length) (lt:=rW cs) (R:=λp=>fB vs.length p/\(wZ vs.length (rW cs)->rX (rW cs) p vs.length)) (λi j C hi hj hC=>?_) (λp hp=>⟨rfl,hp⟩) (BZ hl2))) ?_ λ_ _ e=>e)
  ·obtain ⟨b,its,e1',⟨o,hb,hc,n',hd⟩,hv,_⟩:=ht6.get hi;obtain ⟨b2,its2,e2',⟨o2,hb2,hc2,n2,hd2⟩,hv2,_⟩:=ht6.get hj;unfold kas_ask;rw [e1',e2'];refine kat_lt hb hd hb2 hd2 ?_;refine tR hv hv2 ?_;have l1:=hv.length;have l2:=hv2.length;rw [aA] at l1 l2;rw [aW,aW,<-l1,<-l2];exact hC
  rintro ⟨⟨⟩,st'⟩ s' ⟨rfl,hf,p,hp,hg,har⟩;dsimp only;have hout:=kat_snds rfl har;refine wpAny_bind (seqEpoch_at ho6 rfl ?_);refine wpAny_bind (listUpdate_at ho6 rfl ?_ (hsz2:=by rw [hout,aW,aA,Array.length_toList,hp,sizeLine_eq];omega));rw [hf];simp only [bne_self_eq_false,Bool.false_eq_true,if_false];exact wpAny_pure (fin st' p hg.1 hg.2 hout)
theorem BY{l:Addr}{vs:List Value}{cs:List (List Int)}{Q:Value->Shared->Prop}(hl:s.heap.IsList l vs.toArray)(ht:iM s.heap vs cs)(h64:vs.length<64)
  (h:∀(p:Array Nat) (h':Heap) (D:Addr) (c:Nat),fB vs.length p->(wZ vs.length (rW cs)->rX (rW cs) p vs.length)->(∀b o,s.heap.get? b=some o->h'.get? b=some o)->s.heap.objs.size<=D->h'.get? D=some (seqObj "list" (List.toArray (p.toList.map λi=>vs.getD i Value.none)) c)->Q (.ref D) { s with heap:=h' }) :
  wpAny (model prog w) A (call (.builtin "sorted") [.ref l]) Q E s:=by
 refine Calls.call_function_entry kind_sorted plain_sorted entry_sorted (args_sorted1 _) ?_;unfold Builtin.«sorted»;refine wpAny_bind (m:=checkCount "sorted" 1 1 _) (wpAny_pure ?_);refine wpAny_bind (collect_list hl ?_ (by rw [sizeLine_eq];omega));refine wpAny_bind (wpAny_newList ?_ (by rw [sizeLine_eq];omega));have hsz:((s.heap.push (seqObj "list" #[] 0)).update s.heap.objs.size (Obj.mapSeq (· ++ vs.toArray))).objs.size=s.heap.objs.size+1:=by
  rw [Heap.size_update,size_push']
 have hoL:(((s.heap.push (seqObj "list" #[] 0)).update s.heap.objs.size (Obj.mapSeq (· ++ vs.toArray))).push (seqObj "list" vs.toArray 0)).get? (s.heap.objs.size+1)=some (seqObj "list" vs.toArray 0):=by
  rw [<-hsz];exact aY _ rfl
 have keep:∀b o,s.heap.get? b=some o->(((s.heap.push (seqObj "list" #[] 0)).update s.heap.objs.size (Obj.mapSeq (· ++ vs.toArray))).push (seqObj "list" vs.toArray 0)).get? b=some o:=λb o q=>by
  have hlt:b<s.heap.objs.size:=aX q;rw [Heap.get?_push_ne _ _ _ (by rw [hsz];exact bW (Nat.lt_succ_of_lt hlt)),cZ _ _ _ _ (bW hlt),Heap.get?_push_ne _ _ _ (bW hlt)];exact q
 show wpAny _ _ _ _ _ { s with heap:=((s.heap.push (seqObj "list" #[] 0)).update s.heap.objs.size (Obj.mapSeq (· ++ vs.toArray))).push (seqObj "list" vs.toArray 0) };rw [hsz];refine wpAny_bind (wpAny_holding (wpAny_call_entry slot_list_sort ⟨_,hoL,rfl⟩ entry_list_sort ?body (args_list_sort _)));generalize hH:((s.heap.push (seqObj "list" #[] 0)).update s.heap.objs.size (Obj.mapSeq (· ++ vs.toArray))).push (seqObj "list" vs.toArray 0)=h1 at *;refine yC (s:={ s with heap:=h1 }) hoL (ht.keep λb o hb _=>keep b o hb) h64 λp hp ho=>⟨_,rfl,wpAny_pure ⟨_,rfl,?_⟩⟩;have hD:s.heap.objs.size+1<h1.objs.size:=aX hoL;unfold sortedHeap;have o1:(h1.update (s.heap.objs.size+1) (Obj.mapSeq λ_=>#[])).get? (s.heap.objs.size+1)=some (seqObj "list" #[] _):=get?_update_seq hoL (λ_=>#[]);have o2:=aB (seqObj "list" #[] 0) (aB (seqObj "tuple" vs.toArray 0) o1);refine h p _ (s.heap.objs.size+1) _ hp ho (λb o q=>?_) (Nat.le_succ _) (get?_update_seq o2 λ_=>List.toArray (p.toList.map λi=>vs.getD i Value.none));have hlt:b<s.heap.objs.size:=aX q;have hne:b≠s.heap.objs.size+1:=bW (Nat.lt_succ_of_lt hlt);rw [cZ _ _ _ _ hne];exact aB _ (aB _ (by rw [cZ _ _ _ _ hne];exact keep b o q))
end
@[irreducible] def uN(K:PySem.W.Frag):List V->Hp->VK->Prop:=λxs H Q=>∃(p:Addr) (ys:List V) (cs:List (List Int)),xs=[.ref p]/\fS K H p ys/\bD H (cs.map λc=>PyData.tuple (c.map .int)) ys/\(∀c∈cs,c≠[])/\ys.length<64 /\
 ∀q (ix:List Nat) H',ix.Perm (List.range ys.length)->(cs.Nodup->(ix.map λi=>cs.getD i []).Pairwise λa b=>hV a b=true)->H q=none->H' q=some (.lst (ix.map λi=>ys.getD i .non))->bC H H'->Q (.ref q) H'
theorem rsrt{K:PySem.W.Frag}{H:Hp}{Q:VK}{p:Addr}{ys:List V}{cs:List (List Int)}(h:fS K H p ys)(r:bD H (cs.map λc=>PyData.tuple (c.map .int)) ys)(hc:∀c∈cs,c≠[])(hz:ys.length<64)
  (q:∀q (ix:List Nat) H',ix.Perm (List.range ys.length)->(cs.Nodup->(ix.map λi=>cs.getD i []).Pairwise λa b=>hV a b=true)->H q=none->H' q=some (.lst (ix.map λi=>ys.getD i .non))->bC H H'->Q (.ref q) H'):uN K [.ref p] H Q:=by
 unfold uN;exact ⟨p,ys,cs,rfl,h,r,hc,hz,q⟩
theorem zP{X:Cx}{pins:List (Addr × Obj)}{σ:St}{H:Hp}{s:Shared}(I:cE X pins σ H s):∀{cs:List (List Int)}{ys:List V}{us:List Value},bD H (cs.map λc=>PyData.tuple (c.map .int)) ys->(∀c∈cs,c≠[])->cV ys us->iM s.heap us cs
 | [],ys,us,r,hc,v=>by
  unfold bD at r;cases (show ys=[] from r);cases v;exact .nil
 | c::cs,ys,us,r,hc,v=>by
  rw [aO] at r;unfold bD at r;obtain ⟨y,ys',rfl,r1,r2⟩:=r;obtain ⟨u,us',rfl,rv,v'⟩:=qH v;refine .cons ?_ (zP I r2 (λc h=>hc c (aF _ h)) v');unfold cO at r1;obtain ⟨a,xs,rfl,h1,h2⟩:=r1;cases rv;obtain ⟨its,rr,pl,hzz⟩:=I.tuple (eZ.of h1);have hx:xs=c.map V.int:=by
   clear rr h1 hc hzz
   induction c generalizing xs with
   | nil=>unfold bD at h2;exact h2
   | cons z c ih =>
    rw [aO] at h2;unfold bD at h2;obtain ⟨x,xs',rfl,h3,h4⟩:=h2;cases (show x=V.int z from h3);rw [ih _ h4];rfl
  subst hx;exact ⟨a,its,rfl,pl,rr,hc c (aH ..)⟩
theorem uJ{ys:List V}{us:List Value}(v:cV ys us):∀ix:List Nat,(∀i∈ix,i<ys.length)->cV (ix.map λi=>ys.getD i .non) (ix.map λi=>us.getD i Value.none)
 | [],_=>.nil
 | i::ix,h=>by
  have hi:=h i (aH ..);obtain ⟨u,hu,ru⟩:=v.get (i:=i) (x:=ys[i]) (by simp [hi]);refine .cons ?_ (uJ v ix λj hj=>h j (aF _ hj));have e1:ys.getD i .non=ys[i]:=by simp [hi]
  have e2:us.getD i Value.none=u:=by rw [aN,hu];rfl
  show dH (ys.getD i .non) (us.getD i Value.none);rw [e1,e2];exact ru
theorem aAK{X:Cx}(K:PySem.W.Frag)(hK:X.K=K:=by rfl):fX X (.builtin "sorted") (uN K):=by
 subst hK;unfold uN;intro pins s σ H xs us Q I r h;obtain ⟨p,ys,cs,rfl,hq,rep,hc,hz,q⟩:=h;obtain ⟨u,rfl,rx⟩:=jJ r;cases rx;obtain ⟨its,r',pl,hz'⟩:=I.list hq;have hlen:=r'.length;obtain ⟨o,n,ho,hcl,hdd,hd⟩:=pl;refine BY ⟨o,ho,hcl,n,hd⟩ (zP I rep hc r') Oo λpm h' D c hg ho keep hD hget=>?_;have hperm:pm.toList.Perm (List.range ys.length):=by
  have:=(Array.perm_iff_toList_perm.mp hg);rw [hlen];simpa using this
 have hlt:∀i∈pm.toList,i<ys.length:=λi hi=>by
  have:=hperm.mem_iff.mp hi;simpa using this
 have hl2:(pm.toList.map λi=>ys.getD i .non).length=ys.length:=by rw [aA,hperm.length_eq,bK]
 refine ⟨.ref D,upd H D (.lst (pm.toList.map λi=>ys.getD i .non)),I.laid (t':=s.toks) keep hD ⟨by rw [hl2];exact hz',_,c,uJ r' _ hlt,hget⟩,rfl,?_⟩;have hn:=I.hok.fresh hD;refine q D pm.toList _ hperm (λhnd=>?_) hn bH (bC.upd hn);have lcs:cs.length=its.length:=by rw [<-hlen,rep.len,aA]
 have ha:=ho (lcs ▸ FI hnd);have hsz:=hg.size;rw [List.pairwise_map,List.pairwise_iff_getElem];intro i j hi hj hij;have hi':i<pm.size:=by simpa using hi
 have hj':j<pm.size:=by simpa using hj
 have e1:pm.toList[i]=pm.getD i 0:=by rw [Array.getElem_toList];exact (by simp [Array.getD,hi']:pm.getD i 0=pm[i]).symm
 have e2:pm.toList[j]=pm.getD j 0:=by rw [Array.getElem_toList];exact (by simp [Array.getD,hj']:pm.getD j 0=pm[j]).symm
 rw [e1,e2];exact ha i j hij (by rw [<-hsz];simpa using hj)
abbrev cD(c:List Int):PyData:=.tuple (c.map .int)
theorem aDs(x y:Int):PyData.eqv (.int x) (.int y)=decide (x=y):=by
 show (x == y)=_;rw [Bool.beq_eq_decide_eq]
theorem WP:∀a b:List Int,PyData.eqvAll (a.map PyData.int) (b.map PyData.int)=decide (a=b)
 | [],[]=>by simp [PyData.eqvAll]
 | [],_::_=>by simp [PyData.eqvAll]
 | _::_,[]=>by simp [PyData.eqvAll]
 | x::a,y::b=>by
  have ih:=WP a b;rw [aO,aO];show (PyData.eqv (.int x) (.int y)&&PyData.eqvAll _ _)=_;rw [ih,aDs];by_cases h:x=y <;> by_cases h':a=b <;> simp [h,h']
theorem aB1(a b:List Int):PyData.eqv (cD a) (cD b)=decide (a=b):=WP a b
theorem wE:∀a:List Int,PyData.canLayAll0 (a.map PyData.int)=true
 | []=>rfl
 | x::a=>by
  show (PyData.canLay0 (.int x)&&PyData.canLayAll0 (a.map PyData.int))=true;rw [wE a];rfl
theorem DE:∀a:List Int,PyData.depthAll (a.map PyData.int)<=1
 | []=>by show 0<=1;omega
 | x::a=>by
  have:=DE a;show max (PyData.depth (.int x)) (PyData.depthAll (a.map PyData.int))<=1;have:PyData.depth (.int x)<=1:=by simp [PyData.depth]
  omega
theorem PU{H:Hp}{c:List Int}{v:V}(h:cO H (cD c) v):∃a,v=.ref a/\H a=some (.tup (c.map V.int)):=by
 unfold cO at h;obtain ⟨a,xs,rfl,h1,h2⟩:=h;have hx:xs=c.map V.int:=by
  clear h1
  induction c generalizing xs with
  | nil=>unfold bD at h2;exact h2
  | cons z c ih =>
   rw [aO] at h2;unfold bD at h2;obtain ⟨x,xs',rfl,h3,h4⟩:=h2;cases (show x=V.int z from h3);rw [ih _ h4];rfl
 subst hx;exact ⟨a,rfl,h1⟩
theorem tP{a b:List Int}(h:a.map V.int=b.map V.int):a=b:=by
 induction a generalizing b with
 | nil=>cases b with
  | nil=>rfl
  | cons _ _=>cases h
 | cons x a ih=>cases b with
  | nil=>cases h
  | cons y b =>
   rw [aO,aO] at h;injection h with h1 h2;injection h1 with h1;rw [h1,ih h2]
open Classical in
noncomputable def QR (H:Hp) (c:List Int) (u:Value):Bool:=decide (∃b,u=.ref b/\H b=some (.tup (c.map V.int)))
section
variable{X:Cx}{pins:List (Addr × Obj)}{σ:St}{H:Hp}{s:Shared}
theorem OS{c c':List Int}{y:V}{u:Value}(h:cO H (cD c') y)(r:dH y u):QR H c u=decide (c'=c):=by
 obtain ⟨a,rfl,ha⟩:=PU h;cases r;unfold QR;rw [Bool.eq_iff_iff];simp only [decide_eq_true_eq];constructor
 ·rintro ⟨b,e2,hb⟩;cases e2;rw [ha] at hb;injection hb with hb;injection hb with hb;exact tP hb
 ·rintro rfl;exact ⟨a,rfl,ha⟩
theorem BB{c:List Int}:∀{cs:List (List Int)}{ys:List V}{us:List Value},bD H (cs.map cD) ys->cV ys us->us.any (QR H c)=decide (c∈cs)
 | [],ys,us,r,v=>by
  unfold bD at r;cases (show ys=[] from r);cases v
  rfl
 | c' :: cs,ys,us,r,v=>by
  rw [aO] at r;unfold bD at r;obtain ⟨y,ys',rfl,r1,r2⟩:=r;obtain ⟨u,us',rfl,rv,v'⟩:=qH v;rw [List.any_cons,OS r1 rv,BB r2 v'];by_cases h:c'=c
  ·subst h;simp
  ·have h':¬c=c':=λe=>h e.symm;simp [h,h']
theorem BA(I:cE X pins σ H s)(hu:X.A.units+64<cLine){c:List Int}{v:Value}{as:List Addr}(rc:Reads s.heap v (cD c) as):∀{cs:List (List Int)}{ys:List V}{us:List Value},bD H (cs.map cD) ys->cV ys us ->
  ∀u∈us,SeqAt.EqAt X.A.in1 s u v (QR H c u)
 | [],ys,us,r,vv=>by
  unfold bD at r;cases (show ys=[] from r);cases vv;exact λu hu=>by cases hu
 | c' :: cs,ys,us,r,vv=>by
  rw [aO] at r;unfold bD at r;obtain ⟨y,ys',rfl,r1,r2⟩:=r;obtain ⟨u,us',rfl,rv,v'⟩:=qH vv;intro u' hu';rcases aT.mp hu' with rfl | hu'
  ·obtain ⟨bs,rb⟩:=r1.reads I rv;rw [OS r1 rv,<-aB1];refine SeqAt.eqAt_reads (cD c') (cD c) _ s _ _ bs as rb rc (wE c') (wE c) ?_;have h1:(cD c').depth<=2:=by
    have:=DE c';simp only [PyData.depth];omega
   have:X.A.in1.units<=X.A.units+1:=by
    first
     | exact aJ _
     | (unfold Around.in1;simp)
   omega
  ·exact BA I hu rc r2 v' u' hu'
end
@[irreducible] def SF(K:PySem.W.Frag)(neg:Bool):R2:=λx y H Q=>∃(p:Addr) (ys:List V) (cs:List (List Int)) (c:List Int),y=.ref p/\(fS K H p ys\/eZ K H p ys)/\bD H (cs.map cD) ys/\iE K H (cD c) x/\Q (.bl (if neg then !decide (c∈cs) else decide (c∈cs))) H
theorem riT{K:PySem.W.Frag}{neg:Bool}{x:V}{p:Addr}{ys:List V}{cs:List (List Int)}{c:List Int}{H:Hp}{Q:VK}(h:fS K H p ys\/eZ K H p ys)(r:bD H (cs.map cD) ys)(rx:iE K H (cD c) x)(q:Q (.bl (if neg then !decide (c∈cs) else decide (c∈cs))) H):SF K neg x (.ref p) H Q:=by
 unfold SF;exact ⟨p,ys,cs,c,rfl,h,r,rx,q⟩
section
variable{X:Cx}
theorem JU(K:PySem.W.Frag)(hu:X.A.units+64<cLine)(hK:X.K=K:=by rfl):mN X (compareOp .NotIn) (SF K true):=by
 subst hK;unfold SF;intro pins s σ H x y v u Q I rx ry h;obtain ⟨p,ys,cs,c,rfl,hq,r,rc,q⟩:=h;cases ry;obtain ⟨as,ra⟩:=rc.reads I rx;rcases hq with hq | hq
 ·obtain ⟨its,r',pl,hz⟩:=I.list hq;refine SeqAt.notIn_listAt (QR H c) pl.isList (λw hw=>BA I hu ra r r' w (by simpa using hw)) ⟨.bl _,H,I,rfl,?_⟩;rw [show its.toArray.any (QR H c)=its.any (QR H c) by simp,BB r r'];exact q
 ·obtain ⟨its,r',pl,hz⟩:=I.tuple hq;refine SeqAt.notIn_tupleAt (QR H c) pl (λw hw=>BA I hu ra r r' w (by simpa using hw)) ⟨.bl _,H,I,rfl,?_⟩;rw [show its.toArray.any (QR H c)=its.any (QR H c) by simp,BB r r'];exact q
end
end L2
namespace HT
open PySem PySem.Spec PyProof.Rows PySem.Builtin
theorem xE:typeLookup (.type "tuple") "keys" = pure none:=am_miss_of_fast Kk
section
variable{prog:Program}{w:World}{A:Around}{E:Value->Shared->Prop}{s:Shared}
theorem KD{a:Addr}{o:Obj}{xs:Array Value}{k:Nat}{Q:Option Value->Shared->Prop}(hx:s.heap.get? a=some o)(hc:o.cls=.type "tuple")(hdat:o.data=.seq xs k)(hd:o.dict=none)(hA:A.handled=none)
  (h:∀h' tk,(∀b u,s.heap.get? b=some u->h'.get? b=some u)->Q none { s with heap:=h',toks:=tk }):wpAny (model prog w) A (getAttr? (.ref a) "keys") Q E s:=by
 obtain ⟨c,dct,dat,sl⟩:=o;simp only at hc hdat hd;subst hc hdat hd;obtain ⟨hp,g,d,tk,os⟩:=s;have hT:∀tk',(⟨hp,g,d,tk',os⟩:Shared).TypeIs (.ref a) "tuple" := λ_=>⟨_,hx,rfl⟩;have f1:=sub_AttributeError;have f3:=F.slot_tuple_getattribute.lookup;have f4:=F.slot_tuple_getattribute.bind (.ref a);have f5:=am_tuple_getattr_none;unfold getAttr? getAttrBy? getAttrBy
 repeat (any_goals (first | assumption | exact hT _ | ((with_reducible show wpAny _ _ (call (Value.builtin "tuple.__getattribute__") _ _) _ _ _);refine call_meets F.slot_tuple_getattribute (hT _) am_entry_tuple_getattribute (F.args_tuple_getattribute_2 _ _) (meets_getattribute_miss_tuple a xs k sl "keys" _ xE Dd) ⟨hx,hA,λh' tk' e hx'=>?_⟩) | wp_step))
 obtain ⟨t',u',he⟩:=hx'.there;show wpAny _ _ (getattributeRaised _ _ _ _ _ _ _) _ _ _;unfold getattributeRaised
 repeat (any_goals (first | assumption | wp_step))
 exact h _ _ hx'.keeps
end
theorem pP:entryFor table "dict.update.loop" = some Builtin.«dict.update.loop» := entryFor_of_tree (by kernel_rfl)
theorem pN:plainId "dict.update.loop" = true:=Kk
section
variable{prog:Program}{w:World}{A:Around}{E:Value->Shared->Prop}{s:Shared}{K:Type}[DecidableEq K]{knd:HeapKind prog w K}
theorem QZ{d it t:Addr}{i:Nat}{items:Array Value}{R:Result->Shared->Prop}(hA:A.handled=none)(hit:s.heap.IsTupleIter it t i)(ht:s.heap.IsTuple t items)(hx:items[i]?=none)
  (h:∀h',Heap.ExtBut it s.heap h'->R (.ok (.ret .none)) { s with heap:=h' }) :
  codeAny (model prog w) A (.builtin "dict.update.loop" ⟨[.ref d,.ref it,rawInt i,.none],[]⟩) R s:=by
 refine codeAny_builtin pP ?_;rw [Around.under_plainId pN _];unfold Builtin.«dict.update.loop»;refine wpAny_bind (wpAny_pyNext_tuple_end hA hit ht hx λh' e=>?_);show wpAny _ _ (Dict.addKeywords d [] >>= λ_=>ret Value.none) _ _ _;exact wpAny_bind (wpAny_pure (wpAny_pure (h h' e)))
theorem xO{b:Addr}{its:Array Value}{Q:List Value->Shared->Prop}(hb:s.heap.IsTuple b its)(h:Q its.toList s):wpAny (model prog w) A (Dict.pairItems (.ref b)) Q E s:=by
 obtain ⟨o,ho,hc,n,hd⟩:=id hb;unfold Dict.pairItems;refine wpAny_bind (wpAny_typeOf hb.typeIs ?_);rw [if_pos Dd];exact wpAny_bind (wpAny_seqItems ho hd (wpAny_pure h))
theorem MB{d it t b a:Addr}{i:Nat}{items:Array Value}{xs:List (K × Addr × Value)}{k:K}{v:Value}{R:Result->Shared->Prop}(hu:knd.room A.in1)(hit:s.heap.IsTupleIter it t i)(ht:s.heap.IsTuple t items)(hx:items[i]?=some (.ref b))
  (hb:s.heap.IsTuple b #[.ref a,v]) (nb:b≠it) (hk:∀h',(∀c o,c≠it->s.heap.get? c=some o->h'.get? c=some o)->knd.is h' k a/\h'.DictOfH knd d xs) (nd:d≠it) (hz:xs.length<=sizeLine)
  (h:∀h1 h' tk,(∀c o,c≠it->s.heap.get? c=some o->h1.get? c=some o)->Heap.SameBut d h1 h'->h'.DictOfH knd d (storedH xs k a v)->h'.IsTupleIter it t (i+1) ->
   codeAny (model prog w) A (.builtin "dict.update.loop" ⟨[.ref d,.ref it,rawInt ((i+1:Nat):Int),.none],[]⟩) R { s with heap:=h',toks:=tk }) :
  codeAny (model prog w) A (.builtin "dict.update.loop" ⟨[.ref d,.ref it,rawInt i,.none],[]⟩) R s:=by
 refine codeAny_builtin pP ?_;rw [Around.under_plainId pN _];unfold Builtin.«dict.update.loop»;refine wpAny_bind (wpAny_pyNext_tuple_item hit ht hx λh' it' hs=>?_);have hk':∀c o,c≠it->s.heap.get? c=some o->h'.get? c=some o:=λc o hc e=>(hs.2 c hc).trans e;refine wpAny_bind (wpAny_holding ?_);refine wpAny_bind (wpAny_tryCatch ?_);have hb':h'.IsTuple b #[.ref a,v]:=by
  obtain ⟨o,ho,r⟩:=hb;exact ⟨o,hk' b o nb ho,r⟩
 refine xO (s:={ s with heap:=h' }) hb' ?_;show wpAny _ _ (holding [Value.ref a,v] (dictSet d (.ref a) v)) _ _ _;have hm':=(hk h' hk').2;refine wpAny_holding (wpAny_dictSet_heap (s:={ s with heap:=h' }) hu (hk h' hk').1 hm' (λh2 hm2 hs2=>?_) hz);refine wpAny_pure ⟨Code.quiet_builtin _ Kk,?_⟩;have hn:=h h' h2 (s.toks+knd.draws k) hk' hs2 hm2 (by
  obtain ⟨o,ho,r⟩:=it';exact ⟨o,(hs2.2 it (Ne.symm nd)).trans ho,r⟩)
 rw [show ((i+1:Nat):Int)=(i:Int)+1 from Oo] at hn;exact hn
end
end HT
namespace L2
open PySem PySem.Spec PySem.W PyProof.Rows HT
def wX(H:Hp)(y:V)(p:List dP × V):Prop:=∃b a,y=.ref b/\H b=some (.tup [.ref a,p.2])/\H a=some (.tup (p.1.map kV))
section
variable{X:Cx}{pins:List (Addr × Obj)}{σ:St}{H:Hp}
theorem KT.isAll{P:Program}{w:World}{H:Hp}{h:Heap}(ok:nC P w H h){l:List (List dP × V)}{m:List (List dP × Addr × Value)}(q:KT H l m):∀x∈m,(tupleKind (eC P w)).is h x.1 x.2.1:=by
 unfold KT at q
 induction q with
 | nil=>intro x hx;exact nomatch hx
 | @cons p q ps qs hq t ih =>
  intro x hx;rcases aT.mp hx with e | hx
  ·subst e;exact lJ ok (by rw [<-hq.1];exact hq.2.1)
  ·exact ih x hx
theorem yS{D it t:Addr}{ys:List V}{R:Result->Shared->Prop}(hu:X.A.units+8<cLine)(hA:X.A.handled=none)(hD:H D=none)(ht:H t=some (.tup ys))(nit:it≠D) :
  ∀(rest:List (List dP × V)) (i:Nat) (kvs:List (List dP × V)) (s:Shared),cE X pins σ (upd H D (.dT kvs)) s->jP X pins (upd H D (.dT kvs)) it->s.heap.IsTupleIter it t i->Paired (wX H) (ys.drop i) rest->((kvs++rest).map (·.1)).Nodup->(kvs++rest).length<=1000 ->
   (∀s',cE X pins σ (upd H D (.dT (kvs++rest))) s'->R (.ok (.ret .none)) s')->codeAny (model X.prog X.w) X.A.in1 (.builtin "dict.update.loop" ⟨[.ref D,.ref it,rawInt i,.none],[]⟩) R s
 | [],i,kvs,s,I,fp,hit,pr,nd,hz,k=>by
  have ntD:t≠D:=λe=>by subst e;rw [hD] at ht;cases ht
  obtain ⟨its,r,pl,_⟩:=I.tuple (eZ.of (show upd H D (.dT kvs) t=some (.tup ys) by rw [bT ntD];exact ht));have hl:ys.length<=i:=by
   generalize hq:ys.drop i=l at pr;cases pr;exact List.drop_eq_nil_iff.mp hq
  have hl2:=r.length;rw [List.append_nil] at k;refine QZ hA hit pl (by rw [Array.getElem?_eq_none];simp;omega) λh' e=>k _ ?_;exact I.turnedL (t':=s.toks) (fp:=[it]) (λb o hb x=>e b o (by simpa using hb) x) (λb hb=>by
   cases (show b=it by simpa using hb);exact fp)
 | p::rest,i,kvs,s,I,fp,hit,pr,nd,hz,k=>by
  have ntD:t≠D:=λe=>by subst e;rw [hD] at ht;cases ht
  obtain ⟨its,r,pl,_⟩:=I.tuple (eZ.of (show upd H D (.dT kvs) t=some (.tup ys) by rw [bT ntD];exact ht));generalize hq:ys.drop i=l at pr;cases pr with
  | @cons y _ ys' _ hy pr' =>
   obtain ⟨b,a,rfl,hb,ha⟩:=hy;have hi:i<ys.length:=by
    by_cases h:i<ys.length
    ·exact h
    ·rw [List.drop_eq_nil_iff.mpr Oo] at hq;cases hq
   have hyi:ys[i]?=some (.ref b):=by
    have:=List.drop_eq_getElem_cons hi;rw [hq] at this;injection this with h1 h2;rw [aC hi,<-h1]
   have hys':ys.drop (i+1)=ys':=by
    have:=List.drop_eq_getElem_cons hi;rw [hq] at this;injection this with h1 h2;exact h2.symm
   obtain ⟨u,hu',ru⟩:=r.get hyi;cases ru;have nbD:b≠D:=λe=>by subst e;rw [hD] at hb;cases hb
   have naD:a≠D:=λe=>by subst e;rw [hD] at ha;cases ha
   have hb2:upd H D (.dT kvs) b=some (.tup [.ref a,p.2]):=by rw [bT nbD];exact hb
   have ha2:upd H D (.dT kvs) a=some (.tup (p.1.map kV)):=by rw [bT naD];exact ha
   obtain ⟨itb,rb,plb,_⟩:=I.tuple (eZ.of hb2);obtain ⟨ua,uv,rfl,ra,rv⟩:=GM rb;cases ra;have nb:b≠it:=λe=>by have:=fp.1;rw [<-e,hb2] at this;cases this
   obtain ⟨z,hdm,xs,rel,o,es,ep,h1,h2,h3,h4,h5⟩:=(show eI X.prog X.w (upd H D (.dT kvs)) s.heap D (.dT kvs) from I.hok D _ bH);have hturn:∀h' tk,(∀c o,c≠it->s.heap.get? c=some o->h'.get? c=some o)->cE X pins σ (upd H D (.dT kvs)) { s with heap:=h',toks:=tk }:=λh' tk kp =>
    I.turnedL (t':=tk) (fp:=[it]) (λb o hb x=>kp b o (by simpa using hb) x) (λb hb=>by
     cases (show b=it by simpa using hb);exact fp)
   have lxs:xs.length=kvs.length:=(Paired.length rel).symm;refine MB (knd:=tupleKind (eC X.prog X.w)) (xs:=xs) (k:=p.1) (v:=uv) (b:=b) (a:=a) (show _<_ by show X.A.in1.in1.units<cLine;exact bB (show X.A.in1.in1.units<=X.A.units+2 from aJ _) Oo) hit pl (by simpa using hu') plb nb (λh' kp=>⟨lJ (hturn h' s.toks kp).hok ha2,o,es,ep,kp D o (Ne.symm nit) h1,h2,h3,h4,KT.isAll (hturn h' s.toks kp).hok rel,h5⟩) (Ne.symm nit) Oo λhh1 hh2 tk kp hs2 hm2 hit2=>?_;have I1:=hturn hh1 s.toks kp;obtain ⟨q,es2,ep2,hq2,g2,g3,g4,_,g5⟩:=hm2;have hkn:dU kvs p.1=none:=by
    rw [bM,aO] at nd;have hnot:=(List.nodup_append.mp nd).2.2;cases hv:dU kvs p.1 with
    | none=>rfl
    | some v=>exact absurd rfl (hnot _ (qI hv) p.1 (aH ..))
   have hlp:(iQ kvs p.1 p.2).length<=sizeLine:=by
    have h6:=fL kvs p.1 p.2;rw [bF,cM] at hz;have h7:(1000:Nat)<=sizeLine:=Dd;omega
   have I2:=rM (t':=tk) (ob:=.dT (iQ kvs p.1 p.2)) I1 (by rw [bH];exact True.intro) hs2 ⟨q,hq2⟩ ⟨hlp,hdm,_,(KT.put (show KT (upd H D (.dT kvs)) kvs xs from rel) p.1 ha2 rv).keeps λc ys ec=>(by rw [bT (vX ec bH (λz=>nomatch z))];exact ec),q,es2,ep2,hq2,g2,g3,g4,g5⟩;rw [GN,vR p.2 hkn] at I2;refine yS hu hA hD ht nit rest (i+1) (kvs++[p]) _ I2 ?_ hit2 (by rw [hys'];exact pr') (by rw [List.append_assoc];exact nd) (by rw [List.append_assoc];exact hz) (by rw [List.append_assoc];exact k);refine ⟨?_,fp.2⟩;rw [bT nit];have:=fp.1;rw [bT nit] at this;exact this
@[irreducible] def vQ:List V->Hp->VK->Prop:=λxs H Q=>∃(t:Addr) (ys:List V) (kvs:List (List dP × V)),xs=[.ref t]/\H t=some (.tup ys)/\Paired (wX H) ys kvs/\(kvs.map (·.1)).Nodup/\kvs.length<=1000/\∀D,H D=none->Q (.ref D) (upd H D (.dT kvs))
theorem rdcp{H:Hp}{Q:VK}{t:Addr}{ys:List V}{kvs:List (List dP × V)}(ht:H t=some (.tup ys))(pr:Paired (wX H) ys kvs)(nd:(kvs.map (·.1)).Nodup)(hz:kvs.length<=1000)(q:∀D H',H D=none->H' D=some (.dT kvs)->bC H H'->Q (.ref D) H'):vQ [.ref t] H Q:=by
 unfold vQ;exact ⟨t,ys,kvs,rfl,ht,pr,nd,hz,λD hD=>q D _ hD bH (bC.upd hD)⟩
theorem DP(hu:X.A.units+64<cLine)(hc:X.calm=true):fX X (.type "dict") vQ:=by
 unfold vQ;intro pins s σ H xs us Q I r h;obtain ⟨t,ys,kvs,rfl,ht,pr,nd,hz,q⟩:=h;obtain ⟨u,rfl,rx⟩:=jJ r;cases rx;have hA:=I.ok.hd hc;refine callType_codes (Q₁:=λobj s₁=>obj=.ref s.heap.objs.size/\s₁={ s with heap:=s.heap.push { cls:=.type "dict",data:=.dict #[] } }) F.kt_called_dict (F.kt_typeCall_dict_1 _) F.entry_dict_init (kt_code_dict_new _ ⟨rfl,rfl⟩) ?_;rintro obj s₁ ⟨rfl,rfl⟩;have hD:=I.hok.fresh (aJ s.heap.objs.size);have I1:cE X pins σ (upd H s.heap.objs.size (.dT [])) { s with heap:=s.heap.push { cls:=.type "dict",data:=.dict #[] } }:=I.laid (a:=s.heap.objs.size) (o:=.dT []) (t':=s.toks) (λ_ _ q=>aB _ q) (aJ _) (wO s.heap I.big);have htD:t≠s.heap.objs.size:=λe=>by subst e;rw [hD] at ht;cases ht
 have ht1:upd H s.heap.objs.size (.dT []) t=some (.tup ys):=by rw [bT htD];exact ht
 obtain ⟨⟨zt,ot,hot,hdt⟩,itt,rt,ot',hot',hct,nt,hdd⟩:=(show eI X.prog X.w (upd H s.heap.objs.size (.dT [])) (s.heap.push { cls:=.type "dict",data:=.dict #[] }) t (.tup ys) from I1.hok t _ ht1);rw [hot] at hot';cases hot';have hnew:(s.heap.push { cls:=.type "dict",data:=.dict #[] }).DictOf (eC X.prog X.w) s.heap.objs.size []:=Heap.DictOf.new s.heap;refine ⟨hnew.typeIs,F.args_dict_init_2 _ _,?_⟩;unfold Builtin.«dict.__init__»;refine wpAny_bind ?_;unfold Builtin.Dict.selfAndRest;refine wpAny_bind (wpAny_notOrdered_dict hnew.typeIs ?_);show wpAny _ _ (pure (s.heap.objs.size,[Value.ref t])) _ _ _;refine wpAny_pure ?_;show wpAny _ _ (Builtin.Dict.updateFrom "dict.__init__" s.heap.objs.size (.ref t) [] .none) _ _ _;unfold Builtin.Dict.updateFrom;refine wpAny_bind (wpAny_typeOf (T := "tuple") ⟨_,hot,hct⟩ ?_);rw [if_pos Dd];refine wpAny_bind (KD (s:={ s with heap:=s.heap.push { cls:=.type "dict",data:=.dict #[] } }) hot hct hdd hdt hA λh' tk kp=>?_);rw [if_pos (by rfl)];refine wpAny_bind (wpAny_rule ?_);refine wpAny_bind (wpAny_pyIter_tuple (s:={ s with heap:=h',toks:=tk }) (items:=itt.toArray) ⟨ot,kp t ot hot,hct,nt,hdd⟩ ?_);refine wpAny_pure ⟨Code.quiet_builtin _ Kk,?_⟩;have I2:cE X pins σ (upd H s.heap.objs.size (.dT [])) { s with heap:=h',toks:=tk }:=I1.kept (t':=tk) kp;have I3:cE X pins σ (upd H s.heap.objs.size (.dT [])) { s with heap:=h'.push { cls:=.type "tuple_iterator",data:=.fields #[.ref t,.int 0 0] },toks:=tk }:=I2.kept (t':=tk) λb o e=>aB _ e
 have hlt:s.heap.objs.size<h'.objs.size:=by
  obtain ⟨_,_,_,hg,_⟩:=hnew;exact aX (kp _ _ hg)
 have hfr:upd H s.heap.objs.size (.dT []) h'.objs.size=none:=I2.hok.fresh (aJ _);refine yS (D:=s.heap.objs.size) (it:=h'.objs.size) (t:=t) (ys:=ys) Oo hA hD ht (Nat.ne_of_gt hlt) kvs 0 [] _ I3 (I2.fpOk (aJ _) hfr) ⟨_,aY _ rfl,rfl,rfl⟩ (by simpa using pr) (by simpa using nd) (by simpa using hz) λs' I'=>⟨rfl,.ref _,_,I',rfl,?_⟩;rw [List.nil_append];exact q _ hD
end
end L2
namespace HT
open PySem PySem.Spec PyProof.Rows
section
variable{prog:Program}{w:World}{A:Around}{E:Value->Shared->Prop}{s:Shared}{it d:Addr}{es:Array DictEntry}{ep i:Nat}{od:Obj}
theorem UB{Q:Option Value->Shared->Prop}(hit:s.heap.IsKeyIter it d i es.size ep)(hod:s.heap.get? d=some od)(hdd:od.data=.dict es ep)(hi:i<es.size)
  (h:∀h',h'.IsKeyIter it d (i+1) es.size ep->Heap.SameBut it s.heap h'->Q (some es[i].key) { s with heap:=h' }):wpAny (model prog w) A (pyNext (.ref it)) Q E s:=by
 obtain ⟨⟨c0,dd0,data0,sl0⟩,ho,hc,hd⟩:=id hit;simp only at hc hd;subst hc hd;have hT:=hit.typeIs;unfold pyNext;refine wpAny_bind (wpAny_attempt (wpAny_callSpecial?_slot (name:=Str.ofString "__next__") hT F.slot_dict_keyiterator_next (wpAny_call_entry F.slot_dict_keyiterator_next hT F.entry_dict_keyiterator_next ?_ (F.args_dict_keyiterator_next_1 _))));have hn:(Value.ref d == Value.none)=false:=rfl;have hown:Builtin.Dict_items.ownsTuple "dict_keyiterator" = false:=Dd
 repeat (any_goals (first | assumption | (with_reducible refine wpAny_typeNameOfWhole_keyiter hT ?_) | (with_reducible refine wpAny_isOneOf_keyiter hT ?_) | (with_reducible refine wpAny_fieldsOf ho rfl ?_) | (with_reducible refine wpAny_dictEntries hod hdd ?_) | (with_reducible refine wpAny_dictEpoch hod hdd ?_) | wp_step))
 rw [if_neg (show ¬((i:Int)<0) by omega),Int.toNat_natCast,Array.getElem?_eq_getElem hi];have hit':(s.heap.update it (Obj.mapFields (·.setIfInBounds 1 (rawInt ((i:Int)+1))))).IsKeyIter it d (i+1) es.size ep :=
  ⟨_,Heap.get?_update_self _ ho (Obj.isFreed_of_fields (Obj.data_mapFields rfl _)),(Obj.cls_mapFields ..).trans rfl,by rw [Obj.data_mapFields rfl];simp [rawInt]⟩
 have hT':({ s with heap:=s.heap.update it (Obj.mapFields (·.setIfInBounds 1 (rawInt ((i:Int)+1)))) }:Shared).TypeIs (.ref it) "dict_keyiterator" := hit'.typeIs;have hfin:=h _ hit' (Heap.SameBut.update ..)
 repeat (any_goals (first | assumption | (with_reducible refine wpAny_typeNameOfWhole_keyiter hT ?_) | (with_reducible refine wpAny_isOneOf_keyiter hT ?_) | (with_reducible refine wpAny_isOneOf_keyiter hT' ?_) | (with_reducible refine wpAny_setField ho rfl (by rw [hown];simp) ?_) | wp_step))
 exact ⟨_,rfl,wpAny_pure hfin⟩
theorem aAk{Q:Option Value->Shared->Prop}(hh:A.handled=none)(hit:s.heap.IsKeyIter it d i es.size ep)(hod:s.heap.get? d=some od)(hdd:od.data=.dict es ep)(hi:es.size<=i)
  (h:∀h',Heap.ExtBut it s.heap h'->Q none { s with heap:=h' }):wpAny (model prog w) A (pyNext (.ref it)) Q E s:=by
 obtain ⟨⟨c0,dd0,data0,sl0⟩,ho,hc,hd⟩:=id hit;simp only at hc hd;subst hc hd;have hT:=hit.typeIs;have hn:(Value.ref d == Value.none)=false:=rfl;have hown:Builtin.Dict_items.ownsTuple "dict_keyiterator" = false:=Dd;unfold pyNext;refine wpAny_bind (wpAny_attempt (wpAny_callSpecial?_slot (name:=Str.ofString "__next__") hT F.slot_dict_keyiterator_next (wpAny_call_entry F.slot_dict_keyiterator_next hT F.entry_dict_keyiterator_next ?_ (F.args_dict_keyiterator_next_1 _))))
 repeat (any_goals (first | assumption | (with_reducible refine wpAny_typeNameOfWhole_keyiter hT ?_) | (with_reducible refine wpAny_isOneOf_keyiter hT ?_) | (with_reducible refine wpAny_fieldsOf ho rfl ?_) | (with_reducible refine wpAny_dictEntries hod hdd ?_) | (with_reducible refine wpAny_dictEpoch hod hdd ?_) | wp_step))
 rw [if_neg (show ¬((i:Int)<0) by omega),Int.toNat_natCast,Array.getElem?_eq_none hi]
 repeat (any_goals (first | assumption | (with_reducible refine wpAny_typeNameOfWhole_keyiter hT ?_) | (with_reducible refine wpAny_setField ho rfl (by rw [hown];simp) ?_) | wp_step))
 simp only [raiseNew];refine wpAny_bind (wpAny_handled ?_);rw [show A.in1.handled=none from hh];refine wpAny_bind (wpAny_pure (wpAny_throw ?_));refine wpAny_bind (wpAny_isInstance (T := "StopIteration") (b:=true) ⟨_,aY _ rfl,rfl⟩ isSubtype_stop ?_);exact wpAny_pure (h _ (((Heap.SameBut.update ..).extBut.push _).push _))
theorem UD{Q:Value->Shared->Prop}(hd:(d == sysModules)=false)(hod:s.heap.get? d=some od)(hex:od.ExactDict)(hdd:od.data=.dict es ep)
  (hQ:Q (.ref s.heap.objs.size) { s with heap:=s.heap.push { cls:=.type "dict_keyiterator",data:=.fields #[.ref d,.int 0 0,.int es.size 0,.int ep 0] } }):wpAny (model prog w) A (pyIter (.ref d)) Q E s:=by
 have hT:s.TypeIs (.ref d) "dict" := ⟨od,hod,hex.1⟩;refine wpAny_pyIter_slot hT F.slot_dict_iter (wpAny_call_entry F.slot_dict_iter hT F.entry_dict_iter ?_ (F.args_dict_iter_1 _));unfold Builtin.«dict.__iter__»;refine wpAny_bind ?_;unfold Builtin.Dict.dictSlotNone;refine wpAny_bind (wpAny_notOrdered_dict hT ?_);show wpAny _ _ (pure (Value.ref d)) _ _ s;refine wpAny_pure ?_;have hm:(d == sysModules)=false:=hd
 repeat (any_goals (first | assumption | (with_reducible refine wpAny_dictEntries hod hdd ?_) | (with_reducible refine wpAny_dictEpoch hod hdd ?_) | wp_step))
 exact ⟨_,rfl, "dict_keyiterator",_,⟨_,aY _ rfl,rfl⟩,F.slot_dict_keyiterator_next.lookup,hQ⟩
end
end HT
namespace L2
open PySem PySem.Spec PySem.W PyProof.Rows HT
section
variable{X:Cx}{pins:List (Addr × Obj)}{σ:St}{H:Hp}{s:Shared}
theorem cE.freeze{D:Addr}{kvs:List (List dP × V)}(I:cE X pins σ H s)(e:H D=some (.dT kvs)):∃o,cE X pins σ (upd H D (.frz o (.dT kvs))) s:=by
 obtain ⟨z,hd,xs,rel,o,es,ep,h1,h2,h3,h4,h5⟩:=(show eI X.prog X.w H s.heap D (.dT kvs) from I.hok D _ e);refine ⟨o,?_⟩;have I2:=I.write (x:=D) (e:=D) (o:=.frz o (.dT kvs)) (h':=s.heap) (t':=s.toks) (by rw [e];exact True.intro) (.inl rfl) (λb u _ q=>q) ⟨o,h1⟩ ⟨h1,z,hd,xs,KT.keeps (show KT H kvs xs from rel) λc ys ec=>(by rw [bT (vX ec e (λz=>nomatch z))];exact ec),o,es,ep,h1,h2,h3,h4,h5⟩;exact I2
def VJ(H:Hp)(D:Addr)(kvs:List (List dP × V)):Prop:=∃o,H D=some (.frz o (.dT kvs))
theorem VJ.same{H H':Hp}{D:Addr}{kvs:List (List dP × V)}(s:bC H H')(h:VJ H D kvs):VJ H' D kvs:=by
 obtain ⟨o,h⟩:=h;exact ⟨o,s _ _ h⟩
@[irreducible] def AK:List V->Hp->VK->Prop:=λxs H Q=>∃(t:Addr) (ys:List V) (kvs:List (List dP × V)),xs=[.ref t]/\H t=some (.tup ys)/\Paired (wX H) ys kvs/\(kvs.map (·.1)).Nodup/\kvs.length<=1000/\∀D o,H D=none->Q (.ref D) (upd H D (.frz o (.dT kvs)))
theorem rdcz{Q:VK}{t:Addr}{ys:List V}{kvs:List (List dP × V)}(ht:H t=some (.tup ys))(pr:Paired (wX H) ys kvs)(nd:(kvs.map (·.1)).Nodup)(hz:kvs.length<=1000)(q:∀D H',H D=none->VJ H' D kvs->bC H H'->Q (.ref D) H'):AK [.ref t] H Q:=by
 unfold AK;exact ⟨t,ys,kvs,rfl,ht,pr,nd,hz,λD o hD=>q D _ hD ⟨o,bH⟩ (bC.upd hD)⟩
theorem PL(hu:X.A.units+64<cLine)(hc:X.calm=true):fX X (.type "dict") AK:=by
 unfold AK;intro pins s σ H xs us Q I r h;obtain ⟨t,ys,kvs,rfl,ht,pr,nd,hz,q⟩:=h;refine wpAny_mono (DP hu hc pins s σ H _ us (λv H'=>∃D,v=.ref D/\H D=none/\H'=upd H D (.dT kvs)) I r (by unfold vQ;exact ⟨t,ys,kvs,rfl,ht,pr,nd,hz,λD hD=>⟨D,rfl,hD,rfl⟩⟩)) (λv s' ⟨x,H',I',rx,D,e,hD,eH⟩=>?_) λ_ _ e=>e;subst e eH;cases rx;obtain ⟨o,I2⟩:=I'.freeze bH;rw [GN] at I2;exact ⟨.ref D,_,I2,rfl,q D o hD⟩
theorem vU{α β:Type}{R:α->β->Prop}:∀{l:List α}{m:List β}{i:Nat}{a:α},Paired R l m->l[i]?=some a->∃b,m[i]?=some b/\R a b
 | _,_,i,a,.nil,h=>by simp at h
 | _,_,0,a,.cons r t,h=>by
  cases (show _=a by simpa using h);exact ⟨_,rfl,r⟩
 | _,_,i+1,a,.cons r t,h=>by
  obtain ⟨b,h1,h2⟩:=vU t (by simpa using h);exact ⟨b,by simpa using h1,h2⟩
end
section
variable{X:Cx}{tg:Expr}
end
end L2
namespace HT
open PySem PySem.Spec PyProof.Rows PySem.W
section
variable{prog:Program}{w:World}{A:Around}{d:Addr}{o:Obj}{es:Array DictEntry}{ep:Nat}
theorem IT(hh:A.handled=none)(I:Addr)(hne:d≠I)(hdat:o.data=.dict es ep) :
  Walks prog w A I [I,d] [I] es.size (λi v=>∃hi:i<es.size,v=es[i].key) (λi h=>h.IsKeyIter I d i es.size ep/\h.get? d=some o) where
 sub:=λb hb=>by simp at hb;simp [hb]
 frame:=λ_ _ _ st hk=>⟨st.1.at λo e=>hk I (by simp) o e,hk d (by simp) o st.2⟩
 item:=λi s Q E hi st hQ=>UB st.1 st.2 hdat hi λh' hit' hs' =>
  hQ _ h' s.toks ⟨hi,rfl⟩ ⟨hit',(hs'.2 d hne).trans st.2⟩ λb o hb e=>(hs'.2 b (λh=>hb (by simp [h]))).trans e
 done:=λs Q E st hQ=>aAk hh st.1 st.2 hdat (aJ _) λh' he'=>hQ h' s.toks λb o hb e=>he' b o (λh=>hb (by simp [h])) e
 self:=λ_ _ _ _ st hQ=>wpAny_pyIter_keyiter st.1 hQ
theorem AU(lo:(d == sysModules)=false)(hex:o.ExactDict)(hdat:o.data=.dict es ep):KdlSrc prog w "dict" d d es.size (λi v=>∃hi:i<es.size,v=es[i].key) (λh=>h.get? d=some o) where
 type:=λ_ hm=>⟨o,hm,hex.1⟩
 there:=λ_ hm=>⟨aX hm,aX hm⟩
 keep:=λ_ _ hm hk=>hk d (.inl rfl) o hm
 notList:=Dd
 notTuple:=Dd
 hint:=λ_ _ _ _ hm hq=>kdl_hint_dict ⟨o,hm,hex.1⟩ hq
 iter:=λA s hh hm=>⟨_,_,λE Q hQ=>UD lo hm hex hdat hQ,IT hh _ (bW (aX hm)) hdat,⟨_,aY _ rfl,rfl,rfl⟩,aB _ hm⟩
end
end HT
namespace L2
open PySem PySem.Spec PySem.W PyProof.Rows HT
def xA(H:Hp)(kvs:List (List dP × V))(ys:List V):Prop:=ys.length=kvs.length/\∀(i:Nat) p,kvs[i]?=some p->∃b,ys[i]?=some (.ref b)/\H b=some (.tup (p.1.map kV))
section
variable{prog:Program}{w:World}{A:Around}{E:Value->Shared->Prop}{s:Shared}
theorem uC{T:String}{r d:Addr}{n:Nat}{P:Nat->Value->Prop}{OK:Heap->Prop}{Q:List Value->Shared->Prop}(K:KdlSrc prog w T r d n P OK)(hh:A.handled=none)(hok:OK s.heap)(hn:n<=sizeLine)
  (hQ:∀h' tk (acc':Array Value),(∀b o,s.heap.get? b=some o->h'.get? b=some o)->ItemsOf P acc' n->Q acc'.toList { s with heap:=h',toks:=tk }) :
  wpAny (model prog w) A (collect (.ref r)) Q E s:=by
 have lt:=K.there _ hok;have at0:(s.heap.push (seqObj "list" #[] 0)).get? s.heap.objs.size=some { cls:=.type "list",data:=.seq #[] 0 }:=aY _ rfl
 let G:Result->Shared->Prop:=λa z=>∃g m l e,a=.ok (.ret (.ref s.heap.objs.size))/\z={ s with heap:=g,toks:=m }/\(∀b o,s.heap.get? b=some o->g.get? b=some o)/\g.get? s.heap.objs.size=some { cls:=.type "list",dict:=none,data:=.seq l e,slots:=#[] }/\ItemsOf P l n
 have ext:=kdl_extend (A:=A) (s:={ s with heap:=s.heap.push (seqObj "list" #[] 0) }) (R:=G) K hh (K.keep _ _ hok λb _ o e=>aB _ e) s.heap.objs.size (Nat.ne_of_gt lt.1) (Nat.ne_of_gt lt.2) (.ref s.heap.objs.size) 0 at0
  (λg m l e kp at1 it=>⟨g,m,l,e,rfl,rfl,λb o z=>kp b o (bW (aX z)) (aB _ z),at1,it⟩) hn
 unfold collect;refine wpAny_bind (wpAny_runValue (codeAny_builtin entry_proto_collect' ?_));rw [Around.under_plainId PySem.F.plain_proto_collect _];refine wpAny_bind (m:=newList []) (wpAny_newList (wpAny_pure ⟨plainId_quiet PySem.F.plain_list_iadd _,codeAny_builtin entry_list_iadd' ?_⟩));rw [Around.under_plainId PySem.F.plain_list_iadd _];refine wpAny_mono ext (λfin z y=>?_) λe z ⟨_,_,_,_,q,_⟩=>by cases q
 cases fin with
 | done f=>obtain ⟨g,m,l,e,q,rfl,kp,at1,it⟩:=y;cases q;exact wpAny_bind (wpAny_load at1 (wpAny_pure (hQ g m l kp it)))
 | again c=>exact ⟨y.1,codeAny_mono y.2 λq z ⟨g,m,l,e,eq,ez,kp,at1,it⟩=>by subst eq ez;exact wpAny_bind (wpAny_load at1 (wpAny_pure (hQ g m l kp it)))⟩
theorem EY{x:Value}{Q:Value->Shared->Prop}
  (h:wpAny (model prog w) A.in1 (collect x) (λvs s1=>∃h1 tk cs,s1={ s with heap:=h1,toks:=tk }/\(∀b o,s.heap.get? b=some o->h1.get? b=some o)/\iM h1 vs cs/\vs.length<64 /\
   ∀(p:Array Nat) (h':Heap) (D:Addr) (c:Nat),fB vs.length p->(wZ vs.length (rW cs)->rX (rW cs) p vs.length)->(∀b o,h1.get? b=some o->h'.get? b=some o)->h1.objs.size<=D->h'.get? D=some (seqObj "list" (List.toArray (p.toList.map λi=>vs.getD i Value.none)) c)->Q (.ref D) { s with heap:=h',toks:=tk }) E s) :
  wpAny (model prog w) A (call (.builtin "sorted") [x]) Q E s:=by
 refine Calls.call_function_entry kind_sorted plain_sorted entry_sorted (args_sorted1 _) ?_;unfold Builtin.«sorted»;refine wpAny_bind (m:=checkCount "sorted" 1 1 _) (wpAny_pure ?_);refine wpAny_bind (wpAny_mono h (λvs s1 ⟨h1,tk,cs,e,keep1,ht,h64,q⟩=>?_) λ_ _ e=>e);subst e;refine wpAny_bind (wpAny_newList ?_ (by rw [sizeLine_eq];omega));have hoL:(h1.push (seqObj "list" vs.toArray 0)).get? h1.objs.size=some (seqObj "list" vs.toArray 0):=aY _ rfl;have keep:∀b o,h1.get? b=some o->(h1.push (seqObj "list" vs.toArray 0)).get? b=some o:=λb o q=>aB _ q;show wpAny _ _ _ _ _ { s with heap:=h1.push (seqObj "list" vs.toArray 0),toks:=tk };refine wpAny_bind (wpAny_holding (wpAny_call_entry slot_list_sort ⟨_,hoL,rfl⟩ entry_list_sort ?body (args_list_sort _)));refine yC (s:={ s with heap:=h1.push (seqObj "list" vs.toArray 0),toks:=tk }) hoL (ht.keep λb o hb _=>keep b o hb) h64 λp hp ho=>⟨_,rfl,wpAny_pure ⟨_,rfl,?_⟩⟩;unfold sortedHeap;have o1:((h1.push (seqObj "list" vs.toArray 0)).update h1.objs.size (Obj.mapSeq λ_=>#[])).get? h1.objs.size=some (seqObj "list" #[] _):=get?_update_seq hoL (λ_=>#[]);have o2:=aB (seqObj "list" #[] 0) (aB (seqObj "tuple" vs.toArray 0) o1);refine q p _ h1.objs.size _ hp ho (λb o e=>?_) (aJ _) (get?_update_seq o2 λ_=>List.toArray (p.toList.map λi=>vs.getD i Value.none));have hlt:b<h1.objs.size:=aX e;have hne:b≠h1.objs.size:=bW hlt;rw [cZ _ _ _ _ hne];exact aB _ (aB _ (by rw [cZ _ _ _ _ hne];exact keep b o e))
end
theorem OY{X:Cx}{pins:List (Addr × Obj)}{σ:St}{H:Hp}{s:Shared}(I:cE X pins σ H s){d:Addr}{kvs:List (List dP × V)}(e:H d=some (.dT kvs)):(d == sysModules)=false/\(kvs.map (·.1)).Nodup/\∃o,s.heap.get? d=some o/\o.ExactDict/\∃es ep,o.data=.dict es ep/\es.size=kvs.length /\
  ∀(i:Nat) (hi:i<es.size) p,kvs[i]?=some p->∃b,es[i].key=.ref b/\H b=some (.tup (p.1.map kV)):=by
 obtain ⟨z,hd,xs,rel,o,es,ep,h1,h2,h3,h4,h5⟩:=(show eI X.prog X.w H s.heap d (.dT kvs) from I.hok d _ e);have hl:es.size=kvs.length:=by
  have:=congrArg List.length h4;rw [aA,<-Paired.length rel] at this;simpa using this
 have hk:kvs.map (·.1)=xs.map (·.1):=by
  clear h4 h5 hl e z
  induction rel with
  | nil=>rfl
  | cons r t ih=>rw [aO,aO,r.1,ih]
 refine ⟨hd,hk ▸ h5,o,h1,h2,es,ep,h3,hl,λi hi p hp=>?_⟩;obtain ⟨x,hx,r1,r2,r3⟩:=vU rel hp;have he:es.toList[i]?=some (entryOfKey (tupleKind (eC X.prog X.w)) x):=by rw [h4,aE,hx];rfl
 have he2:es[i]=entryOfKey (tupleKind (eC X.prog X.w)) x:=by
  have:es.toList[i]?=some es[i]:=by simp [hi]
  rw [this] at he;injection he
 rw [he2];exact ⟨x.2.1,rfl,r2⟩
abbrev TZ(c:List Int):List dP:=c.map Sum.inl
theorem kyV(c:List Int):(TZ c).map kV=c.map V.int:=by rw [List.map_map];rfl
@[irreducible] def AI:List V->Hp->VK->Prop:=λxs H Q=>∃(d:Addr) (kvs:List (List dP × V)) (cs:List (List Int)),xs=[.ref d]/\H d=some (.dT kvs)/\kvs.map (·.1)=cs.map TZ/\(∀c∈cs,c≠[])/\cs.length<64 /\
 ∀q (ys:List V) (ds:List (List Int)) H',ds.Perm cs->ds.Pairwise (λa b=>hV a b=true)->H q=none->H' q=some (.lst ys)->bD H' (ds.map λc=>PyData.tuple (c.map .int)) ys->bC H H'->Q (.ref q) H'
theorem rsrd{H:Hp}{Q:VK}{d:Addr}{kvs:List (List dP × V)}{cs:List (List Int)}(h:H d=some (.dT kvs))(hk:kvs.map (·.1)=cs.map TZ)(hc:∀c∈cs,c≠[])(hz:cs.length<64)
  (q:∀q (ys:List V) (ds:List (List Int)) H',ds.Perm cs->ds.Pairwise (λa b=>hV a b=true)->H q=none->H' q=some (.lst ys)->bD H' (ds.map λc=>PyData.tuple (c.map .int)) ys->bC H H'->Q (.ref q) H'):AI [.ref d] H Q:=by
 unfold AI;exact ⟨d,kvs,cs,rfl,h,hk,hc,hz,q⟩
theorem UV{X:Cx}(hc:X.calm=true):fX X (.builtin "sorted") AI:=by
 unfold AI;intro pins s σ H xs us Q I r h;obtain ⟨d,kvs,cs,rfl,hq,hk,hne,hz,q⟩:=h;obtain ⟨u,rfl,rx⟩:=jJ r;cases rx;obtain ⟨hm,hnd,o,hod,hex,es,ep,hdd,hsz,hat⟩:=OY I hq;have lk:kvs.length=cs.length:=by have:=congrArg List.length hk;simpa using this
 refine EY (uC (AU hm hex hdd) (show X.A.in1.handled=none from I.ok.hd hc) hod (by rw [sizeLine_eq];omega) λh1 tk acc kp hacc=>?_);obtain ⟨la,hacc⟩:=hacc;have I1:cE X pins σ H { s with heap:=h1,toks:=tk }:=I.kept kp;have key:∀(n:Nat) (l:List Value),l.length=n->∀(m:List (List Int)),m.length=n->(∀(i:Nat) v c,l[i]?=some v->m[i]?=some c->∃b,v=.ref b/\H b=some (.tup (c.map V.int)))->∃ys:List V,cV ys l/\bD H (m.map λc=>PyData.tuple (c.map .int)) ys:=by
  intro n
  induction n with
  | zero =>
   intro l hl m hm _;cases l with
   | nil=>cases m with
    | nil=>exact ⟨[],.nil,bD.nil⟩
    | cons _ _=>simp at hm
   | cons _ _=>simp at hl
  | succ n ih =>
   intro l hl m hm hk;cases l with
   | nil=>simp at hl
   | cons v l=>cases m with
    | nil=>simp at hm
    | cons c m =>
     obtain ⟨b,rfl,hb⟩:=hk 0 v c rfl rfl;obtain ⟨ys,hv,hy⟩:=ih l (by simpa using hl) m (by simpa using hm) λi v p h1 h2=>hk (i+1) v p (by simpa using h1) (by simpa using h2);have rb:∀c:List Int,bD H (c.map PyData.int) (c.map V.int):=λc=>by
      induction c with
      | nil=>exact bD.nil
      | cons x c ih=>exact bD.cons (cO.int _) ih
     exact ⟨.ref b::ys,.cons rfl hv,bD.cons (cO.tup hb (rb c)) hy⟩
 have lacc:acc.toList.length=cs.length:=by rw [Array.length_toList,la,hsz,lk]
 obtain ⟨ys,hv,hy⟩:=key cs.length acc.toList lacc cs rfl λi v c e1 e2=>by
  obtain ⟨hi,e⟩:=hacc i v (by rw [<-Array.getElem?_toList];exact e1);have hp:∃p,kvs[i]?=some p/\p.1=TZ c:=by
   have:(kvs.map (·.1))[i]?=some (TZ c):=by rw [hk,aE,e2];rfl
   rw [aE] at this;obtain ⟨p,h1,h2⟩:=eE.mp this;exact ⟨p,h1,h2⟩
  obtain ⟨p,hp1,hp2⟩:=hp;obtain ⟨b,k1,k2⟩:=hat i hi p hp1;rw [hp2,kyV] at k2;exact ⟨b,by rw [e,k1],k2⟩
 have hnd2:cs.Nodup:=by
  rw [hk] at hnd;exact List.Pairwise.of_map _ (λa b h e=>h (by rw [e])) hnd
 have lys:ys.length=cs.length:=by rw [hy.len,aA]
 refine ⟨h1,tk,cs,rfl,kp,zP I1 hy hne hv,Oo,λpm h' D c hg ho keep hD hget=>?_⟩;have hperm:pm.toList.Perm (List.range cs.length):=by
  have:=(Array.perm_iff_toList_perm.mp hg);rw [<-lacc];simpa using this
 have hlt:∀i∈pm.toList,i<ys.length:=λi hi=>by
  have:=hperm.mem_iff.mp hi;rw [lys];simpa using this
 have hl2:(pm.toList.map λi=>ys.getD i .non).length=cs.length:=by rw [aA,hperm.length_eq,bK]
 have hn:=I1.hok.fresh hD;have sm:bC H (upd H D (.lst (pm.toList.map λi=>ys.getD i .non))):=bC.upd hn;refine ⟨.ref D,upd H D (.lst (pm.toList.map λi=>ys.getD i .non)),I1.laid (t':=tk) keep hD ⟨by rw [hl2,sizeLine_eq];omega,_,c,uJ hv _ hlt,hget⟩,rfl,?_⟩;have ha:=ho (lacc ▸ FI hnd2);have hsz2:=hg.size;have hpm:(pm.toList.map λi=>cs.getD i []).Perm cs:=by
  have h1:=hperm.map λi=>cs.getD i [];have e:(List.range cs.length).map (λi=>cs.getD i [])=cs:=by
   apply List.ext_getElem?;intro i;rw [aE];by_cases hi:i<cs.length
   ·rw [bN hi,aC hi,Option.map_some,aN,aC hi];rfl
   ·rw [bO (by simpa using hi),bO Oo];rfl
  rwa [e] at h1
 refine q D _ (pm.toList.map λi=>cs.getD i []) _ hpm ?_ hn bH ?_ sm
 ·rw [List.pairwise_map,List.pairwise_iff_getElem];intro i j hi hj hij;have hi':i<pm.size:=by simpa using hi
  have hj':j<pm.size:=by simpa using hj
  have e1:pm.toList[i]=pm.getD i 0:=by rw [Array.getElem_toList];exact (by simp [Array.getD,hi']:pm.getD i 0=pm[i]).symm
  have e2:pm.toList[j]=pm.getD j 0:=by rw [Array.getElem_toList];exact (by simp [Array.getD,hj']:pm.getD j 0=pm[j]).symm
  rw [e1,e2];exact ha i j hij (by rw [<-hsz2];exact hj')
 ·have rep:∀ix:List Nat,(∀i∈ix,i<cs.length)->bD H ((ix.map λi=>cs.getD i []).map λc=>PyData.tuple (c.map .int)) (ix.map λi=>ys.getD i .non):=λix=>by
   induction ix with
   | nil=>exact λ_=>bD.nil
   | cons i ix ih =>
    intro h;have hi:=h i (aH ..);have hd:(cs.map λc=>PyData.tuple (c.map .int))[i]?=some (PyData.tuple ((cs.getD i []).map .int)):=by
     rw [aE,aN,aC hi];rfl
    obtain ⟨x,hx,rx⟩:=hy.get' hd;have e2:ys.getD i .non=x:=by rw [aN,hx];rfl
    refine bD.cons ?_ (ih λj hj=>h j (aF _ hj));show cO H _ (ys.getD i .non);rw [e2];exact rx
  exact (rep pm.toList λi hi=>by rw [<-lys];exact hlt i hi).same sm
end L2
namespace HT
open PySem PySem.Spec PyProof.Rows PySem.W
section
variable{prog:Program}{w:World}{A:Around}{E:Value->Shared->Prop}{s:Shared}{it d:Addr}{es:Array DictEntry}{ep i:Nat}{od:Obj}
end
end HT
namespace L2
open PySem PySem.Spec PySem.W PyProof.Rows HT
section
variable{X:Cx}{tg:Expr}
end
theorem VJ.get{H:Hp}{d b:Addr}{kvs:List (List dP × V)}{k:List dP}(h:VJ H d kvs)(hb:H b=some (.tup (k.map kV))):iS H d (.ref b) (dU kvs k):=by
 obtain ⟨o,h⟩:=h;exact .inr ⟨kvs,k,b,.inr ⟨o,h⟩,rfl,hb,rfl⟩
section
variable{X:Cx}{o e:Expr}{apos cpos:Pos}{td ty:TE}
theorem GL(hu:X.A.units+1<cLine)(ho:fY X o td)(he:fY X e ty)(base:attributeBase o "get" X.env (eval o X.env)=eval o X.env:=by rfl)
  (few:((backTo cpos (starEach [e] X.env)).all (λx=>!x.1)&&(backToKw cpos (keywordEach [] X.env)).all (λx=>x.1.isSome)&&decide (([e]:List Expr).length+([]:List Keyword).length+(if ([]:List Keyword).isEmpty then 0 else 1)<30))=true:=by rfl)
  (line:(apos.endLine == cpos.line)=true:=by rfl) (trees:backTo cpos (starEach [e] X.env)=[(false,eval e X.env)]:=by rfl):fY X (.Call (.Attribute o "get" apos) [e] [] cpos) (MG td ty):=⟨NL hu ho.p he.p ⟨base,few,line,trees⟩⟩
end
@[irreducible] def GY(K:PySem.W.Frag):List V->Hp->VK->Prop:=λxs H Q=>∃(p:Addr) (ns:List Int),xs=[.ref p]/\fS K H p (ns.map V.int)/\0<ns.length/\∀M,M∈ns->(∀a,a∈ns->a<=M)->Q (.int M) H
theorem rmxl{K:PySem.W.Frag}{H:Hp}{Q:VK}{p:Addr}{ns:List Int}(h:fS K H p (ns.map V.int))(hn:0<ns.length)(q:∀M,M∈ns->(∀a,a∈ns->a<=M)->Q (.int M) H):GY K [.ref p] H Q:=by
 unfold GY;exact ⟨p,ns,rfl,h,hn,q⟩
theorem UX{X:Cx}(K:PySem.W.Frag)(hc:X.calm=true)(hK:X.K=K:=by rfl):fX X (.builtin "max") (GY K):=by
 subst hK;unfold GY;intro pins s σ H xs us Q I r h;obtain ⟨p,ns,rfl,hq,hn,q⟩:=h;obtain ⟨u,rfl,rx⟩:=jJ r;cases rx;obtain ⟨its,r',pl,hz⟩:=I.list hq;have hi:=mV r';obtain ⟨zs,e⟩:=hi.allInts.items;have hns:ns=zs.toList.map (·.1):=by rw [<-hi.numsOf,<-nums_intItems,<-e]
 have hsz:0<zs.size:=by rw [hns,aA,Array.length_toList] at hn;exact hn
 rw [e] at pl;refine max_intList (I.ok.hd hc) pl.isList hsz λv h' tk hv hk=>?_;obtain ⟨t,rfl⟩:=intItems_at hv;obtain ⟨h1,h2⟩:=argBest_gt (numAt zs) (zs.size-1);refine ⟨.int _,H,I.kept hk,⟨t,rfl⟩,q _ ?_ λa ha=>?_⟩
 ·rw [hns,numAt_eq];exact getD_mem (by rw [aA,Array.length_toList];omega)
 ·rw [hns] at ha;obtain ⟨j,hj,rfl⟩:=mem_getD ha;rw [aA,Array.length_toList] at hj;rw [<-numAt_eq];exact h2 j Oo
end L2
namespace L2
open PySem
section
variable{js:List Nat}{te:TE}{tc:TT}{σ:St}{H:Hp}{Q:VK}
end
end L2
namespace L2
open PySem PySem.Spec PyProof.Rows
section
variable{X:Cx}{pins:List (Addr × Obj)}{σ:St}{H:Hp}{s:Shared}{scope:Scope}{x x2:Str}{N':List Str}{js:List Nat}{fp:List Addr}
end
section
variable{X:Cx}{pins:List (Addr × Obj)}{σ:St}{H:Hp}{s:Shared}{scope:Scope}{x:Str}{N':List Str}{js:List Nat}{fp:List Addr}{elt iter:Expr}{px pos:Pos}{tg:Expr}{x2:Str}{te:TE}
end
section
variable{X:Cx}{scope:Scope}{x x2 y:Str}{N':List Str}{js:List Nat}{elt iter tg:Expr}{py pos spos:Pos}{te:TE}{wi:TI}{i:Nat}
end
end L2
namespace HT
open PySem PySem.Spec PyProof.Rows
section
variable{prog:Program}{w:World}{A:Around}{E:Value->Shared->Prop}{s:Shared}{d:Addr}{o:Obj}{es:Array DictEntry}{ep:Nat}
end
end HT
namespace L2
open PySem PySem.Spec PySem.W PyProof.Rows HT
theorem qA(c:List Int):(c.map (Sum.inl:Int->dP)).map kV=c.map V.int:=by rw [List.map_map];rfl
abbrev kT(c:List Int):List dP:=c.map Sum.inl
theorem jT{a b:List Int}(h:kT a=kT b):a=b:=by
 have:∀{a b:List Int},kT a=kT b->a=b:=by
  intro a
  induction a with
  | nil=>intro b h;cases b with
   | nil=>rfl
   | cons _ _=>cases h
  | cons x a ih=>intro b h;cases b with
   | nil=>cases h
   | cons y b =>
    injection h with h1 h2;injection h1 with h1;rw [h1,ih h2]
 exact this h
section
variable{X:Cx}{o e f k v:Expr}{apos cpos pos:Pos}{td ty tx tk tv:TE}
@[irreducible] def SH(p:Addr)(x y:V)(H2:Hp)(Q:VK):Prop:=∃b k,x=.ref b/\H2 b=some (.tup (k.map kV))/\H2 p=some (.dT [])/\Q (.ref p) (upd H2 p (.dT [(k,y)]))
def XL(tk tv:TE):TE:=λσ H Q=>∀p,H p=none->tk σ (upd H p (.dT [])) λx H1=>tv σ H1 λy H2=>SH p x y H2 Q
theorem aCK{p b:Addr}{y:V}{H:Hp}{Q:VK}{c:List Int}(hb:H b=some (.tup (c.map V.int)))(hp:H p=some (.dT []))(q:∀H',H' p=some (.dT [(kT c,y)])->aU p H H'->Q (.ref p) H'):SH p (.ref b) y H Q:=by
 unfold SH;exact ⟨b,kT c,rfl,by rw [qA];exact hb,hp,q _ bH aU.self⟩
theorem LX(hu:X.A.units+1<cLine)(hk:fY X k tk)(hv:fY X v tv):fY X (.Dict [some k] [v] pos) (XL tk tv):=⟨by
 intro pins s σ H Q I q;have hn:=I.hok.fresh (aJ s.heap.objs.size);have I1:=I.laid (a:=s.heap.objs.size) (o:=.dT []) (h':=s.heap.push { cls:=.type "dict",data:=.dict #[] }) (t':=s.toks) (λ_ _ q=>aB _ q) (aJ _) (wO s.heap I.big);refine wpAny_Dict_any rfl rfl (by simp) (show 1<=15 by decide) (pairTrees_cons_walk (thn (hk.p pins _ σ _ _ I1 (q _ hn)) λu s1 ⟨x,H1,I1,rx,q1⟩=>thn (hv.p pins s1 σ H1 _ I1 q1) λw2 s2 ⟨y,H2,I2,ry,q2⟩=>pairTrees_nil_walk ?_));unfold SH at q2;obtain ⟨b,kk,rfl,eb,e,q3⟩:=q2;cases (show u=Value.ref b from rx);obtain ⟨z,hd,xs,rel,dd⟩:=WR I2.hok e;unfold storeAll;rw [List.forIn_cons];refine wpAny_bind (wpAny_bind (wpAny_dictSet_heap (show X.A.units<cLine by omega) (lJ I2.hok eb) dd (λh' dd' hs=>wpAny_pure ?_) (by rw [<-Paired.length rel];exact z)));dsimp only;rw [List.forIn_nil];refine wpAny_pure ?_;obtain ⟨q,es,ep,hq,h2,h3,h4,_,h5⟩:=dd';refine ⟨.ref _,_,?_,rfl,q3⟩;have hl:([(kk,y)]:List (List dP × V)).length<=sizeLine:=by show 1<=sizeLine;decide
 refine rM I2 (by rw [e];exact True.intro) hs ⟨q,hq⟩ ⟨hl,hd,_,(rel.put kk eb ry).keeps λc ys ec=>?_,q,es,ep,hq,h2,h3,h4,h5⟩;rw [bT (vX ec e (λz=>nomatch z))];exact ec⟩
theorem uI(hu:X.A.units+1<cLine)(ho:fY X o td)(he:fY X e ty)(hf:fY X f tx)(base:attributeBase o "get" X.env (eval o X.env)=eval o X.env:=by rfl)
  (few:((backTo cpos (starEach [e,f] X.env)).all (λx=>!x.1)&&(backToKw cpos (keywordEach [] X.env)).all (λx=>x.1.isSome)&&decide (([e,f]:List Expr).length+([]:List Keyword).length+(if ([]:List Keyword).isEmpty then 0 else 1)<30))=true:=by rfl)
  (line:(apos.endLine == cpos.line)=true:=by rfl) (trees:backTo cpos (starEach [e,f] X.env)=[(false,eval e X.env),(false,eval f X.env)]:=by rfl):fY X (.Call (.Attribute o "get" apos) [e,f] [] cpos) (MF td ty tx):=⟨NK hu ho.p he.p hf.p ⟨base,few,line,trees⟩⟩
@[irreducible] def JM(b:Bool):R2:=λx y H Q=>∃a o,y=.ref a/\iS H a x o/\Q (.bl (xor b o.isSome)) H
theorem rind{b:Bool}{x:V}{a:Addr}{o:Option V}{H:Hp}{Q:VK}(g:iS H a x o)(q:Q (.bl (xor b o.isSome)) H):JM b x (.ref a) H Q:=by unfold JM;exact ⟨a,o,rfl,g,q⟩
theorem ZY(hu:X.A.units+1<cLine):mN X (compareOp .In) (JM false):=by
 intro pins s σ H x y v u Q I rx ry h;unfold JM at h;obtain ⟨a,o,rfl,g,q⟩:=h;cases (show u=Value.ref a from ry);exact aDt hu I g rx λs3 I3=>⟨.bl _,H,I3,rfl,by simpa using q⟩
theorem JV(hu:X.A.units+1<cLine):mN X (compareOp .NotIn) (JM true):=by
 intro pins s σ H x y v u Q I rx ry h;unfold JM at h;obtain ⟨a,o,rfl,g,q⟩:=h;cases (show u=Value.ref a from ry);exact UN hu I g rx λs3 I3=>⟨.bl _,H,I3,rfl,by simpa using q⟩
end
theorem dpT{H:Hp}{p b:Addr}{kvs:List (List dP × V)}{c:List Int}{v:V}{D:tI}{σ:St}(e:H p=some (.dT kvs))(eb:H b=some (.tup (c.map V.int)))(hl:kvs.length<=100000)(q:∀H',H' p=some (.dT (iQ kvs (kT c) v))->aU p H H'->D.nx σ H') :
  rDP D σ (.ref p) (.ref b) v H:=by
 unfold rDP;exact ⟨p,_,rfl,BN.t (k:=kT c) e (by rw [qA];exact eb) (bB hl Dd),q _ bH aU.self⟩
theorem iS.ct{H:Hp}{p b:Addr}{kvs:List (List dP × V)}{c:List Int}(e:H p=some (.dT kvs))(eb:H b=some (.tup (c.map V.int))):iS H p (.ref b) (dU kvs (kT c)):=iS.t e (by rw [qA];exact eb)
theorem dgT{H:Hp}{p b:Addr}{kvs:List (List dP × V)}{c:List Int}{v:V}{Q:VK}(e:H p=some (.dT kvs))(eb:H b=some (.tup (c.map V.int)))(hv:dU kvs (kT c)=some v)(q:Q v H):WD (.ref p) (.ref b) H Q:=by
 unfold WD;exact ⟨p,v,rfl,hv ▸ iS.ct e eb,q⟩
theorem VJ.ct{H:Hp}{d b:Addr}{kvs:List (List dP × V)}{c:List Int}(h:VJ H d kvs)(hb:H b=some (.tup (c.map V.int))):iS H d (.ref b) (dU kvs (kT c)):=h.get (by rw [qA];exact hb)
theorem dgZ{H:Hp}{p b:Addr}{kvs:List (List dP × V)}{c:List Int}{v:V}{Q:VK}(e:VJ H p kvs)(eb:H b=some (.tup (c.map V.int)))(hv:dU kvs (kT c)=some v)(q:Q v H):WD (.ref p) (.ref b) H Q:=by
 unfold WD;exact ⟨p,v,rfl,hv ▸ e.ct eb,q⟩
@[irreducible] def vP(K:PySem.W.Frag):List V->Hp->VK->Prop:=λxs H Q=>∃x d,xs=[x]/\iE K H d x/\d.showable=true/\d.hasDict=false/\d.depth<=60/\d.shown.length<=sizeLine/\Q (.str d.shown) H
theorem rrK{K:PySem.W.Frag}{H:Hp}{Q:VK}{x:V}{d:PyData}(r:iE K H d x)(h1:d.showable=true)(h2:d.hasDict=false)(h3:d.depth<=60)(h4:d.shown.length<=sizeLine)(q:Q (.str d.shown) H):vP K [x] H Q:=by unfold vP;exact ⟨x,d,rfl,r,h1,h2,h3,h4,q⟩
theorem wS{X:Cx}(K:PySem.W.Frag)(hg:X.A.guards=some [])(hu:X.A.units+64<cLine)(hK:X.K=K:=by rfl):fX X (.builtin "repr") (vP K):=by
 subst hK;unfold vP;intro pins s σ H xs us Q I r h;obtain ⟨x,d,rfl,hr,hs,hnd,hdp,hz,q⟩:=h;obtain ⟨u,rfl,ru⟩:=jJ r;obtain ⟨as,rd⟩:=hr.reads I ru;cases rd with
 | none=>exact PySem.P.repr_of_none ⟨.str _,H,I.tok _,⟨_,rfl⟩,q⟩
 | bool b=>exact PySem.P.repr_of_bool ⟨.str _,H,I.tok _,⟨_,rfl⟩,q⟩
 | int i t=>exact PySem.P.repr_of_int (by simpa [PyData.showable] using hs) ⟨.str _,H,I.tok _,⟨_,rfl⟩,q⟩
 | str y t=>exact PySem.P.repr_of_str ⟨.str _,H,I.tok _,⟨_,rfl⟩,q⟩ hz
 | list a1 a2 a3 a4=>exact repr_of_reads' (.list a1 a2 a3 a4) hs (PyData.noDict_hsm hnd) hg Oo (λ_ _ e=>e) (λh' u tk hk=>⟨.str _,H,I.kept hk,⟨_,rfl⟩,q⟩) hz
 | tuple a1 a2 a3 a4=>exact repr_of_reads' (.tuple a1 a2 a3 a4) hs (PyData.noDict_hsm hnd) hg Oo (λ_ _ e=>e) (λh' u tk hk=>⟨.str _,H,I.kept hk,⟨_,rfl⟩,q⟩) hz
 | dict a1 a2 a3 a4 a5=>simp [PyData.hasDict] at hnd
theorem xR{kvs:List (List dP × V)}{k:List dP}{v:V}(h:(dU kvs k).isSome=true):(iQ kvs k v).map (·.1)=kvs.map (·.1):=by
 unfold iQ;rw [jK,if_pos h,List.map_map];refine dN λp _=>?_;show (if p.1=k then (p.1,v) else p).1=p.1;split <;> rfl
end L2
namespace L2
open PySem PySem.Spec PyProof.Rows
structure gC(X:Cx)(scope:Scope)(xs:List Str)(N':List Str)(js:List Nat):Prop where
 calm:X.calm=true
 free:∀y∈scope.names,y.2=.free->X.env.kindOf y.1=some .cell
 cell:∀y∈scope.names,y.2 ≠ .cell
 kind:scope.kind=.function
 names:∀y∈scope.names,y.2=.local->scope.names.lookup y.1=some .local
 own:∀x∈xs,scope.names.lookup x=some .local
 nofl:∀y,(y,NameKind.free)∈scope.names->scope.names.lookup y=some .local->False
 len:N'.length=xs.length+js.length
 pre:∀(i:Nat) x,xs[i]?=some x->N'[i]?=some x
 nd:N'.Nodup
 slot:∀(i:Nat) (j:Nat),js[i]?=some j->∃y,N'[xs.length+i]?=some y/\X.N[j]?=some y/\(y,NameKind.free)∈scope.names
def AW:Nat->Nat->QE
 | _,0=>aAy
 | i,n+1=>OO (rH i) (AW (i+1) n)
def gN(K:PySem.W.Frag)(n:Nat):TG:=aAw K n (AW 0 n)
theorem wK{H:Hp}{r:St}{Q:St->Hp->Prop}:∀(vs:List V) (pre os:St),os.length=vs.length->Q (pre++(vs.map some++r)) H->AW pre.length vs.length vs (pre++(os++r)) H Q
 | [],pre,[],_,q=>⟨rfl,q⟩
 | v::vs,pre,o::os,hl,q=>by
  refine ⟨v,vs,rfl,?_⟩;show AW (pre.length+1) vs.length vs ((pre++(o::os++r)).set pre.length (some v)) H Q;have e1:(pre++(o::os++r)).set pre.length (some v)=(pre++[some v])++(os++r):=by
   rw [List.set_append_right _ _ (aJ _),Nat.sub_self,List.append_assoc];rfl
  have e2:pre.length+1=(pre++[some v]).length:=by rw [bF];rfl
  rw [e1,e2];refine wK vs (pre++[some v]) os (by simpa using hl) ?_;rw [List.append_assoc];exact q
@[irreducible] def xB(K:PySem.W.Frag)(n:Nat)(J:It)(σ:St)(js:List Nat)(tc:TT)(te:TE)(H1:Hp)(Q:VK):Prop:=∀D,H1 D=none->∃W:Nat->Nat->List V->Hp->Prop,(∃m,W 0 m [] (upd H1 D (.lst []))) /\
 ∀i m ys H2,W i m ys H2->H2 D=some (.lst ys)/\((J.stop i H2/\Q (.ref D) H2)\/(J.go i H2/\ys.length<sizeLine/\∀x H3,J.yld i H2 x H3->∃a vs,x=.ref a/\eZ K H3 a vs/\vs.length=n /\
  qK tc (vs.map some++slots σ js) H3 λb H4=>if b=true then zS te (vs.map some++slots σ js) H4 λy H5=>H5 D=some (.lst ys)/\∃m',m' < m/\W (i+1) m' (ys++[y]) (upd H5 D (.lst (ys++[y])))
   else H4 D=some (.lst ys)/\∃m',m' < m/\W (i+1) m' ys H4))
def MH(K:PySem.W.Frag)(n:Nat)(wi:TI)(js:List Nat)(tc:TT)(te:TE):TE:=λσ H Q=>wi σ H λJ H1=>xB K n J σ js tc te H1 Q
section
variable{X:Cx}{pins:List (Addr × Obj)}{σ:St}{H:Hp}{s:Shared}{scope:Scope}{xs:List Str}{N':List Str}{js:List Nat}{fp:List Addr}
theorem gC.cells(S:gC X scope xs N' js)(ok:X.Ok):∀y∈scope.names,y.2=.free->∃c,X.env.cells.lookup y.1=some c:=λy hy hf=>ok.has _ (.inl (S.free y hy hf))
theorem UO(S:gC X scope xs N' js)(I:cE X pins σ H s)(hf:∀b∈fp,jP X pins H b)(hb:∀b∈fp,b<s.heap.objs.size):(lO X scope s.heap.objs.size fp s H N').Ok where
 mod:=I.ok.mod
 kind:=S.kind
 glob:=I.ok.glob
 blt:=I.ok.blt
 above:=aJ _
 inj:=λy z c h1 h2=>I.ok.inj y z c (gY (S.cells I.ok) h1) (gY (S.cells I.ok) h2)
 has:=λy hy=>by
  have hm:(y,NameKind.free)∈scope.names:=by
   rcases hy with hy | hy
   ·exact iI (env:=X.env) hy (.inl rfl) S.cell
   ·exact iI (env:=X.env) hy (.inr rfl) S.cell
  obtain ⟨c,hc⟩:=S.cells I.ok _ hm rfl;exact ⟨c,mI (S.cells I.ok) hm hc⟩
 cab:=λ_ _ h=>by cases h
 hd:=λ_=>I.ok.hd S.calm
 frames:=I.ok.frames
 stk:=.inl rfl
 exf:=λb hb'=>⟨λe=>by have:=hb b hb';rw [e] at this;exact cP _ this,λy c h=>(hf b hb').2.2.2.2.1 y c (gY (S.cells I.ok) h)⟩
 bs:=I.bs
 bsz:=aQ I.ok.bsz I.sz
 noex:=λb o e hb'=>by
  rcases (hf b hb').2.2.2.1 with h | h
  ·exact I.ok.noex b o e h
  ·exact absurd (aV (aX e) (aQ I.ok.bsz h)) (cP _)
 exfs:=λb hb' hs=>by
  have h2:=I.stkSub b hs;rcases aT.mp h2 with h2 | h2
  ·exact (hf b hb').2.1 h2
  ·exact (hf b hb').2.2.1 h2
 funs:=I.stack
 frf:=I.stkFree
theorem OZ{h':Heap}{tk:Nat}(S:gC X scope xs N' js)(I:cE X pins σ H s)(hf:∀b∈fp,jP X pins H b)(hb:∀b∈fp,b<s.heap.objs.size)
  (hn:h'.Ns s.heap.objs.size (λ_=>none)) (hk:∀b o,s.heap.get? b=some o->h'.get? b=some o):cE (lO X scope s.heap.objs.size fp s H N') [] (List.replicate xs.length none++slots σ js) H { s with heap:=h',toks:=tk } where
 ok:=UO S I hf hb
 os:=rfl
 bare:=I.bare
 base:=Un.kept hk
 loc:=by
  refine ⟨_,hn,λi y v hi hv hvis=>?_⟩;by_cases hlt0:i<xs.length
  ·rw [List.getElem?_append_left (by rw [cB];exact hlt0),List.getElem?_replicate,if_pos hlt0] at hv;cases hv
  ·obtain ⟨i,rfl⟩:∃k,i=xs.length+k:=⟨i-xs.length,Oo⟩;rw [List.getElem?_append_right (by rw [cB];omega),cB,Nat.add_sub_cancel_left] at hv;have hv':(slots σ js)[i]?=some (some v):=hv;have hlt:i<js.length:=by
    have:=(aK.mp hv').1;unfold slots at this
    rwa [aA] at this
   have hj:js[i]?=some js[i]:=aC hlt;obtain ⟨z,h1,h2,h3⟩:=S.slot i _ hj;have hzy:z=y:=by
    have:N'[xs.length+i]?=some y:=hi;rw [h1] at this;cases this;rfl
   subst hzy;rw [yD hj] at hv';have hσ:σ[js[i]]?=some (some v):=by
    cases q:σ[js[i]]? with
    | none=>rw [q] at hv';cases hv'
    | some o=>rw [q] at hv';cases hv';rfl
   have hkc:X.env.kindOf z=some .cell:=S.free _ h3 rfl;obtain ⟨m,hm,hl⟩:=I.loc;obtain ⟨u,ru,lk⟩:=hl _ z v h2 hσ (.inr (.inl hkc));rcases lk with ⟨hk1,_⟩ | ⟨_,c,hc,hcell⟩
   ·rw [hkc] at hk1;cases hk1
   ·refine ⟨u,ru,.inr ⟨?_,c,mI (S.cells I.ok) h3 hc,?_⟩⟩
    ·rcases hvis with hvis | hvis | hvis
     ·exfalso;have hcl:=mI (S.cells I.ok) h3 hc;have hm2:=mT (l:=(relabel scope X.env).names) hvis;unfold relabel at hm2;obtain ⟨⟨n,k⟩,hmem,he⟩:=aD.mp hm2;dsimp only at he;by_cases hq:(k == NameKind.free&&X.env.scope.kind == .function&&X.env.kindOf n == some .cell)=true
      ·rw [if_pos hq] at he;cases he
      ·rw [if_neg hq] at he;cases he;have:=S.names _ hmem rfl;have l2:=mQ h3;obtain ⟨c',l2⟩:=l2;dsimp only at this;rw [this] at l2;have key:(relabel scope X.env).names.lookup z=some .local:=lookup_relabel_local this;have hck:scope.names.lookup z=some .local:=this;exact S.nofl z h3 hck
     ·exact .inl hvis
     ·exact .inr hvis
    ·obtain ⟨o,e,r⟩:=hcell;exact ⟨o,hk _ _ e,r⟩
 cell:=λy c h=>by
  obtain ⟨v,o,e,r⟩:=I.cell y c (gY (S.cells I.ok) h);exact ⟨v,o,hk _ _ e,r⟩
 free:=I.hok.fresh (aJ _)
 freeC:=λy c h=>I.freeC y c (gY (S.cells I.ok) h)
 pin:=λp hp=>by cases hp
 hok:=I.hok.kept hk
 len:=by
  rw [bF,cB];unfold slots;rw [aA];exact S.len.symm
theorem KO{H2:Hp}{σ':St}{s2:Shared}{h'':Heap}(S:gC X scope xs N' js)(I:cE X pins σ H s)(hf:∀b∈fp,jP X pins H b)
  (J:cE (lO X scope s.heap.objs.size fp s H N') [] σ' H2 s2) (hs:Heap.SameBut s.heap.objs.size s2.heap h''):cE X pins σ H2 { s2 with heap:=h'' }:=by
 have hC:H2 s.heap.objs.size=none:=J.free;have ne:∀{b:Addr} {o:Obj},s.heap.get? b=some o->b≠s.heap.objs.size:=λe q=>by
  have:=aX e;rw [q] at this;exact cP _ this
 refine I.call' (s':={ s2 with heap:=h'' }) (ch:=fp) (by rw [show ({ s2 with heap:=h'' }:Shared).os=s2.os from rfl];exact J.os) ?_ (J.hok.but hC λb u hb q=>hs.extBut b u hb q) J.bare λb hb=>⟨(hf b hb).2.2.2.1,(hf b hb).2.1,(hf b hb).2.2.2.2.1,(hf b hb).2.2.2.2.2⟩;have U:=J.base;exact {
  keep:=λb o e n h1 h2=>hs.extBut b o (ne e) (U.keep b o e n h1 h2)
  slot:=λb o e n h1 h2=>by
   obtain ⟨sl,q⟩:=U.slot b o e n h1 h2;exact ⟨sl,hs.extBut b _ (ne e) q⟩
  free:=U.free
  there:=λb o e h2=>by
   obtain ⟨o',q⟩:=U.there b o e h2;exact ⟨o',hs.extBut b _ (ne e) q⟩
  tups:=U.tups
  frzs:=U.frzs
  tbls:=U.tbls }
end
section
variable{X:Cx}{pins:List (Addr × Obj)}{σ:St}{H:Hp}{s:Shared}{scope:Scope}{xs:List Str}{N':List Str}{js:List Nat}{fp:List Addr}{elt iter:Expr}{px pos:Pos}{tg:Expr}{ifs:List Expr}{tc:TT}{te:TE}
theorem DK{J:It}{it:Addr}{tn:Nat->Heap->Prop}{RR:Value->Addr->Result->Shared->Prop}{E:Value->Shared->Prop}{Q:VK}
  (S:gC X scope xs N' js) (I:cE X pins σ H s) (T:GC X.prog X.w X.K tg J fp it tn) (h0:tn 0 s.heap) (hf:∀b∈fp,jP X pins H b)
  (hg:∀C fp s₀ H₀,PG (lO X scope C fp s₀ H₀ N') tg (gN X.K xs.length)) (ht:∀C fp s₀ H₀,QJ (lO X scope C fp s₀ H₀ N') ifs tc) (he:∀C fp s₀ H₀,PE (lO X scope C fp s₀ H₀ N') elt te)
  (R:∀D,H D=none->∃W:Nat->Nat->List V->Hp->Prop,(∃m,W 0 m [] (upd H D (.lst []))) /\
   ∀i m ys H2,W i m ys H2->H2 D=some (.lst ys)/\((J.stop i H2/\Q (.ref D) H2)\/(J.go i H2/\ys.length<sizeLine/\∀x H3,J.yld i H2 x H3->∃a vs,x=.ref a/\eZ X.K H3 a vs/\vs.length=xs.length /\
    tc (vs.map some++slots σ js) H3 λb H4=>if b=true then te (vs.map some++slots σ js) H4 λy H5=>H5 D=some (.lst ys)/\∃m',m' < m/\W (i+1) m' (ys++[y]) (upd H5 D (.lst (ys++[y])))
     else H4 D=some (.lst ys)/\∃m',m' < m/\W (i+1) m' ys H4)))
  (hRR:∀(D:Addr) (H3:Hp) (s3:Shared) (σ':St) (H':Hp) (s':Shared),cE X pins σ H3 s3->(∀b∈fp,jP X pins H3 b)->cE (lO X scope s3.heap.objs.size fp s3 H3 N') [] σ' H' s'->Q (.ref D) H'->RR (.ref D) s3.heap.objs.size (.ok .next) s') :
  wpAny (model X.prog X.w) X.A (newList []) (λacc s₃=>wpAny (model X.prog X.w) X.A (newFunctionEnv scope X.env.globals (FY X scope) [] X.env.qual none .none (some X.env)) (λcenv s₄ =>
   codeAny (model X.prog X.w) X.A (.compStart (.ListComp elt [⟨tg,iter,ifs,0⟩] scope pos) 0 (.ref it) acc { cenv with scope:=relabel scope X.env }) (RR acc cenv.locals) s₄) E s₃) E s:=by
 have hb:∀b∈fp,b<s.heap.objs.size:=λb hb=>by
  obtain ⟨o,e,_⟩:=T.obj 0 _ h0 b hb;exact aX e
 refine wpAny_newObj_type (wpAny_newFunctionEnv S.cell (by intro y hy;simp at hy) (λh₁ hns₁ hsb₁=>?_) S.kind);have hDn:H s.heap.objs.size=none:=I.hok.fresh (aJ _);obtain ⟨W,⟨m0,hw0⟩,hW⟩:=R _ hDn;have I3:cE X pins σ (upd H s.heap.objs.size (.lst [])) { s with heap:=s.heap.push { cls:=.type "list",dict:=none,data:=.seq ([]:List Value).toArray } }:=I.lnew (its:=[]) (ys:=[]) (t':=s.toks) .nil (cC _);have hf3:∀b∈fp,jP X pins (upd H s.heap.objs.size (.lst [])) b:=λb hb' =>
  ⟨by rw [bT (λe=>by have:=hb b hb';rw [e] at this;exact cP _ this)];exact (hf b hb').1,(hf b hb').2⟩
 have hb3:∀b∈fp,b<(s.heap.push { cls:=.type "list",dict:=none,data:=.seq ([]:List Value).toArray }).objs.size:=λb hb'=>by
  rw [gB];exact Nat.lt_succ_of_lt (hb b hb')
 have hkeep:∀b o,(s.heap.push { cls:=.type "list",dict:=none,data:=.seq ([]:List Value).toArray }).get? b=some o->h₁.get? b=some o:=λb o e =>
  hsb₁.extBut b o (λq=>by have:=aX e;rw [q] at this;exact cP _ this) (aB _ e)
 have J4:=OZ (h':=h₁) (tk:=s.toks+([]:List (Str × Value)).length) S I3 hf3 hb3 hns₁ hkeep;have t4:tn 0 h₁:=T.keep 0 _ _ h0 λb hb' o e=>hkeep b o (aB _ e);have loop:codeAny (model X.prog X.w) X.A (.compLoop (.ListComp elt [⟨tg,iter,ifs,0⟩] scope pos) 0 (.ref it) (.ref s.heap.objs.size) (compEnvC scope (FY X scope) (s.heap.push { cls:=.type "list",dict:=none,data:=.seq ([]:List Value).toArray }).objs.size X.env))
   (RR (.ref s.heap.objs.size) (s.heap.push { cls:=.type "list",dict:=none,data:=.seq ([]:List Value).toArray }).objs.size) { s with heap:=h₁,toks:=s.toks+([]:List (Str × Value)).length }:=by
  refine rO (λn s'=>∃(i:Nat) (ys:List V) (H2:Hp) (os:St),os.length=xs.length/\cE (lO X scope _ fp _ _ N') [] (os++slots σ js) H2 s'/\tn i s'.heap/\(∀b∈fp,H2 b=none)/\W i n ys H2) ?_ m0 ⟨0,[],_,_,cB,J4,t4,λb hb'=>(hf3 b hb').1,hw0⟩;rintro n s' ⟨i,ys,H2,os,hos,J2,t2,f2,w2⟩;obtain ⟨hD,hcase⟩:=hW i n ys H2 w2;have Fp:∀b∈fp,jP (lO X scope (s.heap.push { cls:=.type "list",dict:=none,data:=.seq ([]:List Value).toArray }).objs.size fp { s with heap:=s.heap.push { cls:=.type "list",dict:=none,data:=.seq ([]:List Value).toArray } } (upd H s.heap.objs.size (.lst [])) N') [] H2 b:=λb hb' =>
   ⟨f2 b hb',(J2.ok.exf b hb').1,J2.ok.exfs b hb',.inl hb',(J2.ok.exf b hb').2,λp hp=>by cases hp⟩
  rcases hcase with ⟨hstop,hq⟩ | ⟨hgo,hz,hturn⟩
  ·refine wpAny_mono (T.done (lO X scope _ fp _ _ N') rfl rfl rfl rfl i [] s' _ H2 QS J2 Fp t2 hstop) (λr s1 ⟨hr,J5⟩=>?_) λ_ _ f=>f;subst hr;exact hRR _ _ _ _ _ _ I3 hf3 J5 hq
  ·refine wpAny_mono (T.item (lO X scope _ fp _ _ N') rfl rfl rfl rfl i [] s' _ H2 QS J2 Fp t2 hgo) (λr s1 ⟨u,hr,hx⟩=>?_) λ_ _ f=>f;subst hr;refine wpAny_mono hx (λ_ s2 ⟨v,H3,J3,rv,hy,t3,f3⟩=>?_) λ_ _ f=>f;have Fp3:∀b∈fp,jP (lO X scope (s.heap.push { cls:=.type "list",dict:=none,data:=.seq ([]:List Value).toArray }).objs.size fp { s with heap:=s.heap.push { cls:=.type "list",dict:=none,data:=.seq ([]:List Value).toArray } } (upd H s.heap.objs.size (.lst [])) N') [] H3 b:=λb hb' =>
    ⟨f3 b hb',(J3.ok.exf b hb').1,J3.ok.exfs b hb',.inl hb',(J3.ok.exf b hb').2,λp hp=>by cases hp⟩
   have P3:=J3.pinned Fp3 (T.obj (i+1) _ t3);have keepT:∀{σ':St} {Hx:Hp} {sx:Shared},cE (lO X scope (s.heap.push { cls:=.type "list",dict:=none,data:=.seq ([]:List Value).toArray }).objs.size fp { s with heap:=s.heap.push { cls:=.type "list",dict:=none,data:=.seq ([]:List Value).toArray } } (upd H s.heap.objs.size (.lst [])) N') ([]++sJ fp s2.heap) σ' Hx sx->tn (i+1) sx.heap/\∀b∈fp,Hx b=none:=λJx =>
    ⟨T.keep (i+1) _ _ t3 λb hb' ob e=>(Jx.pin (b,ob) (aP _ (aP _ (jG hb' e)))).1,λb hb'=>by
     obtain ⟨ob,e,_⟩:=T.obj (i+1) _ t3 b hb';exact (Jx.pin (b,ob) (aP _ (aP _ (jG hb' e)))).2.1⟩
   obtain ⟨a,vs,ev,hq,hl,qe⟩:=hturn v H3 hy;subst ev;refine wpAny_mono (hg _ _ _ _ _ _ (os++slots σ js) H3 (.ref a) u (λσ' H'=>σ'=vs.map some++slots σ js/\H'=H3) P3 rv ⟨a,vs,rfl,hq,hl,?_⟩) (λ_ s5 ⟨σ5,H5,J5,e5,e6⟩=>?_) λ_ _ f=>f
   ·have:=wK (H:=H3) (r:=slots σ js) (Q:=λσ' H'=>σ'=vs.map some++slots σ js/\H'=H3) vs [] os (by rw [hos,hl]) ⟨rfl,rfl⟩;rw [hl] at this;exact this
   subst e5 e6;refine wpAny_mono (ht _ _ _ _ _ _ _ _ _ J5 qe) (λok s6 ⟨H6,J6,q6⟩=>?_) λ_ _ f=>f;dsimp only at q6;by_cases hok:ok=true
   ·rw [if_pos hok] at q6 ⊢;refine wpAny_mono (he _ _ _ _ _ _ _ _ _ J6 q6) (λy s7 ⟨w',H7,J7,r7,hD7,m',hm',w7⟩=>?_) λ_ _ f=>f;refine wpAny_mono (sL (X:=lO X scope _ fp _ _ N') _ _ _ _ (.ref s.heap.objs.size) [w'] (.ref s.heap.objs.size) [y] (λ_ H8=>H8=upd H7 s.heap.objs.size (.lst (ys++[w']))) J7 rfl (.cons r7 .nil) ⟨_,_,_,rfl,rfl,hD7,hz,rfl⟩) (λ_ s8 ⟨_,H8,J8,_,e8⟩=>?_) λ_ _ f=>f;subst e8;obtain ⟨k1,k2⟩:=keepT J8;exact ⟨m',hm',i+1,ys++[w'],_,vs.map some,by rw [aA,hl],J8.unpinned,k1,k2,w7⟩
   ·rw [if_neg hok] at q6 ⊢;obtain ⟨_,m',hm',w7⟩:=q6;obtain ⟨k1,k2⟩:=keepT J6;exact ⟨m',hm',i+1,ys,_,vs.map some,by rw [aA,hl],J6.unpinned,k1,k2,w7⟩
 refine codeAny_compStart_list loop (T.self X.A 0 _ _ _ t4 loop)
theorem NM{wi:TI}(S:gC X scope xs N' js)(hi:PI X tg iter wi)(hg:∀C fp s₀ H₀,PG (lO X scope C fp s₀ H₀ N') tg (gN X.K xs.length))(ht:∀C fp s₀ H₀,QJ (lO X scope C fp s₀ H₀ N') ifs tc)(he:∀C fp s₀ H₀,PE (lO X scope C fp s₀ H₀ N') elt te)
  (hs:∀x,foldedSetIterable iter X.env x=pure x:=by intro _;rfl):PE X (.ListComp elt [⟨tg,iter,ifs,0⟩] scope pos) (MH X.K xs.length wi js tc te):=by
 intro pins s σ H Q I h;rw [eval_ListComp];refine wpAny_comprehension_free (use:=none) rfl hs (lK (S.cells I.ok)) S.kind S.names (wpAny_mono (hi pins s σ H _ I h) (λv s1 h1=>?_) λ_ _ e=>e);refine wpAny_mono h1 (λitv s2 ⟨it,fp,tn,J,H2,e,I2,T,t0,hf,R⟩=>?_) λ_ _ e=>e;subst e;refine DK (te:=zS te) (tc:=qK tc) S I2 T t0 hf hg (λC fp s₀ H₀=>(ht C fp s₀ H₀).mono) (λC fp s₀ H₀=>(he C fp s₀ H₀).mono) (by unfold xB at R;exact R) ?_;intro D H3 s3 σ' H' s' I3 hf3 J3 q;obtain ⟨m,hm,_⟩:=J3.loc;exact ⟨m,hm,λh' hs'=>⟨.ref D,H',KO S I3 hf3 J3 hs',rfl,q⟩⟩
end
section
variable{X:Cx}{scope:Scope}{x1 x2 x3 y:Str}{N':List Str}{js:List Nat}{elt iter tg:Expr}{ifs:List Expr}{py pos spos:Pos}{tc:TT}{te:TE}{wi:TI}{i:Nat}
theorem VM{xs:List Str}{k:Nat}{x:Str}{p:Pos}(S:gC X scope xs N' js)(h:xs[k]?=some x)(C:Addr)(fp:List Addr)(s₀:Shared)(H₀:Hp):WY (lO X scope C fp s₀ H₀ N') (.Name x p) (rH k) :=
 have l:=S.own x (aZ h)
 dF S.nd (S.pre k x h) (.inl (lookup_relabel_local l)) (.inr (lookup_relabel_local l))
theorem XD{p1 p2 pt:Pos}{kk:Nat}(S:gC X scope [x1,x2] N' js)(C:Addr)(fp:List Addr)(s₀:Shared)(H₀:Hp):WY (lO X scope C fp s₀ H₀ N') (.Tuple [.Name x1 p1,.Name x2 p2] kk pt) (gN X.K 2) :=
 nJ rfl (eF (VM S rfl C fp s₀ H₀) (eF (VM S rfl C fp s₀ H₀) lA))
theorem rZ{p1 p2 pt:Pos}{kk:Nat}(S:gC X scope [x1,x2] N' js)(hi:WX X (.Tuple [.Name x1 p1,.Name x2 p2] kk pt) iter wi)(ht:∀C fp s₀ H₀,QI (lO X scope C fp s₀ H₀ N') ifs tc)(he:∀C fp s₀ H₀,fY (lO X scope C fp s₀ H₀ N') elt te)
  (hs:∀x,foldedSetIterable iter X.env x=pure x:=by intro _;rfl):fY X (.ListComp elt [⟨.Tuple [.Name x1 p1,.Name x2 p2] kk pt,iter,ifs,0⟩] scope pos) (MH X.K 2 wi js tc te) :=
 ⟨NM S hi.p (λC fp s₀ H₀=>(XD S C fp s₀ H₀).p) (λC fp s₀ H₀=>(ht C fp s₀ H₀).p) (λC fp s₀ H₀=>(he C fp s₀ H₀).p) hs⟩
end
def PC(psc scope:Scope)(N:List Str)(xs N':List Str)(js:List Nat):Bool :=
 (scope.names.all λy=>!(y.2 == .free) || psc.names.lookup y.1 == some .cell)&&(scope.names.all λy=>!(y.2 == .cell))&&scope.kind == .function &&
 (scope.names.all λy=>!(y.2 == .local) || scope.names.lookup y.1 == some .local)&&(xs.all λx=>scope.names.lookup x == some .local) &&
 (scope.names.all λy=>!(y.2 == .free) || !(scope.names.lookup y.1 == some .local))&&N'.length == xs.length+js.length&&N'.take xs.length == xs&&decide N'.Nodup &&
 ((List.range js.length).all λi=>match js[i]?,N'[xs.length+i]? with
  | some j,some y=>N[j]? == some y&&scope.names.contains (y,NameKind.free)
  | _,_=>false)
theorem gC.of{X:Cx}{psc scope:Scope}{N:List Str}{xs N':List Str}{js:List Nat}(h:PC psc scope N xs N' js=true)(hX:X.env.scope=psc)(hN:X.N=N)(hc:X.calm=true):gC X scope xs N' js:=by
 unfold PC at h;simp only [cY] at h;obtain ⟨⟨⟨⟨⟨⟨⟨⟨⟨h1,h2⟩,h3⟩,h4⟩,h5⟩,h6⟩,h7⟩,h8⟩,h9⟩,h10⟩:=h;rw [List.all_eq_true] at h1 h2 h4 h5 h6 h10;refine ⟨hc,λy hy e=>?_,λy hy e=>?_,by simpa using h3,λy hy e=>?_,λx hx=>by simpa using h5 x hx,λy hy e=>?_,by simpa using h7,λi x hx=>?_,of_decide_eq_true h9,λi j hj=>?_⟩
 ·have:=h1 y hy;rw [e] at this;show X.env.scope.names.lookup y.1=_;rw [hX];simpa using this
 ·have:=h2 y hy;rw [e] at this;simp at this
 ·have:=h4 y hy;rw [e] at this;simpa using this
 ·have:=h6 _ hy;rw [e] at this;simp at this
 ·have e8:N'.take xs.length=xs:=by simpa using h8
  have hi:i<xs.length:=(aK.mp hx).1;rw [<-hx]
  conv=>rhs;rw [<-e8]
  rw [List.getElem?_take,if_pos hi]
 ·have hi:i<js.length:=(aK.mp hj).1;have:=h10 i (cG.mpr hi);rw [hj] at this;cases q:N'[xs.length+i]? with
  | none=>rw [q] at this;simp at this
  | some y =>
   rw [q] at this;simp only [cY] at this;exact ⟨y,rfl,by rw [hN];simpa using this.1,List.contains_iff_mem.mp this.2⟩
theorem yG{α β:Type}{R:α->β->Prop}:∀{l:List α}{m:List β}{i:Nat}{b:β},Paired R l m->m[i]?=some b->∃a,l[i]?=some a/\R a b
 | _,_,_,_,.nil,h=>by simp at h
 | _,_,0,b,.cons h t,e=>⟨_,rfl,by cases (show _=b by simpa using e);exact h⟩
 | _,_,i+1,b,.cons h t,e=>by
  obtain ⟨a,h1,h2⟩:=yG t (i:=i) (by simpa using e);exact ⟨a,by simpa using h1,h2⟩
section
variable{js:List Nat}{te:TE}{tc:TT}{σ:St}{H:Hp}{Q:VK}
theorem KY{K:PySem.W.Frag}{n:Nat}{J:It}{α:Type}{as:List α}(p:α->Bool)(Src:α->V->Prop)(R:α->V->Hp->Prop)(hR:∀c y H1 H2,dX H1 H2->R c y H1->R c y H2)(hz:as.length<=100000)
  (hg:∀i H',bC H H'->i<as.length->J.go i H'/\∀x H3,J.yld i H' x H3->H3=H'/\∃c,as[i]?=some c/\Src c x) (hst:∀H',bC H H'->J.stop as.length H')
  (hs:∀x c H',c∈as->Src c x->bC H H'->∃a vs,x=.ref a/\eZ K H' a vs/\vs.length=n/\(∀Q':Bool->Hp->Prop,(∀H5,bC H' H5->Q' (p c) H5)->tc (vs.map some++slots σ js) H' Q') /\
   ∀H5 (Q':VK),bC H' H5->p c=true->(∀y H6,bC H5 H6->R c y H6->Q' y H6)->te (vs.map some++slots σ js) H5 Q')
  (hd:∀D ys H',H D=none->H' D=some (.lst ys)->bC H H'->Paired (λc y=>R c y H') (as.filter p) ys->Q (.ref D) H'):xB K n J σ js tc te H Q:=by
 unfold xB;intro D hD;have mono:∀{H1 H2:Hp} {l:List α} {ys:List V},dX H1 H2->Paired (λc y=>R c y H1) l ys->Paired (λc y=>R c y H2) l ys:=by
  intro H1 H2 l ys s h
  induction h with
  | nil=>exact .nil
  | cons h t ih=>exact .cons (hR _ _ _ _ s h) ih
 have snoc:∀{H1:Hp} {l:List α} {ys:List V} {c:α} {y:V},Paired (λc y=>R c y H1) l ys->R c y H1->Paired (λc y=>R c y H1) (l++[c]) (ys++[y]):=by
  intro H1 l ys c y h r
  induction h with
  | nil=>exact .cons r .nil
  | cons h t ih=>exact .cons h ih
 refine ⟨λi m ys H'=>m=as.length-i/\i<=as.length/\H' D=some (.lst ys)/\bC H H'/\ys.length<=i/\Paired (λc y=>R c y H') ((as.take i).filter p) ys,⟨as.length,by simp,cC _,bH,bC.upd hD,aJ _,.nil⟩,?_⟩;rintro i m ys H2 ⟨rfl,hi,hD2,s2,hy,pr⟩;refine ⟨hD2,?_⟩;by_cases hlt:i<as.length
 ·obtain ⟨hgo,hyl⟩:=hg i H2 s2 hlt;refine .inr ⟨hgo,bB (m:=100000) Oo Dd,λx H3 hy3=>?_⟩;obtain ⟨rfl,c,hc,rc⟩:=hyl x H3 hy3;have hti:as.take (i+1)=as.take i++[c]:=by rw [eJ,hc];rfl
  obtain ⟨a,vs,e,hq,hl,ht,he⟩:=hs x c H3 (aZ hc) rc s2;refine ⟨a,vs,e,hq,hl,λb H4=>b=p c/\bC H3 H4,ht _ λH5 s5=>⟨rfl,s5⟩,?_⟩;rintro b H4 ⟨rfl,s4⟩;by_cases hp:p c=true
  ·rw [if_pos hp];refine ⟨λy H5=>bC H4 H5/\R c y H5,he H4 _ s4 hp λy H6 s6 r=>⟨s6,r⟩,?_⟩;rintro y H5 ⟨s5,r⟩;have e5:=s5 _ _ (s4 _ _ hD2);refine ⟨e5,_,?_,rfl,hlt,bH,bC.thru hD ((s2.trans s4).trans s5) aU.self,?_,?_⟩
   ·omega
   ·rw [bF,List.length_singleton];omega
   ·rw [hti,List.filter_append,show List.filter p [c]=[c] by simp [hp]];have t6:dX H5 (upd H5 D (.lst (ys++[y]))):=aU.t aU.self e5;exact mono t6 (snoc (mono (s4.trans s5).t pr) r)
  ·rw [if_neg hp];refine ⟨s4 _ _ hD2,_,?_,rfl,hlt,s4 _ _ hD2,s2.trans s4,Oo,?_⟩
   ·omega
   ·rw [hti,List.filter_append,show List.filter p [c]=[] by simp [hp],List.append_nil];exact mono s4.t pr
 ·have e:i=as.length:=Oo;subst e;refine .inl ⟨hst H2 s2,hd D ys H2 hD hD2 s2 ?_⟩;rw [cQ] at pr;exact pr
theorem KW{K:PySem.W.Frag}{n:Nat}{a0:Addr}{xs:List V}{α:Type}{as:List α}(p:α->Bool)(Src:α->V->Prop)(R:α->V->Hp->Prop)(hR:∀c y H1 H2,dX H1 H2->R c y H1->R c y H2)(hz:as.length<=100000)(ha:H a0=some (.tup xs))(pr:Paired Src as xs)
  (hs:∀x c H',c∈as->Src c x->bC H H'->∃a vs,x=.ref a/\eZ K H' a vs/\vs.length=n/\(∀Q':Bool->Hp->Prop,(∀H5,bC H' H5->Q' (p c) H5)->tc (vs.map some++slots σ js) H' Q') /\
   ∀H5 (Q':VK),bC H' H5->p c=true->(∀y H6,bC H5 H6->R c y H6->Q' y H6)->te (vs.map some++slots σ js) H5 Q')
  (hd:∀D ys H',H D=none->H' D=some (.lst ys)->bC H H'->Paired (λc y=>R c y H') (as.filter p) ys->Q (.ref D) H'):xB K n (Itt K a0) σ js tc te H Q:=by
 have hl:xs.length=as.length:=pr.length.symm;refine KY p Src R hR hz (λi H' s hi=>⟨⟨xs,xs[i]'Oo,eZ.of (s _ _ ha),by simp⟩,λx H3 y=>⟨y.1,?_⟩⟩) (λH' s=>⟨xs,eZ.of (s _ _ ha),Oo⟩) hs hd;have hx:=y.2 xs (eZ.of (s _ _ ha));obtain ⟨c,h1,h2⟩:=yG pr hx;exact ⟨c,h1,h2⟩
end
end L2
namespace L2
open PySem
section
variable{js:List Nat}{te:TE}{σ:St}{H:Hp}{Q:VK}
theorem yT{K:PySem.W.Frag}{b1 b2:Bool}{l1 l2:Addr}{xs ys:List V}(R:Nat->V->Hp->Prop)(hR:∀i y H1 H2,dX H1 H2->R i y H1->R i y H2)(hz:xs.length<=100000)(h1:H l1=some (BO b1 xs))(h2:H l2=some (BO b2 ys))(hl:xs.length=ys.length)
  (hs:∀i x y H' (Q':VK),xs[i]?=some x->ys[i]?=some y->bC H H'->(∀z H6,bC H' H6->R i z H6->Q' z H6)->te (some x::some y::slots σ js) H' Q')
  (hd:∀D zs H',H D=none->H' D=some (.lst zs)->bC H H'->zs.length=xs.length->(∀(i:Nat) (z:V),zs[i]?=some z->R i z H')->Q (.ref D) H'):xB K 2 (Itz b1 b2 l1 l2) σ js xH te H Q:=by
 unfold xB;intro D hD;refine ⟨λi m zs H'=>m=xs.length-i/\i<=xs.length/\zs.length=i/\H' D=some (.lst zs)/\bC H H'/\∀(i:Nat) (z:V),zs[i]?=some z->R i z H',⟨xs.length,by simp,cC _,rfl,bH,bC.upd hD,λi z h=>by simp at h⟩,?_⟩;rintro i m zs H2 ⟨rfl,hi,hy,hD2,s2,hr⟩;refine ⟨hD2,?_⟩;by_cases hlt:i<xs.length
 ·have hx:xs[i]?=some xs[i]:=aC Oo;have hy':ys[i]?=some (ys[i]'Oo):=aC Oo;refine .inr ⟨⟨xs,ys,_,_,s2 _ _ h1,s2 _ _ h2,hx,hy'⟩,bB (m:=100000) Oo Dd,λv H3 y=>?_⟩;obtain ⟨q,x,y,rfl,hq,rfl,hh⟩:=y;obtain ⟨g1,g2⟩:=hh xs ys (s2 _ _ h1) (s2 _ _ h2);have s3:=bC.upd (o:=.tup [x,y]) hq;have e3:(upd H2 q (.tup [x,y])) q=some (.tup [x,y]):=bH;generalize upd H2 q (.tup [x,y])=H3 at s3 e3;refine ⟨q,[x,y],rfl,eZ.of e3,rfl,λb H4=>b=true/\H4=H3,⟨rfl,rfl⟩,?_⟩;rintro b H4 ⟨rfl,rfl⟩;rw [if_pos rfl];refine ⟨λz H5=>bC H4 H5/\R i z H5,hs i x y H4 _ g1 g2 (s2.trans s3) λz H6 s6 r=>⟨s6,r⟩,?_⟩;rintro z H5 ⟨s5,r⟩;have e5:=s5 _ _ (s3 _ _ hD2);have t6:dX H5 (upd H5 D (.lst (zs++[z]))):=aU.t aU.self e5;refine ⟨e5,xs.length-(i+1),Oo,rfl,hlt,by rw [bF,hy];rfl,bH,bC.thru hD ((s2.trans s3).trans s5) aU.self,?_⟩;exact vI (R:=λj z=>R j z _) (λj w hj=>hR j w _ _ ((s3.trans s5).t.trans t6) (hr j w hj)) (by rw [hy];exact hR i z _ _ t6 r)
 ·have e:i=xs.length:=Oo;subst e;exact .inl ⟨⟨xs,ys,s2 _ _ h1,s2 _ _ h2,.inl (aJ _)⟩,hd D zs H2 hD hD2 s2 hy hr⟩
end
theorem Paired.ofRepL{H:Hp}{α:Type}{g:α->PyData}:∀{as:List α}{xs:List V},bD H (as.map g) xs->Paired (λa x=>cO H (g a) x) as xs
 | [],xs,r=>by
  unfold bD at r;cases (show xs=[] from r);exact .nil
 | a::as,xs,r=>by
  rw [aO] at r;unfold bD at r;obtain ⟨x,xs',rfl,r1,r2⟩:=r;exact .cons r1 (Paired.ofRepL r2)
section
variable{X:Cx}{scope:Scope}{x1 x2 x3 y:Str}{N':List Str}{js:List Nat}{elt iter tg:Expr}{ifs:List Expr}{py pos spos:Pos}{tc:TT}{te:TE}{wi wj:TI}{i:Nat}
end
end L2
namespace L2
open PySem PySem.Spec PyProof.Rows
section
variable{X:Cx}
end
theorem DT:bootBuiltins (Str.ofString "sorted")=some (Value.builtin "sorted"):=Kk
section
variable{X:Cx}
end
end L2
namespace L2
open PySem PySem.Spec PySem.W PyProof.Rows HT
end L2
namespace L2
open PySem PySem.Spec PyProof.Rows
def aBo:TS:=λ_ _ _=>False
theorem QV{X:Cx}{st:Stmt}:GE X st aBo:=⟨λ_ _ _ _ _ _ h=>h.elim⟩
section
variable{prog:Program}{w:World}{A:Around}{E:Value->Shared->Prop}{s:Shared}
end
end L2
namespace Mf
def cI(F:Nat)(r:List Nat):List Int:=(cnt F r).map λn:Nat=>(n:Int)
def bp(c:List Int)(j:Nat):List Int:=c.set j (c.getD j 0+1)
theorem aAT(F:Nat)(r:List Nat):(cI F r).length=F:=by unfold cI;rw [aA,pI]
section
variable(F:Nat)(G:List Int->Int)
def aR(r:List Nat):Int:=(List.range r.length).foldl (λp k=>p*G (cI F (r.take k))) 1
theorem tW{α β:Type}{f g:β->α->β}:∀{l:List α}{b:β},(∀a∈l,∀b,f b a=g b a)->l.foldl f b=l.foldl g b
 | [],_,_=>rfl
 | a::l,b,h=>by
  rw [List.foldl_cons,List.foldl_cons,h a (aH ..),tW λx hx=>h x (aF _ hx)]
theorem uX(r:List Nat)(j:Nat):aR F G (r++[j])=aR F G r*G (cI F r):=by
 unfold aR;rw [bF,List.length_singleton,List.range_succ,List.foldl_append];show _*G (cI F ((r++[j]).take r.length))=_;rw [List.take_left];congr 1;refine tW λk hk b=>?_;rw [List.take_append_of_le_length (Nat.le_of_lt (cG.mp hk))]
theorem BJ:aR F G []=1:=rfl
theorem uW{r:List Nat}{k:Nat}(h:k<r.length):aR F G (r.take (k+1))=aR F G (r.take k)*G (cI F (r.take k)):=by
 have e:r.take (k+1)=r.take k++[r[k]]:=by rw [eJ,aC h];rfl
 rw [e,uX]
theorem zH(hG:∀c,0<=G c)(r:List Nat):0<=aR F G r:=by
 induction r using pD with
 | h0=>exact Int.one_nonneg
 | hs l a ih=>rw [uX];exact Int.mul_nonneg ih (hG _)
theorem WU{N:Int}(hG:∀c,0<=G c)(hN:∀c,G c<=N)(r:List Nat):aR F G r<=N^r.length:=by
 have N0:0<=N:=Int.le_trans (hG []) (hN [])
 induction r using pD with
 | h0=>rw [BJ,List.length_nil,Int.pow_zero];exact Int.le_refl _
 | hs l a ih =>
  rw [uX,bF,List.length_singleton,Int.pow_succ];exact Int.mul_le_mul ih (hN _) (hG _) (Int.pow_nonneg N0)
theorem VD{r:List Nat}{k:Nat}(h:k<=r.length)(e:aR F G (r.take k)=0):aR F G r=0:=by
 have:∀n,k+n<=r.length->aR F G (r.take (k+n))=0:=λn=>by
  induction n with
  | zero=>intro _;exact e
  | succ n ih =>
   intro hn;rw [<-Nat.add_assoc,uW F G Oo,ih Oo,Int.zero_mul]
 have:=this (r.length-k) Oo
 rwa [show k+(r.length-k)=r.length by omega,cQ] at this
end
structure Rl(F:Nat)(G:List Int->Int)(ks:List (List Int)):Prop where
 nd:ks.Nodup
 len:∀c∈ks,c.length=F
 nn:∀c∈ks,∀x∈c,0<=x
 asc:(ks.map List.sum).Pairwise (· <= ·)
 off:∀c,c ∉ ks->G c=0
 pos:∀c,0<=G c
 zero:List.replicate F 0∈ks
 fwd:∀c∈ks,G c≠0->∀j,j<F->bp c j∈ks
 bwd:∀c∈ks,c=List.replicate F 0\/∃d∈ks,G d≠0/\∃j,j<F/\c=bp d j
section
variable{F:Nat}{G:List Int->Int}{ks:List (List Int)}
end
end Mf
namespace Mf
section
variable{F:Nat}{G:List Int->Int}{ks:List (List Int)}
end
end Mf
namespace L2
open PySem PySem.W PySem.Spec PySem.Calls PyProof.Rows
section
variable{X:Cx}
@[irreducible] def SK:List V->Hp->VK->Prop:=λxs H Q=>∃(p:Addr) (bs:List Bool),xs=[.ref p]/\H p=some (.lst (bs.map V.bl))/\Q (.bl (bs.all id)) H
theorem rall{p:Addr}{bs:List Bool}{H:Hp}{Q:VK}(e:H p=some (.lst (bs.map V.bl)))(q:Q (.bl (bs.all id)) H):SK [.ref p] H Q:=by unfold SK;exact ⟨p,bs,rfl,e,q⟩
theorem QB{bs:List Bool}:∀{us:List Value},cV (bs.map V.bl) us->LSm.BoolsAre us bs:=by
 induction bs with
 | nil=>intro us r;cases r;exact .nil
 | cons b bs ih =>
  intro us r;cases r with
  | cons r t=>cases (show _=Value.bool b from r);exact .cons b (ih t)
theorem FX(hc:X.calm=true):fX X (.builtin "all") SK:=by
 unfold SK;intro pins s σ H xs us Q I r h;obtain ⟨p,bs,rfl,e,q⟩:=h;obtain ⟨_,rfl,r1⟩:=jJ r;cases r1;obtain ⟨z,its,n,rv,hl,eo⟩:=I.lstM e;have hL:s.heap.IsList p its.toArray:=⟨_,eo,rfl,n,rfl⟩;have hb:=QB rv;have hlt:p<s.heap.objs.size:=aX eo;refine call_all_walk (wpAny_pyIter_list hL ?_);refine ⟨s.heap.objs.size,[s.heap.objs.size,p],[s.heap.objs.size],its.toArray.size,_,_,λi=>(bs[i]?).getD true,rfl,Walks.list (A:=X.A.in1) (I.ok.hd hc) _ p (bW hlt) its.toArray,
  ⟨⟨_,aY _ rfl,rfl,rfl⟩,hL.push _⟩,λi v s' Q' E' hP hQ=>?_,λh' tk hk=>?_⟩
 ·obtain ⟨b,e,rfl⟩:=hb.get i v (by simpa using hP);simp only [e,Option.getD_some] at hQ;exact wpAny_truthy_bool hQ
 ·have e:((List.range its.toArray.size).all λi=>(bs[i]?).getD true)=bs.all id:=by
   rw [aW,hb.length];exact LSm.range_all bs
  rw [e];exact ⟨.bl _,H,I.kept (LSm.kept_iter hk),rfl,q⟩
end
end L2
namespace Mf
def rv(f:Fr):Rat:=(f.1:Rat)/(f.2:Rat)
theorem FR{d:Int}(h:0<d):(0:Rat)<(d:Rat):=by exact_mod_cast h
theorem gU{d:Int}(h:0<d):(d:Rat)≠0:=by have:=FR h;grind
theorem lD{f:Fr}(h:0<f.2):rv f*(f.2:Rat)=(f.1:Rat):=by
 have:=gU h;unfold rv;grind
theorem qW{n d:Int}(h:0<d):rv (lw n d)=(n:Rat)/(d:Rat):=by
 have e:=oK (n:=n) (d:=d);have p:=(gA (n:=n) h).pos;have h1:=gU h;have h2:=gU p;have e':((lw n d).1:Rat)*(d:Rat)=(n:Rat)*((lw n d).2:Rat):=by exact_mod_cast e
 unfold rv;generalize ((lw n d).1:Rat)=a at *;generalize ((lw n d).2:Rat)=b at *;grind
theorem vN{f g:Fr}(hf:0<f.2)(hg:0<g.2):rv (oR f g)=rv f+rv g:=by
 unfold oR;rw [qW (Int.mul_pos hf hg)];have h1:=gU hf;have h2:=gU hg;unfold rv;rw [Rat.intCast_add,Rat.intCast_mul,Rat.intCast_mul,Rat.intCast_mul];grind
theorem sF{f g:Fr}(hf:0<f.2)(hg:0<g.2):rv (pK f g)=rv f*rv g:=by
 unfold pK;rw [qW (Int.mul_pos hf hg)];have h1:=gU hf;have h2:=gU hg;unfold rv;rw [Rat.intCast_mul,Rat.intCast_mul];grind
theorem YU(f:Fr):rv (-f.1,f.2)=- rv f:=by
 unfold rv;rw [show (((-f.1,f.2):Fr).1:Rat)=-(f.1:Rat) by rw [<-Rat.intCast_neg]];grind
theorem fU{f g:Fr}(hf:eM f)(hg:eM g)(e:rv f=rv g):f=g:=by
 have h1:=gU hf.pos;have h2:=gU hg.pos;have e':(f.1:Rat)*(g.2:Rat)=(g.1:Rat)*(f.2:Rat):=by
  have a:=lD hf.pos;have b:=lD hg.pos;rw [<-a,<-b,e];grind
 have q:=CQ hf hg (by exact_mod_cast e');exact Prod.ext q.1 q.2
theorem jY:rv (0,1)=0:=by unfold rv;grind
theorem FC:rv (1,1)=1:=by unfold rv;grind
def sC(l:List Rat):Rat:=l.foldr (· + ·) 0
theorem qL:sC []=0:=rfl
theorem lT(x:Rat)(l:List Rat):sC (x::l)=x+sC l:=rfl
theorem nL:∀(a b:List Rat),sC (a++b)=sC a+sC b
 | [],b=>by rw [qL,List.nil_append];grind
 | x::a,b=>by rw [List.cons_append,lT,lT,nL a b];grind
theorem YT(l:List Fr):(∀f∈l,eM f)->rv (sB l)=sC (l.map rv):=by
 induction l using pD with
 | h0=>intro _;exact jY
 | hs l a ih =>
  intro h;have hl:∀f∈l,eM f:=λf hf=>h f (cX _ hf);rw [oZ,vN (BS l hl).pos (h a (by simp)).pos,ih hl,bM,nL,aO,List.map_nil,lT,qL];grind
def Fn(N B:Nat)(f:Fr):Prop:=eM f/\∃x:Int,rv f*(N:Rat)=(x:Rat)/\x.natAbs<=B*N
theorem Fn.low{N B:Nat}{f:Fr}(h:Fn N B f):eM f:=h.1
theorem Fn.le{N B C:Nat}{f:Fr}(h:Fn N B f)(hB:B<=C):Fn N C f:=by
 obtain ⟨l,x,h1,h2⟩:=h;exact ⟨l,x,h1,aQ h2 (dE _ hB)⟩
theorem rT{f g:Fr}(h:eM f)(h':eM g):eM (oR f g):=gA (Int.mul_pos h.pos h'.pos)
theorem Fn.add{N B C:Nat}{f g:Fr}(h:Fn N B f)(h':Fn N C g):Fn N (B+C) (oR f g):=by
 obtain ⟨l,x,h1,h2⟩:=h;obtain ⟨l',y,h3,h4⟩:=h';refine ⟨rT l l',x+y,?_,?_⟩
 ·rw [vN l.pos l'.pos,Rat.intCast_add,<-h1,<-h3];grind
 ·rw [Nat.add_mul];omega
theorem Fn.up{N B:Nat}{f:Fr}(h:Fn N B f)(M:Nat):Fn (N*M) B f:=by
 obtain ⟨l,x,h1,h2⟩:=h;refine ⟨l,x*(M:Int),?_,?_⟩
 ·rw [Rat.intCast_mul,<-h1,Rat.natCast_mul];have:((M:Int):Rat)=(M:Rat):=rfl;rw [this];grind
 ·rw [jI,<-Nat.mul_assoc];exact dE _ h2
theorem Fn.dvd{N M B:Nat}{f:Fr}(h:Fn N B f)(d:N ∣ M):Fn M B f:=by
 obtain ⟨e,rfl⟩:=d;exact h.up e
theorem kR(N:Nat):((N:Int):Rat)=(N:Rat):=rfl
theorem OB:eM (0,1):=⟨Dd,Dd⟩
theorem TV:eM (1,1):=⟨Dd,Dd⟩
theorem Fn.zero(N:Nat):Fn N 0 (0,1):=⟨OB,0,by rw [jY];grind,by simp⟩
theorem Fn.one(N:Nat):Fn N 1 (1,1):=⟨TV,N,by rw [FC,kR];grind,by simp⟩
theorem Fn.eq{N B:Nat}{f:Fr}(h:Fn N B f)(hN:0<N):∃x:Int,f=lw x (N:Int)/\x.natAbs<=B*N:=by
 obtain ⟨l,x,h1,h2⟩:=h;have hp:(0:Int)<(N:Int):=Oo;refine ⟨x,fU l (gA hp) ?_,h2⟩;rw [qW hp,<-h1,kR];have:=gU hp;rw [kR] at this;grind
theorem Fn.of{n d:Int}{B:Nat}(h:0<d)(hB:n.natAbs<=B*d.natAbs):Fn d.natAbs B (lw n d):=by
 refine ⟨gA h,n,?_,hB⟩;have e:(d.natAbs:Int)=d:=Oo;rw [qW h,<-kR,e];have:=gU h;grind
theorem Fn.num{N B:Nat}{f:Fr}(h:Fn N B f)(hN:0<N):f.1.natAbs<=B*N/\f.2.natAbs<=N:=by
 obtain ⟨x,rfl,h2⟩:=h.eq hN;have q:=NY (n:=x) (d:=(N:Int)) Oo;have p:=(gA (n:=x) (d:=(N:Int)) Oo).pos;omega
theorem Fn.tot{N B:Nat}:∀(fs:List Fr),(∀f∈fs,Fn N B f)->Fn N (fs.length*B) (sB fs):=by
 intro fs
 induction fs using pD with
 | h0=>intro _;exact (Fn.zero N).le (cC _)
 | hs l a ih =>
  intro h;rw [oZ,bF,List.length_singleton,Nat.add_mul,Nat.one_mul];exact (ih λf hf=>h f (cX _ hf)).add (h a (aP _ (bQ.mpr rfl)))
end Mf
namespace Mf
def fJ(n:Nat)(f:Nat->Rat):Rat:=sC ((List.range n).map f)
theorem eN(f:Nat->Rat):fJ 0 f=0:=rfl
theorem dJ(n:Nat)(f:Nat->Rat):fJ (n+1) f=fJ n f+f n:=by
 unfold fJ;rw [List.range_succ,bM,nL,aO,List.map_nil,lT,qL];grind
theorem eU{n:Nat}{f g:Nat->Rat}(h:∀i,i<n->f i=g i):fJ n f=fJ n g:=by
 induction n with
 | zero=>rfl
 | succ n ih=>rw [dJ,dJ,ih λi hi=>h i Oo,h n Oo]
theorem BT(n:Nat)(f g:Nat->Rat):fJ n (λi=>f i+g i)=fJ n f+fJ n g:=by
 induction n with
 | zero=>rw [eN,eN,eN];grind
 | succ n ih=>rw [dJ,dJ,dJ,ih];grind
theorem lS(n:Nat)(a:Rat)(f:Nat->Rat):fJ n (λi=>a*f i)=a*fJ n f:=by
 induction n with
 | zero=>rw [eN,eN];grind
 | succ n ih=>rw [dJ,dJ,ih];grind
theorem xX{n:Nat}{f g:Nat->Rat}(h:∀i,i<n->f i<=g i):fJ n f<=fJ n g:=by
 induction n with
 | zero=>rw [eN,eN];exact Rat.le_refl
 | succ n ih =>
  have h1:=ih λi hi=>h i Oo;have h2:=h n Oo;rw [dJ,dJ];grind
theorem lR(n:Nat):fJ n (λ_=>0)=0:=by
 induction n with
 | zero=>rfl
 | succ n ih=>rw [dJ,ih];grind
theorem zU{n:Nat}{f:Nat->Rat}(h:∀i,i<n->0<=f i):0<=fJ n f:=by
 have:=xX (n:=n) (f:=λ_=>0) (g:=f) h
 rwa [lR] at this
theorem vC{n:Nat}(f:Nat->Rat){w:Nat}(h:w<n):fJ n f-f w=fJ n (λi=>if i=w then 0 else f i):=by
 induction n with
 | zero=>omega
 | succ n ih =>
  rw [dJ,dJ];by_cases e:w=n
  ·subst e;rw [if_pos rfl,eU (g:=f) λi hi=>if_neg Oo];grind
  ·rw [if_neg (λq=>e q.symm),<-ih Oo];grind
def cW(c:List Nat)(i:Nat):List Nat:=c.set i (c.getD i 0+1)
section
variable{W F:Nat}{q:Nat->List Nat->Rat}{mix ps ps' cs:Nat->Rat}
end
end Mf
namespace Mf
def Qn(N B:Nat)(x:Rat):Prop:=∃z:Int,x*(N:Rat)=(z:Rat)/\z.natAbs<=B*N
theorem Fn.q{N B:Nat}{f:Fr}(h:Fn N B f):Qn N B (rv f):=h.2
def dL(x:Rat):Fr:=(x.num,(x.den:Int))
theorem bL(x:Rat):eM (dL x):=by
 refine ⟨?_,?_⟩
 ·show (0:Int)<(x.den:Int);have:=x.den_pos;omega
 ·show Int.gcd x.num (x.den:Int)=1;rw [Int.gcd_eq_natAbs_gcd_natAbs,Int.natAbs_natCast];exact x.reduced
theorem dG(x:Rat):rv (dL x)=x:=by
 unfold rv dL;show (x.num:Rat)/((x.den:Int):Rat)=x;rw [<-Rat.divInt_eq_div,Rat.num_divInt_den]
theorem Qn.fq{N B:Nat}{x:Rat}(h:Qn N B x):Fn N B (dL x):=⟨bL x,by rw [dG];exact h⟩
theorem Qn.le{N B C:Nat}{x:Rat}(h:Qn N B x)(hB:B<=C):Qn N C x:=by
 obtain ⟨z,h1,h2⟩:=h;exact ⟨z,h1,aQ h2 (dE _ hB)⟩
theorem Qn.add{N B C:Nat}{x y:Rat}(h:Qn N B x)(h':Qn N C y):Qn N (B+C) (x+y):=by
 obtain ⟨z,h1,h2⟩:=h;obtain ⟨u,h3,h4⟩:=h';refine ⟨z+u,?_,?_⟩
 ·rw [Rat.intCast_add,<-h1,<-h3];grind
 ·rw [Nat.add_mul];omega
theorem Qn.mul{N M B C:Nat}{x y:Rat}(h:Qn N B x)(h':Qn M C y):Qn (N*M) (B*C) (x*y):=by
 obtain ⟨z,h1,h2⟩:=h;obtain ⟨u,h3,h4⟩:=h';refine ⟨z*u,?_,?_⟩
 ·rw [Rat.intCast_mul,<-h1,<-h3,Rat.natCast_mul];grind
 ·rw [jI];have:=Nat.mul_le_mul h2 h4;rw [Nat.mul_mul_mul_comm] at this;exact this
theorem Qn.dvd{N M B:Nat}{x:Rat}(h:Qn N B x)(d:N ∣ M):Qn M B x:=by
 obtain ⟨e,rfl⟩:=d;obtain ⟨z,h1,h2⟩:=h;refine ⟨z*(e:Int),?_,?_⟩
 ·rw [Rat.intCast_mul,<-h1,Rat.natCast_mul,kR];grind
 ·rw [jI,<-Nat.mul_assoc];exact dE _ h2
theorem Qn.zero(N B:Nat):Qn N B 0:=⟨0,by grind,by simp⟩
theorem Qn.sumR{N B:Nat}{f:Nat->Rat}:∀{n:Nat},(∀i,i<n->Qn N B (f i))->Qn N (n*B) (fJ n f)
 | 0,_=>by rw [eN];exact Qn.zero _ _
 | n+1,h=>by
  rw [dJ,Nat.add_mul,Nat.one_mul];exact (Qn.sumR λi hi=>h i Oo).add (h n Oo)
theorem WA{f:Fr}(h:eM f)(h0:0<=f.1):0<=rv f:=by
 have h1:=FR h.pos;have e:=lD h.pos;have h2:(0:Rat)<=(f.1:Rat):=by exact_mod_cast h0
 have:rv f=(f.1:Rat)*(f.2:Rat)⁻¹:=by unfold rv;exact Rat.div_def _ _
 rw [this];exact cL h2 (Rat.le_of_lt (Rat.inv_pos.mpr h1))
def kZ(ps:List Fr)(v:Nat):Rat:=rv (ps.getD v (0,1))
theorem yN{α:Type}{l:List α}{j:Nat}{a:α}(h:j<l.length):l.getD j a∈l:=by
 rw [aN,aC h];exact List.getElem_mem h
section
variable{F W M:Nat}{ss:List (List Fr)}{mix ps cs:List Fr}{Ns Nm Np Nc B:Nat}
theorem jO{c:List Nat}{j:Nat}(h:j<c.length):(cW c j).sum=c.sum+1:=by
 unfold cW;have h1:c[j]?=some (c.getD j 0):=by rw [aN,aC h];rfl
 have:=uK c j (c.getD j 0+1) _ h1;omega
theorem PV(c:List Nat)(j:Nat):(cW c j).length=c.length:=by unfold cW;rw [List.length_set]
end
def rise(F M:Nat):List (List Nat):=(List.range (M+1)).flatMap (cta F)
theorem uQ:∀{F m:Nat}{c:List Nat},1<=F->c.length=F->c.sum=m->c∈cta F m
 | 0,m,c,h,_,_=>Oo
 | 1,m,c,_,hl,hs=>by
  obtain ⟨x,rfl⟩:∃x,c=[x]:=by
   match c,hl with
   | [x],_=>exact ⟨x,rfl⟩
  have:x=m:=by simpa using hs
  subst this;simp [cta]
 | F+2,m,c,_,hl,hs=>by
  cases c with
  | nil=>simp at hl
  | cons x c =>
   rw [List.sum_cons] at hs;unfold cta;refine List.mem_flatMap.mpr ⟨x,cG.mpr Oo,aD.mpr ⟨c,uQ Oo (by simpa using hl) Oo,rfl⟩⟩
theorem rB{F M:Nat}{c:List Nat}(hF:1<=F):c∈rise F M↔c.length=F/\c.sum<=M:=by
 unfold rise;rw [List.mem_flatMap];constructor
 ·rintro ⟨m,hm,hc⟩;have:=cG.mp hm;obtain ⟨h1,h2⟩:=iA hc;exact ⟨h1,Oo⟩
 ·rintro ⟨h1,h2⟩;exact ⟨c.sum,cG.mpr Oo,uQ hF h1 rfl⟩
theorem tN(F:Nat):∀M:Nat,(rise F M).Pairwise λa b=>a.sum<=b.sum
 | 0=>by
  unfold rise;rw [List.range_succ,List.range_zero,List.nil_append,List.flatMap_singleton];refine List.pairwise_iff_forall_sublist.mpr λ{a b} h=>?_;have ha:a∈cta F 0:=h.subset (by simp);have:=(iA ha).2;omega
 | M+1=>by
  have ih:=tN F M;unfold rise at *;rw [List.range_succ,List.flatMap_append,List.flatMap_singleton];refine List.pairwise_append.mpr ⟨ih,?_,λa ha b hb=>?_⟩
  ·refine List.pairwise_iff_forall_sublist.mpr λ{a b} h=>?_;have ha:a∈cta F (M+1):=h.subset (by simp);have hb:b∈cta F (M+1):=h.subset (by simp);have h1:=(iA ha).2;have h2:=(iA hb).2;omega
  ·obtain ⟨m,hm,ha⟩:=List.mem_flatMap.mp ha;have:=cG.mp hm;have h1:=(iA ha).2;have h2:=(iA hb).2;omega
end Mf
namespace Mf
theorem DG:∀F:Nat,1<=F->cta F 0=[List.replicate F 0]
 | 1,_=>rfl
 | F+2,_=>by
  unfold cta;rw [List.range_succ,List.range_zero,List.nil_append,List.flatMap_singleton,Nat.sub_zero,DG (F+1) Oo]
  rfl
theorem PB{F m:Nat}(hF:1<=F){d:List Nat}:d∈cta F (m+1) ↔ ∃c∈cta F m,∃j,j<F/\d=cW c j:=by
 constructor
 ·intro h;obtain ⟨h1,h2⟩:=iA h;obtain ⟨j,hj,hp⟩:∃j,j<d.length/\0<d.getD j 0:=by
   refine bP λq=>?_;have z:d=List.replicate d.length 0:=by
    refine List.eq_replicate_iff.mpr ⟨rfl,λx hx=>?_⟩;obtain ⟨j,hj⟩:=List.mem_iff_getElem?.mp hx;have hl:=(aK.mp hj).1;have:d.getD j 0=x:=by rw [aN,hj];rfl
    refine bP λhx0=>q ⟨j,hl,Oo⟩
   have:d.sum=0:=by rw [z];simp
   omega
  have e1:d[j]?=some (d.getD j 0):=by rw [aN,aC hj];rfl
  have s1:=uK d j (d.getD j 0-1) _ e1;refine ⟨d.set j (d.getD j 0-1),uQ hF (by rw [List.length_set];exact h1) Oo,j,Oo,?_⟩;unfold cW;rw [aN (l:=d.set j _),List.getElem?_set_self hj,List.set_set];show d=d.set j (d.getD j 0-1+1);rw [show d.getD j 0-1+1=d.getD j 0 by omega];refine (List.ext_getElem? λi=>?_);rw [List.getElem?_set];by_cases e:j=i
  ·subst e;rw [if_pos rfl,if_pos hj];exact e1
  ·rw [if_neg e]
 ·rintro ⟨c,hc,j,hj,rfl⟩;obtain ⟨h1,h2⟩:=iA hc;exact uQ hF (by rw [PV];exact h1) (by rw [jO Oo];omega)
theorem AF:∀F,F<=4->∀M,M<=5->(rise F M).Nodup:=Kk
end Mf
namespace Mf
abbrev cS:=List Nat × List Fr
def s0(e:cS):Rat:=kZ e.2 0
def fN(F:Nat)(c d:List Nat):Rat:=fJ F λf=>if cW c f=d then 1 else 0
def bJ(F:Nat)(es:List cS):List Nat->Rat:=es.foldl (λg e=>λd=>g d+g e.1*s0 e*fN F e.1 d) (λd=>if d=List.replicate F 0 then 1 else 0)
theorem kH(F:Nat)(d:List Nat):bJ F [] d=if d=List.replicate F 0 then 1 else 0:=rfl
theorem gW(F:Nat)(l:List cS)(e:cS)(d:List Nat):bJ F (l++[e]) d=bJ F l d+bJ F l e.1*s0 e*fN F e.1 d:=by unfold bJ;rw [List.foldl_append];rfl
def dA{α:Type}(l:List α)(f:α->Rat):Rat:=sC (l.map f)
theorem eG{α:Type}(f:α->Rat):dA [] f=0:=rfl
theorem cR{α:Type}(a:α)(l:List α)(f:α->Rat):dA (a::l) f=f a+dA l f:=rfl
theorem BV{α:Type}(a b:List α)(f:α->Rat):dA (a++b) f=dA a f+dA b f:=by unfold dA;rw [bM,nL]
theorem kC{α:Type}(l:List α)(a:α)(f:α->Rat):dA (l++[a]) f=dA l f+f a:=by rw [BV,cR,eG];grind
theorem cT{α:Type}{l:List α}{f g:α->Rat}(h:∀a∈l,f a=g a):dA l f=dA l g:=by unfold dA;rw [dN h]
theorem vD{α:Type}(l:List α)(f g:α->Rat):dA l (λa=>f a+g a)=dA l f+dA l g:=by
 induction l with
 | nil=>rw [eG,eG,eG];grind
 | cons a l ih=>rw [cR,cR,cR,ih];grind
theorem nN{α:Type}(l:List α)(x:Rat)(f:α->Rat):dA l (λa=>x*f a)=x*dA l f:=by
 induction l with
 | nil=>rw [eG,eG];grind
 | cons a l ih=>rw [cR,cR,ih];grind
theorem gI{α:Type}(l:List α):dA l (λ_=>0)=0:=by
 induction l with
 | nil=>rfl
 | cons a l ih=>rw [cR,ih];grind
theorem JA{α:Type}{l:List α}{f g:α->Rat}(h:∀a∈l,f a<=g a):dA l f<=dA l g:=by
 induction l with
 | nil=>exact Rat.le_refl
 | cons a l ih =>
  have h1:=h a (aH ..);have h2:=ih λx hx=>h x (aF _ hx);rw [cR,cR];grind
theorem uL{α:Type}{l:List α}{f:α->Rat}(h:∀a∈l,0<=f a):0<=dA l f:=by
 have:=JA (l:=l) (f:=λ_=>0) (g:=f) h
 rwa [gI] at this
theorem IY{α:Type}(l:List α)(n:Nat)(f:α->Nat->Rat):dA l (λa=>fJ n (f a))=fJ n λi=>dA l λa=>f a i:=by
 induction l with
 | nil=>show 0=fJ n (λ_=>0);rw [lR]
 | cons a l ih =>
  rw [cR,ih,<-BT];exact eU λi _=>rfl
theorem iN{es:List cS}(nd:(es.map (·.1)).Nodup){b:List Nat}(hb:b∈es.map (·.1))(Φ:List Nat->Rat):dA es (λx=>(if b=x.1 then 1 else 0)*Φ x.1)=Φ b:=by
 induction es with
 | nil=>cases hb
 | cons a es ih =>
  rw [aO,List.nodup_cons] at nd;rw [cR];by_cases e:b=a.1
  ·rw [if_pos e,e,cT (g:=λ_=>0) λx hx=>?_,gI]
   ·grind
   ·rw [if_neg λq=>nd.1 (by rw [q];exact aD.mpr ⟨x,hx,rfl⟩)];grind
  ·rw [if_neg e,ih nd.2 (by rw [aO] at hb;exact (aT.mp hb).resolve_left e)];grind
structure qD(F:Nat)(es:List cS):Prop where
 root:∃e r,es=e::r/\e.1=List.replicate F 0
 len:∀e∈es,e.1.length=F
 nd:(es.map (·.1)).Nodup
 srt:es.Pairwise λa b=>a.1.sum<=b.1.sum
 fwd:∀e∈es,s0 e≠0->∀f,f<F->cW e.1 f∈es.map (·.1)
 bwd:∀d∈es.map (·.1),d≠List.replicate F 0->∃e∈es,s0 e≠0/\∃f,f<F/\cW e.1 f=d
 nn:∀e∈es,0<=s0 e
section
variable{F:Nat}{es:List cS}
theorem oO{c d:List Nat}(hc:c.length=F)(h:d.sum≠c.sum+1):fN F c d=0:=by
 unfold fN;rw [eU (g:=λ_=>0) λf hf=>if_neg λq=>h ?_,lR];rw [<-q,jO Oo]
theorem qD.at(R:qD F es){i:Nat}{e:cS}(h:es[i]?=some e):bJ F (es.take i) e.1=bJ F es e.1:=by
 have key:∀k,i+k<=es.length->bJ F (es.take (i+k)) e.1=bJ F (es.take i) e.1:=by
  intro k
  induction k with
  | zero=>intro _;rfl
  | succ k ih =>
   intro hk;obtain ⟨x,hx⟩:∃x,es[i+k]?=some x:=⟨_,aC Oo⟩;have et:es.take (i+k+1)=es.take (i+k)++[x]:=by rw [eJ,hx];rfl
   rw [<-Nat.add_assoc,et,gW,ih Oo,oO (R.len x (aZ hx)) ?_]
   ·grind
   ·obtain ⟨l1,e1⟩:=aK.mp h;obtain ⟨l2,e2⟩:=aK.mp hx;have:e.1.sum<=x.1.sum:=by
     by_cases q:k=0
     ·subst q;have:e=x:=by rw [<-e1,<-e2];rfl
      rw [this];exact aJ _
     ·have:=(List.pairwise_iff_getElem.mp R.srt) i (i+k) l1 l2 Oo
      rwa [e1,e2] at this
    omega
 have hi:=(aK.mp h).1;have:=key (es.length-i) Oo;rw [show i+(es.length-i)=es.length by omega,cQ] at this;exact this.symm
theorem qD.cons(R:qD F es)(Φ:List Nat->Rat):∀n,n<=es.length->dA es (λx=>bJ F (es.take n) x.1*Φ x.1)=Φ (List.replicate F 0)+dA (es.take n) λe=>bJ F es e.1*s0 e*fJ F λf=>Φ (cW e.1 f):=by
 intro n
 induction n with
 | zero =>
  intro _;rw [List.take_zero,eG];obtain ⟨e,r,he,hz⟩:=R.root;have:=iN R.nd (b:=List.replicate F 0) (by rw [he,<-hz];exact aH ..) Φ;rw [cT (g:=λx=>(if List.replicate F 0=x.1 then 1 else 0)*Φ x.1) λx _=>?_,this]
  ·grind
  ·rw [kH];by_cases q:x.1=List.replicate F 0
   ·rw [if_pos q,if_pos q.symm]
   ·rw [if_neg q,if_neg λz=>q z.symm]
 | succ n ih =>
  intro hn;obtain ⟨e,he⟩:∃x,es[n]?=some x:=⟨_,aC Oo⟩;have et:es.take (n+1)=es.take n++[e]:=by rw [eJ,he];rfl
  have hm:=aZ he;rw [et,kC,<-Rat.add_assoc,<-ih Oo];rw [cT (g:=λx=>bJ F (es.take n) x.1*Φ x.1+bJ F es e.1*s0 e*(fN F e.1 x.1*Φ x.1)) λx _=>by rw [gW,R.at he];grind];rw [vD,nN];by_cases z:s0 e=0
  ·rw [z];grind
  ·congr 2;have:(λx:cS=>fN F e.1 x.1*Φ x.1)=λx=>fJ F λf=>(if cW e.1 f=x.1 then 1 else 0)*Φ x.1:=by
    funext x
    unfold fN;rw [Rat.mul_comm,<-lS];exact eU λi _=>Rat.mul_comm _ _
   rw [this,IY];exact eU λf hf=>iN R.nd (R.fwd e hm z f hf) Φ
theorem qD.all(R:qD F es)(Φ:List Nat->Rat):dA es (λx=>bJ F es x.1*Φ x.1)=Φ (List.replicate F 0)+dA es λe=>bJ F es e.1*s0 e*fJ F λf=>Φ (cW e.1 f):=by
 have:=R.cons Φ es.length (aJ _)
 rwa [cQ] at this
theorem OL(F:Nat)(c d:List Nat):0<=fN F c d:=zU λf _=>by split <;> grind
theorem qD.fnn(R:qD F es):∀n,n<=es.length->∀d,0<=bJ F (es.take n) d:=by
 intro n
 induction n with
 | zero=>intro _ d;rw [List.take_zero,kH];split <;> grind
 | succ n ih =>
  intro hn d;obtain ⟨e,he⟩:∃x,es[n]?=some x:=⟨_,aC Oo⟩;have et:es.take (n+1)=es.take n++[e]:=by rw [eJ,he];rfl
  rw [et,gW];have h1:=ih Oo d;have h2:=ih Oo e.1;have h3:=cL (cL h2 (R.nn e (aZ he))) (OL F e.1 d);grind
theorem qD.nnf(R:qD F es)(d:List Nat):0<=bJ F es d:=by
 have:=R.fnn es.length (aJ _) d
 rwa [cQ] at this
theorem qD.pos(R:qD F es):∀(k:Nat) (d:List Nat),d∈es.map (·.1)->d.sum<=k->0<bJ F es d:=by
 have eqd:∀d∈es.map (·.1),bJ F es d=(if d=List.replicate F 0 then 1 else 0)+dA es λe=>bJ F es e.1*s0 e*fN F e.1 d:=λd hd=>by
  have h:=R.all λx=>if d=x then 1 else 0
  have h1:=iN R.nd hd (bJ F es);have e1:dA es (λx=>bJ F es x.1*(if d=x.1 then 1 else 0))=bJ F es d:=by rw [<-h1];exact cT λx _=>Rat.mul_comm _ _
  rw [<-e1,h];congr 1;exact cT λe _=>by
   congr 1;unfold fN;exact eU λf _=>by
    by_cases q:d=cW e.1 f
    ·rw [if_pos q,if_pos q.symm]
    ·rw [if_neg q,if_neg λz=>q z.symm]
 have tn:∀d,∀e∈es,0<=bJ F es e.1*s0 e*fN F e.1 d:=λd e he=>cL (cL (R.nnf _) (R.nn e he)) (OL F e.1 d);intro k
 induction k with
 | zero =>
  intro d hd hs;have hz:d=List.replicate F 0:=by
   refine bP λq=>?_;obtain ⟨e,he,_,f,hf,rfl⟩:=R.bwd d hd q;rw [jO (by rw [R.len e he];exact hf)] at hs;omega
  rw [eqd d hd,if_pos hz];have:=uL (tn d);grind
 | succ k ih =>
  intro d hd hs;by_cases hz:d=List.replicate F 0
  ·rw [eqd d hd,if_pos hz];have:=uL (tn d);grind
  ·obtain ⟨e,he,h0,f,hf,rfl⟩:=R.bwd d hd hz;have bs:=jO (c:=e.1) (j:=f) (by rw [R.len e he];exact hf);have hA:=ih e.1 (aD.mpr ⟨e,he,rfl⟩) Oo;have hs0:0<s0 e:=by have:=R.nn e he;grind
   have hh:1<=fN F e.1 (cW e.1 f):=by
    unfold fN;have h1:=xX (n:=F) (f:=λi=>if i=f then 1 else 0) (g:=λi=>if cW e.1 i=cW e.1 f then 1 else 0) λi _=>by
     by_cases q:i=f
     ·subst q;rw [if_pos rfl,if_pos rfl];exact Rat.le_refl
     ·rw [if_neg q];split <;> grind
    have h2:=vC (n:=F) (λi=>if i=f then (1:Rat) else 0) hf;have h3:fJ F (λi=>if i=f then 0 else if i=f then (1:Rat) else 0)=0:=by
     rw [eU (g:=λ_=>0) λi _=>?_,lR];by_cases q:i=f
     ·rw [if_pos q]
     ·rw [if_neg q,if_neg q]
    rw [if_pos rfl,h3] at h2;grind
   have one:0<bJ F es e.1*s0 e*fN F e.1 (cW e.1 f):=Rat.mul_pos (Rat.mul_pos hA hs0) (by grind);rw [eqd _ hd,if_neg hz];have:bJ F es e.1*s0 e*fN F e.1 (cW e.1 f)<=dA es λe'=>bJ F es e'.1*s0 e' * fN F e'.1 (cW e.1 f):=by
    obtain ⟨l1,l2,rfl⟩:=List.append_of_mem he;rw [BV,cR];have n1:=uL (l:=l1) λx hx=>tn (cW e.1 f) x (cX _ hx);have n2:=uL (l:=l2) λx hx=>tn (cW e.1 f) x (aP _ (aF _ hx));grind
   grind
theorem qD.posf(R:qD F es){e:cS}(h:e∈es):0<bJ F es e.1:=R.pos _ e.1 (aD.mpr ⟨e,h,rfl⟩) (aJ _)
theorem Qn.one'(N:Nat):Qn N 1 1:=⟨N,by rw [kR];grind,by simp⟩
theorem qD.qn(R:qD F es){N:Nat}(hN:∀e∈es,Qn N 1 (s0 e))(f4:F<=4):∀n,n<=es.length->∀d,Qn (N^d.sum) (5^n) (bJ F (es.take n) d):=by
 intro n
 induction n with
 | zero =>
  intro _ d;rw [List.take_zero,kH];split
  ·exact Qn.one' _
  ·exact Qn.zero _ _
 | succ n ih =>
  intro hn d;obtain ⟨e,he⟩:∃x,es[n]?=some x:=⟨_,aC Oo⟩;have et:es.take (n+1)=es.take n++[e]:=by rw [eJ,he];rfl
  rw [et,gW];have h1:=ih Oo d;have hm:=aZ he;have p5:5^(n+1)=5*5^n:=by rw [Nat.pow_succ];omega
  by_cases hs:d.sum=e.1.sum+1
  ·have h2:=(ih Oo e.1).mul (hN e hm);have h3:Qn 1 4 (fN F e.1 d):=by
    have:=Qn.sumR (N:=1) (B:=1) (n:=F) (f:=λf=>if cW e.1 f=d then 1 else 0) λf _=>by
     split
     ·exact Qn.one' _
     ·exact Qn.zero _ _
    exact this.le Oo
   have h4:=h2.mul h3;have h5:N^e.1.sum*N=N^d.sum:=by rw [hs,Nat.pow_succ]
   rw [Nat.mul_one,h5] at h4;exact (h1.add h4).le Oo
  ·rw [oO (R.len e hm) hs];have:bJ F (es.take n) d+bJ F (es.take n) e.1*s0 e*0=bJ F (es.take n) d:=by grind
   rw [this];exact h1.le Oo
end
theorem GP(fs:List Fr):sC (fs.map rv)=fJ fs.length (kZ fs):=by
 unfold fJ;congr 1;refine List.ext_getElem? λi=>?_;rw [aE,aE];by_cases hi:i<fs.length
 ·rw [bN hi,aC hi];show some _=some (kZ fs i);unfold kZ;rw [aN,aC hi];rfl
 ·rw [bO Oo,bO (by rw [bK];omega)];rfl
section
variable{F W M:Nat}{es:List cS}{q:Nat->List Nat->Rat}{mix ps cs:Nat->Rat}
end
end Mf
namespace Mf
section
variable{F W:Nat}{es:List cS}{q:Nat->List Nat->Rat}{mix ps cs:Nat->Rat}
end
end Mf
namespace L2
open PySem
section
variable{M:Model}{A:Around}{E:Value->Shared->Prop}{s:Shared}{env:Env}{outer:List Env}{base:Heap}{L a:Addr}{cls:Value}{od:Option Addr}
end
end L2
namespace L2
open PySem PySem.Spec PyProof.Rows
section
variable{P:Program}{w:World}{H H1 H2:Hp}{h h1 h2 base:Heap}{fs fs2 ex:List Addr}{a:Addr}{o:HO}
end
section
variable{P:Program}{w:World}{K:PySem.W.Frag}{mg:Str->Option Value}{base:Heap}{N:List Str}{qual:Str}{scope:Scope}{f:Addr}{cd:Value}{A:Around}{outer:List Env}{s:Shared}{H:Hp}{E:XK}
end
section
variable{X:Cx}{k:Nat}{f C:Addr}{fd:FuncData}{ps:List Str}{sp:Sp}{Ex:St->XK}{x:Str}{p pos np cpos:Pos}{e:Expr}{es:List Expr}{t:TA}
end
section
variable{X:Cx}{C:Addr}{Ex:St->XK}{x:Str}{pos np cpos:Pos}{e:Expr}{es:List Expr}{t:TA}
end
end L2
namespace L2
open PySem PySem.W PySem.Spec PySem.Calls PyProof.Rows
section
variable{prog:Program}{w:World}{A:Around}{E:Value->Shared->Prop}{s:Shared}{K:Frag}{x C:Addr}{ox:Obj}{od:Option Obj}{name:Str}
end
end L2
namespace L2
open PySem PySem.Spec PyProof.Rows
section
variable{X:Cx}{pins:List (Addr × Obj)}{σ:St}{H:Hp}{s:Shared}
end
section
variable{M:Model}{A:Around}{E:Value->Shared->Prop}{K:PySem.W.Frag}{s:Shared}{a C C2:Addr}{ox:Obj}{od:Option Obj}
end
section
variable{X:Cx}{x n:Str}{np hpos pos:Pos}{b₀:Stmt}{body suite:List Stmt}{i:Nat}{C2:Addr}{tb:(St->XK)->TS}{th:TS}
end
end L2
namespace L2
open PySem PySem.W PySem.Spec PySem.Calls PyProof.Rows
section
variable{prog:Program}{w:World}{A:Around}{E:Value->Shared->Prop}{h:Heap}{g:Array GenState}{d:Drawn}{t:Nat}{os:OsState}
variable{nm q:Str}{C N:Addr}{bs bm bmB:List Value}{hdct:Bool}{sn:List Str}{sub:List Value}{ab:Bool}{col:Option Bool}{dd:Option Addr}{k0 k1 k2 k3 k5:Option Value}{B newId initId:String}
end
section
variable{prog:Program}{w:World}{A:Around}{E:Value->Shared->Prop}{s:Shared}{K:Frag}{C f:Addr}{rest:List Value}
end
end L2
namespace L2
open PySem PySem.W PySem.Spec PySem.Calls PyProof.Rows Builtin Builtin.ObjectAttr
section
variable{prog:Program}{w:World}{A:Around}{E:Value->Shared->Prop}{s:Shared}{K:Frag}{x C:Addr}{R:Result->Shared->Prop}
end
section
variable{X:Cx}{pins:List (Addr × Obj)}{σ:St}{H:Hp}{s:Shared}{a C d:Addr}{fs:List (Str × V)}{f:Str}{v:V}{A:Around}{E:Value->Shared->Prop}
end
section
variable{X:Cx}{k:Nat}{f C:Addr}{fd:FuncData}{ps:List Str}{sp:Sp}{x g:Str}{p pos np apos pos':Pos}{e o value:Expr}{es:List Expr}{t:TA}{ta tv:TE}
end
end L2
namespace L2
open PySem PySem.W PySem.Spec PySem.Calls PyProof.Rows
end L2
namespace L2
open PySem PySem.W PySem.Spec PySem.Calls PyProof.Rows Builtin Builtin.ObjectAttr
section
variable{P:Program}{w:World}{H:Hp}{h:Heap}{a C:Addr}{od:Option Addr}
end
section
variable{prog:Program}{w:World}{A:Around}{E:Value->Shared->Prop}{s:Shared}{K:Frag}{x C:Addr}
end
section
variable{X:Cx}{pins:List (Addr × Obj)}{σ:St}{H:Hp}{s:Shared}{a C d:Addr}{fs:List (Str × V)}{f:Str}{v:V}{A:Around}{E:Value->Shared->Prop}
end
section
variable{X:Cx}{k:Nat}{f C:Addr}{fd:FuncData}{ps:List Str}{sp:Sp}{x g:Str}{p pos np apos pos':Pos}{e o value:Expr}{es:List Expr}{t:TA}{ta tv:TE}
end
section
variable{M:Model}{A:Around}{E:Value->Shared->Prop}{env:Env}{K:Frag}{C:Addr}
end
section
variable{X:Cx}{k:Nat}{f C:Addr}{fd:FuncData}{ps:List Str}{sp:Sp}{Ex:St->XK}{x:Str}{pos np cpos:Pos}{e:Expr}{es:List Expr}{t:TA}
end
end L2
namespace L2
open PySem PySem.Spec PySem.W PyProof.Rows HT
@[irreducible] def GZ(K:PySem.W.Frag):List V->Hp->VK->Prop:=λxs H Q=>∃a ys,xs=[.ref a,.ty "tuple"]/\eZ K H a ys/\Q (.bl true) H
theorem MW{K:PySem.W.Frag}{H:Hp}{Q:VK}{a:Addr}{ys:List V}(h:eZ K H a ys)(q:Q (.bl true) H):GZ K [.ref a,.ty "tuple"] H Q:=by unfold GZ;exact ⟨a,ys,rfl,h,q⟩
theorem BD{X:Cx}(K:PySem.W.Frag)(hK:X.K=K:=by rfl):fX X (.builtin "isinstance") (GZ K):=by
 subst hK;unfold GZ;intro pins s σ H xs us Q I r h;obtain ⟨a,ys,rfl,ha,q⟩:=h;obtain ⟨u,w',rfl,r1,r2⟩:=GM r;cases (show w'=Value.type "tuple" from r2);cases (show u=Value.ref a from r1);obtain ⟨its,_,⟨o,h1,h2,_⟩,_⟩:=I.tuple ha;exact kia_one kitx_tuple I.kIn ⟨o,h1,h2⟩ (WI _ (.tuple []) "tuple" Dd) (λz=>nomatch z) λtk=>⟨.bl _,H,I.tok _,rfl,q⟩
@[irreducible] def AJ:List V->Hp->VK->Prop:=λxs H Q=>∃(d:Addr) (kvs:List (List dP × V)),xs=[.ref d]/\H d=some (.dT kvs)/\kvs.length<=1000/\∀D ys H',H D=none->H' D=some (.lst ys)->xA H' kvs ys->bC H H'->Q (.ref D) H'
theorem rlst{H:Hp}{Q:VK}{d:Addr}{kvs:List (List dP × V)}(h:H d=some (.dT kvs))(hz:kvs.length<=1000)(q:∀D ys H',H D=none->H' D=some (.lst ys)->xA H' kvs ys->bC H H'->Q (.ref D) H'):AJ [.ref d] H Q:=by
 unfold AJ;exact ⟨d,kvs,rfl,h,hz,q⟩
theorem DO{X:Cx}(hc:X.calm=true):fX X (.type "list") AJ:=by
 unfold AJ;intro pins s σ H xs us Q I r h;obtain ⟨d,kvs,rfl,hq,hz,q⟩:=h;obtain ⟨u,rfl,rx⟩:=jJ r;cases rx;obtain ⟨hm,hnd,o,hod,hex,es,ep,hdd,hsz,hat⟩:=OY I hq;have hline:es.size<=sizeLine:=aQ (show es.size<=1000 by omega) Dd;refine kdl_call (AU hm hex hdd) (I.ok.hd hc) hod hline λh' tk acc' c' kp hget hacc=>?_;obtain ⟨la,ha⟩:=hacc;have hv:∃ys:List V,cV ys acc'.toList/\xA H kvs ys:=by
  have key:∀(n:Nat) (l:List Value),l.length=n->∀(m:List (List dP × V)),m.length=n->(∀(i:Nat) v p,l[i]?=some v->m[i]?=some p->∃b,v=.ref b/\H b=some (.tup (p.1.map kV)))->∃ys:List V,cV ys l/\xA H m ys:=by
   intro n
   induction n with
   | zero =>
    intro l hl m hm _;cases l with
    | nil=>cases m with
     | nil=>exact ⟨[],.nil,rfl,λi p h=>by simp at h⟩
     | cons _ _=>simp at hm
    | cons _ _=>simp at hl
   | succ n ih =>
    intro l hl m hm hk;cases l with
    | nil=>simp at hl
    | cons v l=>cases m with
     | nil=>simp at hm
     | cons p m =>
      obtain ⟨b,rfl,hb⟩:=hk 0 v p rfl rfl;obtain ⟨ys,hv,hy,ha⟩:=ih l (by simpa using hl) m (by simpa using hm) λi v p h1 h2=>hk (i+1) v p (by simpa using h1) (by simpa using h2);refine ⟨.ref b::ys,.cons rfl hv,by simp [hy],λi q hq=>?_⟩;cases i with
      | zero=>cases (show p=q by simpa using hq);exact ⟨b,rfl,hb⟩
      | succ i =>
       obtain ⟨b',h1,h2⟩:=ha i q (by simpa using hq);exact ⟨b',by simpa using h1,h2⟩
  refine key kvs.length acc'.toList (by rw [Array.length_toList,la,hsz]) kvs rfl λi v p h1 h2=>?_;obtain ⟨hi,e⟩:=ha i v (by rw [<-Array.getElem?_toList];exact h1);obtain ⟨b,k1,k2⟩:=hat i hi p h2;exact ⟨b,by rw [e,k1],k2⟩
 obtain ⟨ys,hv,hy⟩:=hv;have hn:=I.hok.fresh (aJ s.heap.objs.size);have sm:bC H (upd H s.heap.objs.size (.lst ys)):=bC.upd hn;refine ⟨.ref s.heap.objs.size,upd H s.heap.objs.size (.lst ys),I.laid (t':=tk) kp (aJ _) ⟨by have:=hy.1;omega,acc'.toList,c',hv,by rw [Array.toArray_toList];exact hget⟩,rfl,q _ ys _ hn bH ⟨hy.1,λi p hp=>?_⟩ sm⟩;obtain ⟨b,h1,h2⟩:=hy.2 i p hp;exact ⟨b,h1,sm _ _ h2⟩
end L2
namespace L2
open PySem PySem.Spec PyProof.Rows
section
variable{X:Cx}
end
end L2
namespace Kw
open PySem L2 Mf
def top(i:Nat):Stmt:=PySem.Challenge.pw_earlystop_k29_mixed.main.body.getD i (.Pass ⟨0,0,0,0⟩)
structure Cl where
 ONE:Addr
 NOUGHT:Addr
 tok_LOOKS_ON:Tok
structure kY(K:PySem.W.Frag)(mg:Str->Option Value)(c:Cl):Prop where
 b_list:mg "list" = none
 b_len:mg "len" = none
 b_abs:mg "abs" = none
 b_range:mg "range" = none
 b_sum:mg "sum" = none
 b_max:mg "max" = none
 b_int:mg "int" = none
 b_bool:mg "bool" = none
 b_sorted:mg "sorted" = none
 b_dict:mg "dict" = none
 b_isinstance:mg "isinstance" = none
 b_all:mg "all" = none
 b_tuple:mg "tuple" = none
 b_zip:mg "zip" = none
 b_repr:mg "repr" = none
 g_ONE:mg "ONE" = some (.ref c.ONE)
 g_NOUGHT:mg "NOUGHT" = some (.ref c.NOUGHT)
 g_LOOKS_ON:mg "LOOKS_ON" = some (.int 0 c.tok_LOOKS_ON)
 o_ONE:qB K c.ONE [1,1]=true
 o_NOUGHT:qB K c.NOUGHT [0,1]=true
abbrev sQ4:Stmt:=(top 44)
theorem cQ4:bZ ["_law_n","_law_d","_law_one","_law_other"] ["_law_n","_law_d"] (bA sQ4):=⟨rfl,rfl,rfl,Kk,rfl,Kk,Kk⟩
theorem wF{b:Bool}{A B:Prop}(h:b=true)(k:A):if b=true then A else B:=by rw [h,if_pos rfl];exact k
theorem oM{b:Bool}{A B:Prop}(h:b=false)(k:B):if b=true then A else B:=by rw [h,if_neg Dd];exact k
def nE(n:Nat)(d:PyData):Prop:=PyData.canLay0 d=true/\PyData.depth d<=n
theorem nE.all{n:Nat}:∀{ds:List PyData},(∀d∈ds,nE n d)->PyData.canLayAll0 ds=true/\PyData.depthAll ds<=n
 | [],_=>⟨rfl,cC _⟩
 | d::ds,h=>by
  obtain ⟨h1,h2⟩:=h d (aH ..);obtain ⟨h3,h4⟩:=nE.all λe he=>h e (aF _ he);refine ⟨?_,?_⟩
  ·show (PyData.canLay0 d&&PyData.canLayAll0 ds)=true;rw [h1,h3];rfl
  ·show max (PyData.depth d) (PyData.depthAll ds)<=n;omega
theorem nE.tup{n:Nat}{ds:List PyData}(h:∀d∈ds,nE n d):nE (n+1) (.tuple ds):=⟨(nE.all h).1,by have:=(nE.all h).2;show PyData.depthAll ds+1<=n+1;omega⟩
theorem nE.lst{n:Nat}{ds:List PyData}(h:∀d∈ds,nE n d):nE (n+1) (.list ds):=⟨(nE.all h).1,by have:=(nE.all h).2;show PyData.depthAll ds+1<=n+1;omega⟩
theorem nE.int(i:Int):nE 1 (.int i):=⟨rfl,by simp [PyData.depth]⟩
theorem nE.ok{n:Nat}{d:PyData}(h:nE n d)(hn:n<=64:=by decide):SeqAt.shaped d=true:=by
 unfold SeqAt.shaped;rw [h.1,Bool.true_and];exact bV (by have:=h.2;omega)
abbrev iT(f:Fr):PyData:=.tuple [.int f.1,.int f.2]
theorem FS{H:Hp}{f:Fr}{v:V}(h:cO H (iT f) v):∃a,v=.ref a/\H a=some (.tup [.int f.1,.int f.2]):=by
 unfold cO bD bD bD at h;obtain ⟨a,_,rfl,h1,x,_,rfl,r1,y,_,rfl,r2,rfl⟩:=h;cases (show x=V.int f.1 from r1);cases (show y=V.int f.2 from r2);exact ⟨a,rfl,h1⟩
theorem eS{H:Hp}{f:Fr}{a:Addr}(h:H a=some (.tup [.int f.1,.int f.2])):cO H (iT f) (.ref a):=cO.tup h (bD.cons (cO.int _) (bD.cons (cO.int _) bD.nil))
theorem eT(f:Fr):fD (iT f)=true:=rfl
def gL(K:PySem.W.Frag)(H:Hp)(f:Fr)(x:V):Prop:=∃a,x=.ref a/\eZ K H a [.int f.1,.int f.2]
theorem gL.of{K:PySem.W.Frag}{H:Hp}{f:Fr}{x:V}(h:cO H (iT f) x):gL K H f x:=by
 obtain ⟨a,e,h⟩:=FS h;exact ⟨a,e,eZ.of h⟩
theorem gL.new{K:PySem.W.Frag}{H:Hp}{f:Fr}{a:Addr}(h:H a=some (.tup [.int f.1,.int f.2])):gL K H f (.ref a):=⟨a,rfl,eZ.of h⟩
theorem gL.same{K:PySem.W.Frag}{H H':Hp}{f:Fr}{x:V}(s:bC H H')(h:gL K H f x):gL K H' f x:=by
 obtain ⟨a,e,h⟩:=h;exact ⟨a,e,h.keep s⟩
theorem gL.k{K:PySem.W.Frag}{H:Hp}{f:Fr}{x:V}(h:gL K H f x):iE K H (iT f) x:=by
 obtain ⟨a,rfl,h⟩:=h;exact iE.tup h (fP.ints [f.1,f.2])
def lM(k:Nat)(f:Fr):Prop:=f.1.natAbs<2^k/\f.2.natAbs<2^k
@[irreducible] def vH:Sp:=λvs H Q _=>∃n d:Int,vs=[.int n,.int d]/\0<d/\Q (.int (Int.gcd n d)) H
theorem qU{H:Hp}{Q:VK}{E:XK}{n d:Int}(h:0<d)(q:Q (.int (Int.gcd n d)) H):vH [.int n,.int d] H Q E:=by unfold vH;exact ⟨n,d,rfl,h,q⟩
def oT(H:Hp)(Q:VK)(f:Fr):Prop:=∀q H',H q=none->H' q=some (.tup [.int f.1,.int f.2])->bC H H'->Q (.ref q) H'
@[irreducible] def lC(K:PySem.W.Frag):Sp:=λvs H Q _=>∃x y f g,vs=[x,y]/\gL K H f x/\gL K H g y/\eM f/\eM g/\lM 4000 f/\lM 4000 g/\oT H Q (oR f g)
theorem lV{K:PySem.W.Frag}{H:Hp}{Q:VK}{E:XK}{x y:V}{f g:Fr}(h1:gL K H f x)(h2:gL K H g y)(l1:eM f)(l2:eM g)(z1:lM 4000 f)(z2:lM 4000 g)(q:oT H Q (oR f g)):lC K [x,y] H Q E:=by unfold lC;exact ⟨x,y,f,g,rfl,h1,h2,l1,l2,z1,z2,q⟩
theorem aAv{n d:Int}(h:0<d):(Int.gcd n d:Int)<=d:=Int.le_of_dvd h (Int.gcd_dvd_right n d)
theorem wJ{n d:Int}{k:Nat}(h:0<d)(z:d.natAbs<2^k):(Int.gcd n d:Int).natAbs<2^k:=by
 have:=aAv (n:=n) h;have:=hZ (n:=n) h;omega
theorem rL{n d:Int}(h:0<d)(z:d.natAbs<2^9000):QN n d:=⟨h,BE z⟩
theorem iU{i:Int}{n m:Nat}(h:i.natAbs<2^n)(k:n<=m:=by decide):i.natAbs<2^m:=aV h (bG Dd k)
theorem pT{i j:Int}{n:Nat}(h:i.natAbs<2^n)(hj:0<j):(i/j).natAbs<2^n:=bB (by
 have:=Int.natAbs_ediv_le_natAbs i j;exact this) h
theorem vB{i j:Int}{n m:Nat}(h1:i.natAbs<2^n)(h2:j.natAbs<2^m):(i*j).natAbs<2^(n+m):=by
 rw [jI,Nat.pow_add];exact Nat.mul_lt_mul'' h1 h2
abbrev sE(fs:List Fr):PyData:=.tuple (fs.map iT)
theorem rJ:∀fs:List Fr,eP (fs.map iT)=true
 | []=>rfl
 | f::fs=>by show (fD (iT f)&&eP (fs.map iT))=true;rw [rJ fs];rfl
theorem oH(fs:List Fr):fD (sE fs)=true:=rJ fs
@[irreducible] def iF:Sp:=λvs H Q _=>∃n d:Int,vs=[.int n,.int d]/\0<d/\d.natAbs<2^9000/\oT H Q (lw n d)
theorem jE{H:Hp}{Q:VK}{E:XK}{n d:Int}(h:0<d)(z:d.natAbs<2^9000)(q:oT H Q (lw n d)):iF [.int n,.int d] H Q E:=by unfold iF;exact ⟨n,d,rfl,h,z,q⟩
section
theorem oQ4(F:jA K "_law_frac" "_law_frac" sQ4 f fd)(T:kY K mg c):dZ P w K mg base dQ 1 f fd ["_law_n","_law_d"] iF:=by
 refine F.oky cQ4 λvs H Q E h=>?_;unfold iF at h;obtain ⟨n,d,rfl,hd,hz,q⟩:=h;refine ⟨rfl,λcdv A outer s hr=>?_⟩;refine ⟨_,(aS (bS (i:=2) cQ4.nd rfl (Or.inl rfl) (eR aAL (by rfl) T.b_abs Kk (aM (aI 0) aG)))
  (aS (bS (i:=3) cQ4.nd rfl (Or.inl rfl) (aI 1))
  (aS (qE PassesOwn.never (eD vV (aI 3) aL (nomark _)) (bE (XC (i:=2) (j:=3) rfl cQ4.nd rfl rfl Dd rfl rfl (aM (aI 3) (aM (cN oJ (aI 2) (aI 3)) aG)) rfl)))
  (bE (cF (dS (aM (cN fV (aI 0) (aI 2)) (aM (cN fV (aI 1) (aI 2)) aG)))))))),?_⟩
 refine ⟨_,rfl,?_⟩;refine raI ?_;refine ⟨_,rfl,?_⟩;refine uH (λm σ H'=>∃(u v:Int),σ=[some (.int n),some (.int d),some (.int u),some (.int v)]/\0<=v/\Int.gcd u v=Int.gcd n d/\(v=0->0<u)/\H'=H/\m=v.toNat)
  (λσ H'=>σ=[some (.int n),some (.int d),some (.int (Int.gcd n d)),some (.int 0)]/\H'=H)
  _ ⟨(n.natAbs:Int),d,rfl,Oo,by rw [Int.gcd_eq_natAbs_gcd_natAbs,Int.gcd_eq_natAbs_gcd_natAbs,Int.natAbs_natCast],Oo,rfl,rfl⟩ ?_ ?_
 ·rintro m σ H2 ⟨u,v,rfl,hb,hg,h0,rfl,rfl⟩;refine ⟨_,rfl,_,_,rfl,rfl,_,rfl,?_⟩;refine AV (λe=>?_) (λe=>?_)
  ·refine ⟨_,rfl,_,rfl,_,rfl,_,_,rfl,rfl,e,_,_,rfl,?_⟩;have e1:=Int.emod_lt_of_pos u e;have e2:=Int.emod_nonneg u (b:=v) Oo;exact ⟨_,Oo,v,u % v,rfl,e2,by rw [CW,hg],λ_=>e,rfl,rfl⟩
  ·have hb0:v=0:=Oo;subst hb0;have hu:=h0 rfl;have e1:=HV hu;rw [hg] at e1;rw [e1];exact ⟨rfl,rfl⟩
 ·rintro σ H2 ⟨rfl,rfl⟩;have hg:=hZ (n:=n) hd;have zg:QN n (Int.gcd n d:Int):=rL hg (wJ hd hz);refine ⟨_,rfl,_,rfl,_,_,rfl,rfl,zg,?_⟩;refine ⟨_,rfl,_,rfl,_,_,rfl,rfl,zg,?_⟩;refine pJ (by show 2<=64;decide) λp H3 hp e3 s3=>?_;exact q p H3 hp e3 s3
end
theorem bD.atX{H:Hp}{α:Type}{g:α->PyData}{as:List α}{xs:List V}(r:bD H (as.map g) xs){i:Nat}{a:α}(h:as[i]?=some a):∃x,xs[i]?=some x/\cO H (g a) x:=by
 induction as generalizing xs i with
 | nil=>simp at h
 | cons b as ih =>
  rw [aO] at r;unfold bD at r;obtain ⟨x,xs',rfl,r1,r2⟩:=r;cases i with
  | zero=>cases (show b=a by simpa using h);exact ⟨x,rfl,r1⟩
  | succ i=>exact ih r2 (by simpa using h)
theorem pX{H:Hp}{fs:List Fr}{v:V}(h:cO H (sE fs) v):∃a xs,v=.ref a/\H a=some (.tup xs)/\bD H (fs.map iT) xs:=by
 unfold cO at h;exact h
theorem EK{H:Hp}{ds:List PyData}{v:V}(h:cO H (.tuple ds) v):∃a xs,v=.ref a/\H a=some (.tup xs)/\bD H ds xs:=by unfold cO at h;exact h
theorem QH{H:Hp}{d e:PyData}{xs:List V}(h:bD H [d,e] xs):∃x y,xs=[x,y]/\cO H d x/\cO H e y:=by
 unfold bD bD bD at h;obtain ⟨x,_,rfl,h1,y,_,rfl,h2,rfl⟩:=h;exact ⟨x,y,rfl,h1,h2⟩
theorem iH{α:Type}{H:Hp}{g:α->PyData}{fs:List α}{vs:List V}(h:bD H (fs.map g) vs){i:Nat}{v:V}(e:vs[i]?=some v):∃f,fs[i]?=some f/\cO H (g f) v:=by
 obtain ⟨d,h1,h2⟩:=h.get e;rw [aE] at h1;cases q:fs[i]? with
 | none=>rw [q] at h1;cases h1
 | some f=>rw [q] at h1;cases h1;exact ⟨f,rfl,h2⟩
theorem rA{α:Type}{H:Hp}{g:α->PyData}{fs:List α}{vs:List V}(h:bD H (fs.map g) vs):vs.length=fs.length:=by rw [h.len,aA]
theorem fC{α:Type}{l:List α}{i:Nat}{x:α}(h:l[i]?=some x):l.take (i+1)=l.take i++[x]:=by
 rw [eJ,h];rfl
end Kw
namespace Kt
open PySem L2 Mf Kw
abbrev YN:Stmt:=(top 42)
theorem aAP:bZ ["_law_script","_law_at","_law_cell"] ["_law_script","_law_at"] (bA YN):=⟨rfl,rfl,rfl,Kk,rfl,Kk,Kk⟩
abbrev sQ7:Stmt:=(top 43)
theorem cQ7:bZ ["_law_tape_here","_law_many","_law_turn","_law_found","_law_stirred"] ["_law_tape_here","_law_many"] (bA sQ7):=⟨rfl,rfl,rfl,Kk,rfl,Kk,Kk⟩
abbrev MT:Stmt:=(top 47)
theorem aAR:bZ ["_law_tape_here","_law_many","_law_parts"] ["_law_tape_here","_law_many"] (bA MT):=⟨rfl,rfl,rfl,Kk,rfl,Kk,Kk⟩
abbrev RZ:Stmt:=(top 48)
theorem aAS:bZ ["_law_tape_here","_law_ways","_law_stops","_law_plain","_law_place"] ["_law_tape_here","_law_ways","_law_stops","_law_plain"] (bA RZ):=⟨rfl,rfl,rfl,Kk,rfl,Kk,Kk⟩
abbrev sQ5:Stmt:=(top 49)
theorem cQ5:bZ ["_law_counts_here","_law_says_here"] ["_law_counts_here","_law_says_here"] (bA sQ5):=⟨rfl,rfl,rfl,Kk,rfl,Kk,Kk⟩
abbrev SA:Stmt:=(top 50)
theorem FZ:bZ ["_law_tape_here","_law_faces","_law_ways","_law_most","_law_plain","_law_found","_law_level","_law_later","_law_counts_here","_law_says_here"] ["_law_tape_here","_law_faces","_law_ways","_law_most","_law_plain"] (bA SA):=⟨rfl,rfl,rfl,Kk,rfl,Kk,Kk⟩
abbrev YO:Stmt:=(top 51)
theorem aAQ:bZ ["_law_tape_here","_law_faces","_law_most"] ["_law_tape_here"] (bA YO):=⟨rfl,rfl,rfl,Kk,rfl,Kk,Kk⟩
abbrev tpD(c l t:Int):List (dP × V):=[(.inr "cell",.int c),(.inr "left",.int l),(.inr "turn",.int t)]
structure cK(H:Hp)(p:Addr)(n:Nat):Prop where
 ex:∃c l t:Int,H p=some (.dK (tpD c l t))/\0<=l/\0<=t/\t+n<=1000000000000
theorem cK.ne{H:Hp}{p q:Addr}{n:Nat}(F:cK H p n)(hq:H q=none):q≠p:=λe=>by
 subst e;obtain ⟨c,l,t,h,_⟩:=F.ex;rw [h] at hq;cases hq
theorem cK.there{H:Hp}{p:Addr}{n:Nat}(F:cK H p n):∃o,H p=some o:=by obtain ⟨c,l,t,h,_⟩:=F.ex;exact ⟨_,h⟩
theorem cK.neL{H:Hp}{p q:Addr}{n:Nat}{xs:List V}(F:cK H p n)(hq:H q=some (.lst xs)):q≠p:=λe=>by
 subst e;obtain ⟨c,l,t,h,_⟩:=F.ex;rw [h] at hq;cases hq
theorem cK.same{H H':Hp}{p:Addr}{n:Nat}(F:cK H p n)(s:bC H H'):cK H' p n:=by
 obtain ⟨c,l,t,h,r⟩:=F.ex;exact ⟨c,l,t,s _ _ h,r⟩
theorem cK.but{H H':Hp}{p D:Addr}{n:Nat}(F:cK H p n)(s:aU D H H')(n1:D≠p):cK H' p n:=by
 obtain ⟨c,l,t,h,r⟩:=F.ex;exact ⟨c,l,t,s.at (Ne.symm n1) h,r⟩
theorem cK.less{H:Hp}{p:Addr}{n m:Nat}(F:cK H p n)(h:m<=n):cK H p m:=by
 obtain ⟨c,l,t,e,l0,t0,r⟩:=F.ex;exact ⟨c,l,t,e,l0,t0,Oo⟩
theorem cK.t{H H':Hp}{p:Addr}{n:Nat}(F:cK H p n)(s:aU p H H'):dX H H':=by
 obtain ⟨c,l,t,h,_⟩:=F.ex;exact s.tD h
theorem cK.like{p:Addr}{n:Nat}(f:Nat->Nat):oS p (λi H=>cK H p (f i)) :=
 ⟨λ_ D H1 H2 n1 s F=>F.but s n1,λ_ H1 H2 s F=>F.same s,λ_ H' F=>by obtain ⟨c,l,t,h,_⟩:=F.ex;exact ⟨_,h⟩⟩
@[irreducible] def qM(K:PySem.W.Frag):Sp:=λvs H Q _=>∃(a:Addr) (ns:List Int) (k:Int),vs=[.ref a,.int k]/\fS K H a (ns.map V.int)/\ns.length<=63/\0<=k/\∀p H',cK H' p 1000000000000->bC H H'->H p=none->Q (.ref p) H'
theorem JC{K:PySem.W.Frag}{H:Hp}{Q:VK}{E:XK}{a:Addr}{ns:List Int}{k:Int}(h:fS K H a (ns.map V.int))(hl:ns.length<=63)(hk:0<=k)(q:∀p H',cK H' p 1000000000000->bC H H'->H p=none->Q (.ref p) H'):qM K [.ref a,.int k] H Q E:=by
 unfold qM;exact ⟨a,ns,k,rfl,h,hl,hk,q⟩
@[irreducible] def jX:Sp:=λvs H Q _=>∃(p:Addr) (n:Nat) (m:Int),vs=[.ref p,.int m]/\cK H p (n+1)/\0<m/\bits m<=64/\∀x H',0<=x->x<m->cK H' p n->aU p H H'->Q (.int x) H'
theorem eO{H:Hp}{Q:VK}{E:XK}{p:Addr}{n:Nat}{m:Int}(F:cK H p (n+1))(h:0<m)(hb:bits m<=64)(k:∀x H',0<=x->x<m->cK H' p n->aU p H H'->Q (.int x) H'):jX [.ref p,.int m] H Q E:=by
 unfold jX;exact ⟨p,n,m,rfl,F,h,hb,k⟩
theorem bitsle{i:Int}{n:Nat}(h:i.natAbs<2^n):bits i<=n:=PySem.intBits_le_iff.mpr h
theorem rlQ{K:PySem.W.Frag}{H:Hp}{p:Addr}{xs:List V}{Q:VK}(h:fS K H p xs)(q:Q (.int xs.length) H):xN K [V.ref p] H Q:=by unfold xN;exact ⟨_,_,rfl,.inl ⟨xs,h,rfl⟩,q⟩
section
theorem aDh(F:jA K "_law_tape" "_law_tape" YN f fd)(T:kY K mg c):dZ P w K mg base dQ 1 f fd ["_law_script","_law_at"] (qM K):=by
 refine F.oky aAP λvs H Q E h=>?_;unfold qM at h;obtain ⟨a,ns,i,rfl,hS,hl,hi,k⟩:=h;refine ⟨rfl,λcdv A outer s hr=>?_⟩;refine ⟨_,(aS (bS (i:=2) aAP.nd rfl (Or.inl rfl) (aI 1))
  (aS (zK (gE (eD vV (eR jU (by rfl) T.b_len Kk (aM (aI 0) aG)) aL (nomark _)) (bE (bS (i:=2) aAP.nd rfl (Or.inl rfl) (cN fZ (cH bU (aI 0) (cN oJ (aI 1) (eR jU (by rfl) T.b_len Kk (aM (aI 0) aG))) (λ_ _=>rfl)) (cN fV (aI 1) (eR jU (by rfl) T.b_len Kk (aM (aI 0) aG)))))) dY))
  (bE (cF (QX (uZ lG (aI 2) (uZ lG (eR (yU rfl) (by rfl) T.b_max Kk (aM aL (aM (cN AL (aI 2) (cN ZW aL aL)) aG))) (uZ lG aL QW)))))))),?_⟩
 refine ⟨_,rfl,?_⟩;refine ⟨λσ H3=>∃c:Int,σ=[some (.ref a),some (.int i),some (.int c)]/\H3=H,?_,?_⟩
 ·rintro σ H3 ⟨c,rfl,rfl⟩;intro p hp;refine ⟨_,rfl,?_⟩;refine ⟨_,rfl,_,_,rfl,rfl,⟨Dd,Dd,Dd⟩,_,_,rfl,rfl,_,_,rfl,?_⟩;refine ⟨bH,tpD c (if c-10^18 > 0 then c-10^18 else 0) 0,rfl,by show 3<=15;decide,?_⟩;refine k p _ ⟨c,(if c-10^18 > 0 then c-10^18 else 0),0,?_,by split <;> omega,Dd,Dd⟩ ?_ hp
  ·rw [bH];rfl
  ·intro b o h;have nb:b≠p:=λe=>by subst e;rw [hp] at h;cases h
   rw [L2.bT nb,L2.bT nb];exact h
 ·refine ⟨_,rfl,?_⟩;refine rlQ hS ?_;refine ⟨_,_,rfl,rfl,_,rfl,?_⟩;rw [aA];refine AV (λe1=>?_) (λe1=>?_)
  ·refine ⟨_,rfl,_,rfl,_,rfl,?_⟩;refine rlQ hS ?_;rw [aA];refine ⟨_,_,rfl,rfl,e1,?_⟩;have g0:=Int.emod_nonneg i (b:=(ns.length:Int)) Oo;have g1:=Int.emod_lt_of_pos i e1;have hj:∃z,ns[(i % (ns.length:Int)).toNat]?=some z:=⟨_,aC Oo⟩;obtain ⟨z,hz⟩:=hj;have hat:EB (ns.map V.int) (i % (ns.length:Int))=some (.int z):=by
    have:=iB (xs:=ns.map V.int) (j:=(i % (ns.length:Int)).toNat) (v:=V.int z) (by rw [aE,hz];rfl)
    rwa [Int.toNat_of_nonneg g0] at this
   refine .inl ⟨a,_,_,_,rfl,rfl,hS,hat,?_⟩;refine ⟨_,rfl,_,rfl,?_⟩;refine rlQ hS ?_;rw [aA];refine ⟨_,_,rfl,rfl,⟨e1,bitsle (by have:((ns.length:Int)).natAbs<=63:=Oo;exact bB this (aV (show 63<2^6 by decide) (bG Dd Dd)))⟩,?_⟩;refine ⟨_,_,rfl,rfl,?_⟩;exact ⟨_,rfl,rfl⟩
  ·exact ⟨_,rfl,rfl⟩
theorem oQ7(F:jA K "_law_pick" "_law_pick" sQ7 f fd)(T:kY K mg c):dZ P w K mg base dQ 1 f fd ["_law_tape_here","_law_many"] jX:=by
 refine F.oky cQ7 λvs H Q E h=>?_;unfold jX at h;obtain ⟨p,n,m,rfl,F,hm,hb,k⟩:=h;refine ⟨rfl,λcdv A outer s hr=>?_⟩;obtain ⟨c,l,t,hp,h0,h1,h2⟩:=F.ex;refine ⟨_,(aS (bS (i:=2) cQ7.nd rfl (Or.inl rfl) (cN fZ (gM hr.u1 (aI 0) lG) aL))
  (aS (jW hr.u1 (aI 0) lG (aI 2))
  (aS (gE (eD vV (gM hr.u1 (aI 0) lG) aL (nomark _)) (aS (bS (i:=3) cQ7.nd rfl (Or.inl rfl) (cN oJ (gM hr.u1 (aI 0) lG) (aI 1)))
  (aS (jW hr.u1 (aI 0) lG (cN fV (gM hr.u1 (aI 0) lG) (aI 1)))
  (bE (cF (aI 3))))) dY)
  (aS (bS (i:=4) cQ7.nd rfl (Or.inl rfl) (cN fK (cN fZ (cN fZ (cN oJ (gM hr.u1 (aI 0) lG) aL) (cN fK (cN fK aL (aI 2)) (aI 2))) aL) aL))
  (aS (bS (i:=4) cQ7.nd rfl (Or.inl rfl) (cN fK (cN fZ (cN oJ (aI 4) aL) (cN fK aL (aI 2))) aL))
  (bE (cF (cN oJ (cN fV (cN oJ (aI 4) aL) aL) (aI 1))))))))),?_⟩
 refine ⟨_,rfl,?_⟩;refine dgS hp rfl ?_;refine ⟨_,_,rfl,rfl,?_⟩;refine ⟨_,rfl,_,rfl,?_⟩;refine dpS (kvs2:=tpD c l (t+1)) hp (by show 3<=64;decide) rfl λH1 hp1 s1=>?_;refine ⟨_,rfl,?_⟩;refine dgS hp1 rfl ?_;refine ⟨_,_,rfl,rfl,_,rfl,?_⟩;refine AV (λe0=>?_) (λe0=>?_)
 ·refine ⟨_,rfl,?_⟩;refine dgS hp1 rfl ?_;refine ⟨_,rfl,_,_,rfl,rfl,hm,?_⟩;refine ⟨_,rfl,?_⟩;refine dgS hp1 rfl ?_;refine ⟨_,rfl,_,_,rfl,rfl,⟨hm,aQ hb Dd⟩,?_⟩;refine ⟨_,rfl,?_⟩;refine dpS (kvs2:=tpD c (l/m) (t+1)) hp1 (by show 3<=64;decide) rfl λH2 hp2 s2=>?_;refine ⟨_,rfl,?_⟩;exact k _ H2 (Int.emod_nonneg _ Oo) (Int.emod_lt_of_pos _ hm) ⟨c,l/m,t+1,hp2,Int.ediv_nonneg h0 Oo,Oo,Oo⟩ (s1.trans s2)
 ·have bt:bits (t+1)<=64:=PySem.intBits_le_64 Oo Oo;refine ⟨_,rfl,?_⟩;refine dgS hp1 rfl ?_;have c0:=Int.emod_nonneg c (b:=2147483647) Dd;have c1:=Int.emod_lt_of_pos c (b:=2147483647) Dd;refine ⟨_,_,rfl,rfl,(by show (0:Int)<2147483647;decide),?_⟩;refine ⟨_,rfl,_,_,rfl,rfl,IntMulOk.of_left Kk,_,rfl,_,_,rfl,rfl,IntMulOk.of_right bt,_,_,rfl,rfl,_,_,rfl,rfl,_,_,rfl,rfl,IntMulOk.of_right Kk,?_⟩;generalize hz:(c % 2147483647+31*(t+1)*(t+1)+1)*48271=z;refine ⟨_,rfl,_,_,rfl,rfl,(by show (0:Int)<2147483629;decide),_,rfl,_,_,rfl,rfl,IntMulOk.of_left Kk,_,_,rfl,rfl,_,_,rfl,rfl,IntMulOk.of_right Kk,?_⟩;generalize hy:(z % 2147483629+7*(t+1))*69621=y;refine ⟨_,rfl,_,_,rfl,rfl,(by show (0:Int)<2147483587;decide),_,_,rfl,rfl,⟨Dd,Kk⟩,_,rfl,_,_,rfl,rfl,hm,?_⟩;exact k _ H1 (Int.emod_nonneg _ Oo) (Int.emod_lt_of_pos _ hm) ⟨c,l,t+1,hp1,h0,Oo,Oo⟩ s1
end
structure jH(n:Nat)(fs:List Fr):Prop where
 ex:∃ns:List Int,ns.length=n/\(∀x∈ns,0<=x/\x<=7)/\0<ns.sum/\fs=ns.map λx=>lw x ns.sum
theorem lB:∀{ns:List Int},(∀x∈ns,0<=x/\x<=7)->0<=ns.sum/\ns.sum<=7*(ns.length:Int)
 | [],_=>by simp
 | n::ns,h=>by
  have h1:=lB (ns:=ns) λx hx=>h x (aF _ hx);have h2:=h n (aH ..);rw [List.sum_cons,cM];omega
theorem RF{ns:List Int}(h:∀x∈ns,0<=x/\x<=7){n:Int}(hn:n∈ns)(p:0<n):0<ns.sum:=by
 induction ns with
 | nil=>cases hn
 | cons a r ih =>
  have h1:=lB (ns:=r) λx hx=>h x (aF _ hx);have h2:=h a (aH ..);rw [List.sum_cons];rcases aT.mp hn with rfl | hr
  ·omega
  ·have:=ih (λx hx=>h x (aF _ hx)) hr;omega
theorem jH.len{n:Nat}{fs:List Fr}(h:jH n fs):fs.length=n:=by
 obtain ⟨ns,h1,_,_,rfl⟩:=h.ex;rw [aA,h1]
theorem jH.zero{n:Nat}{fs:List Fr}(h:jH n fs):jH (1+n) ((0,1)::fs):=by
 obtain ⟨ns,h1,h2,h3,rfl⟩:=h.ex;refine ⟨0::ns,by rw [cM];omega,λx hx=>?_,by rw [List.sum_cons];omega,?_⟩
 ·rcases aT.mp hx with rfl | hx
  ·omega
  ·exact h2 x hx
 ·rw [List.sum_cons,aO,Int.zero_add];have:lw 0 ns.sum=(0,1):=by
   unfold lw;rw [Int.gcd_zero_left];have hn:((ns.sum.natAbs:Nat):Int)=ns.sum:=Oo;rw [hn,Int.zero_ediv,Int.ediv_self Oo]
  rw [this]
def ind(p:Nat)(n:Nat):List Int:=(List.range n).map λk:Nat=>if (k:Int)=(p:Int) then 1 else 0
theorem HR(p n:Nat):(ind p n).length=n:=by unfold ind;rw [aA,bK]
theorem UG{p n:Nat}:∀x∈ind p n,0<=x/\x<=1:=λx hx=>by
 unfold ind at hx;obtain ⟨k,_,rfl⟩:=aD.mp hx;split <;> omega
theorem HQ(p:Nat):∀n:Nat,(ind p n).sum=if p<n then 1 else 0
 | 0=>by simp [ind]
 | n+1=>by
  have ih:=HQ p n;have e:ind p (n+1)=ind p n++[if (n:Int)=(p:Int) then 1 else 0]:=by
   unfold ind;rw [List.range_succ,bM];rfl
  rw [e,List.sum_append,ih,List.sum_singleton];by_cases h:p<n
  ·rw [if_pos h,if_neg Oo,if_pos Oo];rfl
  ·rw [if_neg h];by_cases h2:p=n
   ·subst h2;rw [if_pos rfl,if_pos Oo];rfl
   ·rw [if_neg Oo,if_neg Oo];rfl
theorem aDm(x:Int):lw x 1=(x,1):=by
 unfold lw;rw [Int.gcd_one_right];simp
theorem jH.one{p n:Nat}(h:p<n):jH n ((ind p n).map λx=>(x,1)):=by
 have e:=HQ p n;rw [if_pos h] at e;refine ⟨ind p n,HR p n,λx hx=>?_,Oo,?_⟩
 ·have:=UG x hx;omega
 ·rw [e];exact dN λx _=>(aDm x).symm
@[irreducible] def kD:Sp:=λvs H Q _=>∃(p:Addr) (n m:Nat),vs=[.ref p,.int (m:Int)]/\cK H p (n+8)/\0<m/\m<=5/\∀v fs H',cK H' p n->aU p H H'->cO H' (sE fs) v->jH m fs->Q v H'
theorem tL{H:Hp}{Q:VK}{E:XK}{p:Addr}{n m:Nat}(F:cK H p (n+8))(m0:0<m)(m5:m<=5)(k:∀v fs H',cK H' p n->aU p H H'->cO H' (sE fs) v->jH m fs->Q v H'):kD [.ref p,.int (m:Int)] H Q E:=by
 unfold kD;exact ⟨p,n,m,rfl,F,m0,m5,k⟩
theorem aCJ{H:Hp}{Q:VK}{l:Addr}{z:V}{k:Nat}(h:H l=some (.lst [z]))(hk:k<=64)(q:∀c H',H c=none->H' c=some (.lst (List.replicate k z))->bC H H'->Q (.ref c) H'):aBB (.ref l) (.int (k:Int)) H Q:=by
 refine ⟨l,k,[z],rfl,rfl,h,Oo,Oo,?_,λp hp=>?_⟩
 ·show 1*((k:Int)).toNat<=sizeLine;rw [Nat.one_mul,Int.toNat_natCast];exact pC hk
 ·rw [Int.toNat_natCast];have e:∀k:Nat,(List.replicate k [z]).flatten=List.replicate k z:=λk=>by
   induction k with
   | zero=>rfl
   | succ k ih=>rw [List.replicate_succ,List.flatten_cons,ih,List.replicate_succ];rfl
  rw [e];exact q p _ hp bH (bC.upd hp)
theorem NV{k:Nat}{b:Nat}(hb:b<k):(∀x∈(List.replicate k (0:Int)).set b 1,0<=x/\x<=7)/\0<((List.replicate k (0:Int)).set b 1).sum:=by
 have h1:∀x∈(List.replicate k (0:Int)).set b 1,0<=x/\x<=7:=λx hx=>by
  rcases List.mem_or_eq_of_mem_set hx with h | rfl
  ·have:=List.eq_of_mem_replicate h;omega
  ·omega
 exact ⟨h1,RF h1 (n:=1) (List.mem_iff_getElem?.mpr ⟨b,by rw [List.getElem?_set_self (by simpa using hb)]⟩) Dd⟩
section
theorem aDj(F:jA K "_law_shares" "_law_shares" MT f fd)(T:kY K mg c)
  (FQ7:gK dQ P w K mg base 1 "_law_pick" ["_law_tape_here","_law_many"] jX) (FQ4:gK dQ P w K mg base 1 "_law_frac" ["_law_n","_law_d"] iF):dZ P w K mg base dQ 2 f fd ["_law_tape_here","_law_many"] kD:=by
 refine F.oky aAR λvs H Q E h=>?_;unfold kD at h;obtain ⟨p,n,m,rfl,F,m0,m5,k⟩:=h;refine ⟨rfl,λcdv A outer s hr=>?_⟩;refine ⟨_,(aS (bS (i:=2) aAR.nd rfl (Or.inr rfl) (fG (eA.of (psc:=bA MT) (N:=["_law_tape_here","_law_many","_law_parts"]) (N':=["_law_k","_law_tape_here"]) (js:=[0]) Kk rfl rfl rfl) (fT rfl T.b_range (aM (aI 1) aG)) (λ_ _ _ _=>eQ) (λ_ _ _ _=>(cH (lE K) (fQ (aM aL (aM aL (aM aL (aM aL (aM aL (aM aL aG))))))) (bR FQ7 (hr.mono Dd) (aM (aI 1) (aM aL aG))) (λ_ _=>rfl)))))
  (aS (zK (gE (oU (xD (tJ (eD nB (eR (PH rfl) (by rfl) T.b_sum Kk (aM (aI 2) aG)) aL (nomark _)) (nI (eD nB (bR FQ7 (hr.mono Dd) (aM (aI 0) (aM aL aG))) aL (nomark _)))))) (aS (bS (i:=2) aAR.nd rfl (Or.inr rfl) (cN ZV (fQ (aM aL aG)) (aI 1)))
  (bE (zM aL (XE (aI 2) (bR FQ7 (hr.mono Dd) (aM (aI 0) (aM (aI 1) aG))) MQ)))) dY))
  (bE (cF (jC dR (by rfl) T.b_tuple Kk (aM (fG (eA.of (psc:=bA MT) (N:=["_law_tape_here","_law_many","_law_parts"]) (N':=["_law_part","_law_parts"]) (js:=[2]) Kk rfl rfl rfl) (gZ (aI 2)) (λ_ _ _ _=>eQ) (λ_ _ _ _=>(bR FQ4 (hr.mono Dd) (aM (aI 0) (aM (eR (UU K rfl) (by rfl) T.b_sum Kk (aM (aI 1) aG)) aG))))) aG)))))),?_⟩
 refine ⟨_,rfl,_,rfl,Oo,Oo,?_⟩;refine PD (cK.like (n:=n) λi=>n+8-i) F (λ_ y _=>∃x,y=.int x/\0<=x/\x<=7) (λ_ _ _ _ _ h=>h) Oo (λi H' Q' hi F' s' k'=>?_) (λD ys H1 hD hD1 F1 s1 hy hr1=>?_)
 ·refine xP (by show 6<=64;decide) λq1 H2 hq1 e1 s1=>?_;refine ⟨_,rfl,?_⟩;refine eO (n:=n+8-(i+1)) ((F'.same s1).less Oo) Dd Kk λx H3 x0 x1 F3 s3=>?_;obtain ⟨v,hat,hmem,_⟩:=BF (xs:=[V.int 0,V.int 1,V.int 1,V.int 2,V.int 3,V.int 7]) x0 x1;refine ixL (s3.at (F'.ne hq1) e1) hat ?_;refine k' _ H3 F3 (s1.but.trans s3) ?_;simp only [aT,List.not_mem_nil,or_false] at hmem;rcases hmem with rfl | rfl | rfl | rfl | rfl | rfl <;> exact ⟨_,rfl,Dd,Dd⟩
 ·obtain ⟨ns,rfl,hn⟩:=uU (P:=λ_ x=>0<=x/\x<=7) hr1;rw [aA] at hy;have npD:=F.ne hD;have hn':∀x∈ns,0<=x/\x<=7:=λx hx=>by
   obtain ⟨i,hi⟩:=List.mem_iff_getElem?.mp hx;exact hn i x hi
  refine ⟨λσ H3=>∃(D:Addr) (ns:List Int),σ=[some (.ref p),some (.int (m:Int)),some (.ref D)]/\H3 D=some (.lst (ns.map V.int))/\ns.length=m/\(∀x∈ns,0<=x/\x<=7)/\0<ns.sum/\cK H3 p n/\aU p H H3,?_,?_⟩
  ·clear hD hD1 hr1 hn hn' hy npD F1 s1;rintro σ H3 ⟨D,ns,rfl,hD3,hl,hn,hS,F3,s3⟩;refine ⟨_,rfl,D,rfl,⟨_,fS.of hD3⟩,?_⟩;have h35:=lB hn;refine sS (λi y H'=>∃n,ns[i]?=some n/\cO H' (iT (lw n ns.sum)) y) (λi y H1 H2 s ⟨n,h1,h2⟩=>⟨n,h1,h2.flat s (eT _)⟩) (by rw [aA];omega) hD3 (λi x H' Q' hx s' k'=>?_) (λD3 ys H8 hD3' hD8 s8 hy8 hr8=>?_)
   ·rw [aE] at hx;obtain ⟨n',hn',rfl⟩:=(show ∃n,ns[i]?=some n/\V.int n=x by
     cases q:ns[i]? with
     | none=>rw [q] at hx;cases hx
     | some n=>rw [q] at hx;cases hx;exact ⟨n,rfl,rfl⟩)
    refine ⟨_,rfl,_,rfl,?_⟩;refine rsI (fS.of (s' _ _ hD3)) ?_;refine jE hS (aV (show ns.sum.natAbs<2^10 by show ns.sum.natAbs<1024;omega) (bG Dd Dd)) ?_;intro q9 H9 hq9 e9 s9;exact k' _ H9 s9 ⟨n',hn',eS e9⟩
   ·refine ⟨D3,ys,rfl,.inl ⟨fS.of hD8,λl hl'=>?_⟩⟩;have sl:=bC.upd (o:=.tup ys) hl';have el:(upd H8 l (.tup ys)) l=some (.tup ys):=bH;generalize upd H8 l (.tup ys)=H9 at sl el;refine k _ (ns.map λn=>lw n ns.sum) H9 ((F3.same s8).same sl) (s3.trans (s8.trans sl).but) (cO.tup el ?_) ⟨ns,hl,hn,hS,rfl⟩;refine bD.ofIdx (by rw [hy8,aA,aA,aA]) λi y hi=>?_;obtain ⟨n,h1,h2⟩:=hr8 i y hi;exact ⟨iT (lw n ns.sum),by rw [aE,aE,h1];rfl,h2.same sl⟩
  ·refine ⟨λb H4=>cK H4 p (n+1)/\aU p H H4/\H4 D=some (.lst (ns.map V.int))/\(b=false->0<ns.sum),?_,?_⟩
   ·refine ⟨_,rfl,?_⟩;refine rsI (fS.of hD1) ?_;refine ⟨rfl,_,rfl,?_⟩;refine AV (λe0=>?_) (λe0=>?_)
    ·exact ⟨F1.less Oo,s1,hD1,λh=>by cases h⟩
    ·refine ⟨_,rfl,?_⟩;refine eO (n:=n+1) (F1.less Oo) Dd Kk λx H2 x0 x1 F2 s2=>?_;refine ⟨rfl,_,rfl,F2,s1.trans s2,s2.at npD hD1,λ_=>?_⟩;have:=(lB hn').1;have:ns.sum≠0:=λh=>e0 (congrArg V.int h);omega
   ·rintro b H2 ⟨F2,s2,hD2,hS⟩;cases b with
    | false=>exact oN ⟨D,ns,rfl,hD2,Oo,hn',hS rfl,F2.less Oo,s2⟩
    | true =>
     refine mU ?_;refine xP (by show 1<=64;decide) λq1 H3 hq1 e1 s3=>?_;refine ⟨_,rfl,?_⟩;refine aCJ e1 Oo λq2 H4 hq2 e2 s4=>?_;have F4:=(F2.same s3).same s4;have n2:q2≠p:=(F2.same s3).ne hq2;refine ⟨_,rfl,_,rfl,_,rfl,?_⟩;refine eO F4 Oo (bitsle (bB (show ((m:Int)).natAbs<=5 by omega) Dd)) λx H5 x0 x1 F5 s5=>?_;obtain ⟨b,rfl⟩:∃b:Nat,x=(b:Int):=⟨x.toNat,Oo⟩;have hD5:=s5.at n2 e2;have hj:OH (List.replicate m (V.int 0)).length (b:Int)=some b:=by
      unfold OH;rw [if_pos x0,if_pos (by rw [cB];omega)];rfl
     refine stG hD5 hj λH6 e6 s6=>?_;have e7:(List.replicate m (V.int 0)).set b (V.int 1)=(((List.replicate m (0:Int)).set b 1).map V.int):=by
      rw [List.map_set,List.map_replicate]
     have hm:=NV (k:=m) (b:=b) Oo;have h2:H q2=none:=aU.free s2 F2.there (s3.free hq2);exact ⟨q2,(List.replicate m (0:Int)).set b 1,rfl,by rw [e6,e7],by rw [List.length_set,cB],hm.1,hm.2,F5.but s6 n2,
      aU.thru h2 ((s2.trans (s3.trans s4).but).trans s5) s6⟩
end
@[irreducible] def qN:Sp:=λvs H Q _=>∃(p:Addr) (n W:Nat) (st pl:Bool),vs=[.ref p,.int (W:Int),.bl st,.bl pl]/\cK H p (n+16)/\2<=W/\W<=4/\∀v fs H',cK H' p n->aU p H H'->cO H' (sE fs) v->jH (1+W) fs->(st=true->fs.head?=some (0,1))->Q v H'
theorem JD{H:Hp}{Q:VK}{E:XK}{p:Addr}{n W:Nat}{st pl:Bool}(F:cK H p (n+16))(h2:2<=W)(h4:W<=4)(k:∀v fs H',cK H' p n->aU p H H'->cO H' (sE fs) v->jH (1+W) fs->(st=true->fs.head?=some (0,1))->Q v H'):qN [.ref p,.int (W:Int),.bl st,.bl pl] H Q E:=by
 unfold qN;exact ⟨p,n,W,st,pl,rfl,F,h2,h4,k⟩
theorem OJ{p n:Nat}(hp:0<p):((ind p (1+n)).map λx=>((x,1):Fr)).head?=some (0,1):=by
 unfold ind;rw [Nat.add_comm,List.range_succ_eq_map,aO,aO,List.head?_cons,if_neg Oo]
theorem aAt{p n i:Nat}(h:i<n):(ind p n)[i]?=some (if (i:Int)=(p:Int) then 1 else 0):=by
 unfold ind;rw [aE,bN h];rfl
abbrev fW(cs:List Int):PyData:=.tuple (cs.map .int)
theorem yL:∀fs:List Int,eP (fs.map PyData.int)=true
 | []=>rfl
 | f::fs=>by show (fD (.int f)&&eP (fs.map PyData.int))=true;rw [yL fs];rfl
theorem fO(cs:List Int):fD (fW cs)=true:=yL cs
theorem zJ{H:Hp}:∀{ns:List Int}{vs:List V},bD H (ns.map PyData.int) vs->vs=ns.map V.int
 | [],vs,h=>by unfold bD at h;exact h
 | n::ns,vs,h=>by
  unfold bD at h;obtain ⟨x,xs,rfl,h1,h2⟩:=h;cases (show x=V.int n from h1);rw [zJ h2];rfl
theorem kU{H:Hp}{cs:List Int}{v:V}(h:cO H (fW cs) v):∃a,v=.ref a/\H a=some (.tup (cs.map V.int)):=by
 unfold cO at h;obtain ⟨a,xs,rfl,h1,h2⟩:=h;cases zJ h2;exact ⟨a,rfl,h1⟩
theorem bD.ofInts{H:Hp}:∀ns:List Int,bD H (ns.map PyData.int) (ns.map V.int)
 | []=>bD.nil
 | n::ns=>bD.cons (cO.int _) (bD.ofInts ns)
theorem sQ{H:Hp}{cs:List Int}{a:Addr}(h:H a=some (.tup (cs.map V.int))):cO H (fW cs) (.ref a):=cO.tup h (bD.ofInts cs)
structure jV(F W M:Nat):Prop where
 w:2<=W/\W<=4
 f:F=2/\M<=4\/F=3/\M<=3\/F=4/\M<=2
@[irreducible] def nT:Sp:=λvs H Q _=>∃(p:Addr) (n:Nat),vs=[.ref p]/\cK H p (n+3)/\∀q F W M H',jV F W M->cK H' p n->aU p H H'->H' q=some (.tup [.int (F:Nat),.int (W:Nat),.int (M:Nat)])->Q (.ref q) H'
theorem EQ{H:Hp}{Q:VK}{E:XK}{p:Addr}{n:Nat}(F:cK H p (n+3))(k:∀q F W M H',jV F W M->cK H' p n->aU p H H'->H' q=some (.tup [.int (F:Nat),.int (W:Nat),.int (M:Nat)])->Q (.ref q) H'):nT [.ref p] H Q E:=by
 unfold nT;exact ⟨p,n,rfl,F,k⟩
section
theorem aDk(F:jA K "_law_says" "_law_says" RZ f fd)(T:kY K mg c)
  (FQ7:gK dQ P w K mg base 1 "_law_pick" ["_law_tape_here","_law_many"] jX) (FQ12:gK dQ P w K mg base 2 "_law_shares" ["_law_tape_here","_law_many"] kD):dZ P w K mg base dQ 3 f fd ["_law_tape_here","_law_ways","_law_stops","_law_plain"] qN:=by
 refine F.oky aAS λvs H Q E h=>?_;unfold qN at h;obtain ⟨p,n,W,st,pl,rfl,F,W2,W4,k⟩:=h;refine ⟨rfl,λcdv A outer s hr=>?_⟩;refine ⟨_,(aS (gE (oU (xD (tJ (lF (aI 3)) (nI (eD nB (bR FQ7 (hr.mono Dd) (aM (aI 0) (aM aL aG))) aL (nomark _)))))) (aS (bS (i:=4) aAS.nd rfl (Or.inr rfl) (cN fZ aL (bR FQ7 (hr.mono Dd) (aM (aI 0) (aM (aI 1) aG)))))
  (aS (zK (gE (oU (xD (LT (rY (lF (aI 2))) (GK (eD vV (bR FQ7 (hr.mono Dd) (aM (aI 0) (aM aL aG))) aL (nomark _)))))) (bE (bS (i:=4) aAS.nd rfl (Or.inr rfl) aL)) dY))
  (bE (cF (jC dR (by rfl) T.b_tuple Kk (aM (fG (eA.of (psc:=bA RZ) (N:=["_law_tape_here","_law_ways","_law_stops","_law_plain","_law_place"]) (N':=["_law_k","_law_place"]) (js:=[4]) Kk rfl rfl rfl) (fT rfl T.b_range (aM (cN fZ aL (aI 1)) aG)) (λ_ _ _ _=>eQ) (λ_ _ _ _=>(dS (aM (jC yV (by rfl) T.b_int Kk (aM (jR nB (aI 0) (aI 1) (nomark _)) aG)) (aM aL aG))))) aG)))))) dY)
  (aS (gE (lF (aI 2)) (bE (cF (cN (pF K) (dS (aM (dS (aM aL (aM aL aG))) aG)) (bR FQ12 (hr.mono Dd) (aM (aI 0) (aM (aI 1) aG)))))) dY)
  (bE (cF (bR FQ12 (hr.mono Dd) (aM (aI 0) (aM (cN fZ aL (aI 1)) aG))))))),?_⟩
 refine ⟨λb H1=>cK H1 p (n+15)/\aU p H H1,?_,?_⟩
 ·refine ⟨_,rfl,_,rfl,?_⟩;cases pl with
  | true=>exact mU ⟨F.less Oo,(bC.refl _).but⟩
  | false =>
   refine oN ?_;refine ⟨_,rfl,?_⟩;refine eO (n:=n+15) F Dd Kk λx H2 x0 x1 F2 s2=>?_;exact ⟨rfl,_,rfl,F2,s2⟩
 ·rintro b H1 ⟨F1,s1⟩;cases b with
  | true =>
   refine mU ?_;refine ⟨_,rfl,_,rfl,?_⟩;refine eO (n:=n+14) F1 Oo (bitsle (bB (show ((W:Int)).natAbs<=5 by omega) Dd)) λx H2 x0 x1 F2 s2=>?_;refine ⟨_,_,rfl,rfl,?_⟩;refine ⟨λσ H3=>∃a:Nat,σ=[some (.ref p),some (.int (W:Int)),some (.bl st),some (.bl pl),some (.int (a:Int))]/\a<1+W/\(st=true->0<a)/\cK H3 p n/\aU p H H3,?_,?_⟩
   ·rintro σ H3 ⟨a,rfl,ha,hs,F3,s3⟩;refine ⟨_,rfl,_,_,rfl,rfl,_,rfl,Oo,Oo,?_⟩;refine kI (λi y H'=>∃z,(ind a (1+W))[i]?=some z/\cO H' (iT (z,1)) y) (λi y H1 H2 s ⟨z,h1,h2⟩=>⟨z,h1,h2.flat s (eT _)⟩) Oo (λi H' Q' hi s' k'=>?_) (λD ys H4 hD hD4 s4 hy4 hr4=>?_)
    ·refine ⟨_,rfl,_,rfl,rfl,?_⟩;refine .inr ⟨_,rfl,?_⟩;refine pJ (by show 2<=64;decide) λq5 H5 hq5 e5 s5=>?_;refine k' _ H5 s5 ⟨_,aAt Oo,?_⟩;refine eS (f:=(if (i:Int)=(a:Int) then 1 else 0,1)) ?_;rw [e5,Int.zero_add];by_cases h:(i:Int)=(a:Int)
     ·rw [if_pos h,if_pos (bV (congrArg V.int h))]
     ·rw [if_neg h,if_neg (by rw [decide_eq_true_eq];exact λz=>h (by injection z))]
    ·refine ⟨D,ys,rfl,.inl ⟨fS.of hD4,λl hl=>?_⟩⟩;have sl:=bC.upd (o:=.tup ys) hl;have el:(upd H4 l (.tup ys)) l=some (.tup ys):=bH;generalize upd H4 l (.tup ys)=H5 at sl el;refine k _ ((ind a (1+W)).map λx=>(x,1)) H5 ((F3.same s4).same sl) (s3.trans (s4.trans sl).but) (cO.tup el ?_) (jH.one ha) (λh=>OJ (hs h));refine bD.ofIdx (by rw [hy4,aA,aA,HR];omega) λi y hi=>?_;obtain ⟨n,h1,h2⟩:=hr4 i y hi;exact ⟨iT (n,1),by rw [aE,aE,h1];rfl,h2.same sl⟩
   ·refine ⟨λb H3=>cK H3 p n/\aU p H H3/\(b=true->st=false),?_,?_⟩
    ·refine ⟨_,rfl,_,rfl,?_⟩;cases st with
     | true=>exact oN ⟨F2.less Oo,s1.trans s2,λh=>by cases h⟩
     | false =>
      refine mU ?_;refine ⟨_,rfl,?_⟩;refine eO (n:=n) (F2.less Oo) Dd Kk λy H3 y0 y1 F3 s3=>?_;exact ⟨_,_,rfl,rfl,_,rfl,F3,(s1.trans s2).trans s3,λ_=>rfl⟩
    ·rintro b H3 ⟨F3,s3,hb⟩;cases b with
     | true =>
      refine mU ?_;exact ⟨0,rfl,Oo,(λh=>by rw [hb rfl] at h;cases h),F3,s3⟩
     | false =>
      refine oN ?_;exact ⟨(1+x).toNat,by rw [show (((1+x).toNat:Nat):Int)=1+x by omega];rfl,Oo,λ_=>Oo,F3,s3⟩
  | false =>
   refine oN ?_;refine ⟨_,rfl,_,rfl,?_⟩;cases st with
   | true =>
    refine mU ?_;refine pJ (by show 2<=64;decide) λq2 H2 hq2 e2 s2=>?_;refine pJ (by show 1<=64;decide) λq3 H3 hq3 e3 s3=>?_;refine ⟨_,rfl,_,rfl,?_⟩;have n3:q3≠p:=(F1.same s2).ne hq3;have n2:q2≠p:=F1.ne hq2;refine tL (n:=n) (m:=W) (((F1.same s2).same s3).less Oo) Oo Oo λv fs H4 F4 s4 r4 ok4=>?_;obtain ⟨a,xs,rfl,ha,rxs⟩:=(by unfold cO at r4;exact r4);have e4:=s4.at n3 e3;have e5:=s4.at n2 (s3 _ _ e2);refine LB e4 ha (by rw [show ([V.ref q2]:List V).length=1 from rfl,rxs.len,aA,ok4.len];omega) λc H5 s5 e6=>?_;refine k _ ((0,1)::fs) H5 (F4.same s5) (((s1.trans (s2.trans s3).but).trans s4).trans s5.but) (cO.tup e6 (bD.cons (eS (f:=(0,1)) (s5 _ _ e5)) (rxs.same s5))) ok4.zero (λ_=>rfl)
   | false =>
    refine oN ?_;refine ⟨_,rfl,_,rfl,_,_,rfl,rfl,?_⟩;have e1:(1+(W:Int))=((1+W:Nat):Int):=Oo;show kD [.ref p,.int (1+(W:Int))] _ _ _;rw [e1];refine tL (n:=n) (m:=1+W) (F1.less Oo) Oo Oo λv fs H4 F4 s4 r4 ok4=>?_;exact k v fs H4 F4 (s1.trans s4) r4 ok4 (λh=>by cases h)
theorem aDi(F:jA K "_law_sizes" "_law_sizes" YO f fd)(T:kY K mg c)
  (FQ7:gK dQ P w K mg base 1 "_law_pick" ["_law_tape_here","_law_many"] jX):dZ P w K mg base dQ 2 f fd ["_law_tape_here"] nT:=by
 refine F.oky aAQ λvs H Q E h=>?_;unfold nT at h;obtain ⟨p,n,rfl,F,k⟩:=h;refine ⟨rfl,λcdv A outer s hr=>?_⟩;refine ⟨_,(aS (bS (i:=1) aAQ.nd rfl (Or.inl rfl) (cH bU (fQ (aM aL (aM aL (aM aL (aM aL (aM aL (aM aL aG))))))) (bR FQ7 (hr.mono Dd) (aM (aI 0) (aM aL aG))) (λ_ _=>rfl)))
  (aS (bS (i:=2) aAQ.nd rfl (Or.inl rfl) (cH bU (cH bU (fQ (aM (fQ (aM aL (aM aL (aM aL (aM aL (aM aL (aM aL aG))))))) (aM (fQ (aM aL (aM aL (aM aL (aM aL (aM aL (aM aL aG))))))) (aM (fQ (aM aL (aM aL (aM aL (aM aL (aM aL (aM aL aG))))))) aG)))) (cN AL (aI 1) aL) (λ_ _=>rfl)) (bR FQ7 (hr.mono Dd) (aM (aI 0) (aM aL aG))) (λ_ _=>rfl)))
  (bE (cF (dS (aM (aI 1) (aM (cH bU (fQ (aM aL (aM aL (aM aL (aM aL aG))))) (bR FQ7 (hr.mono Dd) (aM (aI 0) (aM aL aG))) (λ_ _=>rfl)) (aM (aI 2) aG)))))))),?_⟩
 refine xP (by show 6<=64;decide) λq1 H1 hq1 e1 s1=>?_;refine ⟨_,rfl,?_⟩;refine eO (n:=n+2) (F.same s1) Dd Kk λx H2 x0 x1 F2 s2=>?_;obtain ⟨v,hat,hmem,_⟩:=BF (xs:=[V.int 2,V.int 2,V.int 2,V.int 3,V.int 3,V.int 4]) x0 x1;refine ixL (s2.at (F.ne hq1) e1) hat ?_;have S2:aU p H H2:=s1.but.trans s2;have hv:∃nF:Nat,v=.int (nF:Int)/\(nF=2\/nF=3\/nF=4):=by
  simp only [aT,List.not_mem_nil,or_false] at hmem;rcases hmem with rfl | rfl | rfl | rfl | rfl | rfl
  ·exact ⟨2,rfl,Dd⟩
  ·exact ⟨2,rfl,Dd⟩
  ·exact ⟨2,rfl,Dd⟩
  ·exact ⟨3,rfl,Dd⟩
  ·exact ⟨3,rfl,Dd⟩
  ·exact ⟨4,rfl,Dd⟩
 obtain ⟨nF,rfl,hF⟩:=hv;clear hat hmem e1 hq1 s1 s2;refine xP (by show 6<=64;decide) λq2 H3 hq2 e2 s3=>?_;refine xP (by show 6<=64;decide) λq3 H4 hq3 e3 s4=>?_;refine xP (by show 6<=64;decide) λq4 H5 hq4 e4 s5=>?_;refine xP (by show 3<=64;decide) λq5 H6 hq5 e5 s6=>?_;refine ⟨_,rfl,_,_,rfl,rfl,?_⟩;have F6:=(((F2.same s3).same s4).same s5).same s6;have S6:aU p H H6:=S2.trans (((s3.trans s4).trans s5).trans s6).but;have g2:=s6 _ _ (s5 _ _ (s4 _ _ e2));have g3:=s6 _ _ (s5 _ _ e3);have g4:=s6 _ _ e4;have hrow:∃(qq:Addr) (ms:List Int),EB [V.ref q2,V.ref q3,V.ref q4] ((nF:Int)-2)=some (.ref qq)/\H6 qq=some (.lst (ms.map V.int))/\ms.length=6/\∀m∈ms,∃M:Nat,m=(M:Int)/\(nF=2/\M<=4\/nF=3/\M<=3\/nF=4/\M<=2):=by
  rcases hF with rfl | rfl | rfl
  ·refine ⟨q2,[1,2,3,4,0,3],rfl,g2,rfl,λm hm=>⟨m.toNat,?_⟩⟩;simp only [aT,List.not_mem_nil,or_false] at hm;omega
  ·refine ⟨q3,[1,2,3,2,0,2],rfl,g3,rfl,λm hm=>⟨m.toNat,?_⟩⟩;simp only [aT,List.not_mem_nil,or_false] at hm;omega
  ·refine ⟨q4,[1,2,2,1,0,2],rfl,g4,rfl,λm hm=>⟨m.toNat,?_⟩⟩;simp only [aT,List.not_mem_nil,or_false] at hm;omega
 obtain ⟨qq,ms,hat,hqq,hms,hall⟩:=hrow;refine ixL e5 hat ?_;refine ⟨_,rfl,?_⟩;refine eO (n:=n+1) F6 Dd Kk λy H7 y0 y1 F7 s7=>?_;obtain ⟨m,hm⟩:∃m,ms[y.toNat]?=some m:=⟨_,aC Oo⟩;have hat2:EB (ms.map V.int) y=some (.int m):=by
  have:=iB (xs:=ms.map V.int) (j:=y.toNat) (v:=V.int m) (by rw [aE,hm];rfl)
  rwa [Int.toNat_of_nonneg y0] at this
 obtain ⟨M,rfl,hM⟩:=hall m (List.mem_iff_getElem?.mpr ⟨_,hm⟩);refine ixL (s7.at (F6.neL hqq) hqq) hat2 ?_;refine ⟨_,rfl,?_⟩;refine xP (by show 4<=64;decide) λq8 H8 hq8 e8 s8=>?_;refine ⟨_,rfl,?_⟩;refine eO (n:=n) (F7.same s8) Dd Kk λz H9 z0 z1 F9 s9=>?_;obtain ⟨v,hat3,hmem3,_⟩:=BF (xs:=[V.int 2,V.int 2,V.int 3,V.int 4]) z0 z1;refine ixL (s9.at (F7.ne hq8) e8) hat3 ?_;have hv:∃nW:Nat,v=.int (nW:Int)/\(2<=nW/\nW<=4):=by
  simp only [aT,List.not_mem_nil,or_false] at hmem3;rcases hmem3 with rfl | rfl | rfl | rfl
  ·exact ⟨2,rfl,Dd⟩
  ·exact ⟨2,rfl,Dd⟩
  ·exact ⟨3,rfl,Dd⟩
  ·exact ⟨4,rfl,Dd⟩
 obtain ⟨nW,rfl,hW⟩:=hv;refine ⟨_,rfl,?_⟩;refine pJ (by show 3<=64;decide) λq10 H10 hq10 e10 s10=>?_;exact k q10 nF nW M H10 ⟨hW,hM⟩ (F9.same s10) ((((S6.trans s7).trans s8.but).trans s9).trans s10.but) e10
end
def bump(cs:List Int)(i:Nat):List Int:=cs.take i++[cs.getD i 0+1]++cs.drop (i+1)
def nexts(cs:List Int)(f:Fr):List (List Int):=if f=(0,1) then [] else (List.range cs.length).map (bump cs)
theorem AA{K:PySem.W.Frag}{H:Hp}{a:Addr}{xs:List V}{k:Nat}{z:Int}{Q:VK}(hz:z=(k:Int))(h:H a=some (.tup xs))(q:∀c H',bC H H'->H' c=some (.tup (xs.drop k))->Q (.ref c) H'):CG K (.ref a) (some z) none H Q:=by
 subst hz;exact MN h q
@[irreducible] def qQ:Sp:=λvs H Q _=>∃(x y:V) (cs:List Int) (f:Fr) (fs:List Fr),vs=[x,y]/\cO H (fW cs) x/\cO H (sE (f::fs)) y/\cs.length<=4/\fs.length<=4 /\
 ∀D ys H',H D=none->H' D=some (.lst ys)->bD H' ((nexts cs f).map fW) ys->bC H H'->Q (.ref D) H'
theorem JE{H:Hp}{Q:VK}{E:XK}{x y:V}{cs:List Int}{f:Fr}{fs:List Fr}(h1:cO H (fW cs) x)(h2:cO H (sE (f::fs)) y)(h3:cs.length<=4)(h4:fs.length<=4)
  (k:∀D ys H',H D=none->H' D=some (.lst ys)->bD H' ((nexts cs f).map fW) ys->bC H H'->Q (.ref D) H'):qQ [x,y] H Q E:=by
 unfold qQ;exact ⟨x,y,cs,f,fs,rfl,h1,h2,h3,h4,k⟩
theorem UL(x y:Int):PyData.eqv (.int x) (.int y)=decide (x=y):=by
 show (x == y)=_;rw [Bool.beq_eq_decide_eq]
theorem CY:∀a b:List Int,PyData.eqvAll (a.map PyData.int) (b.map PyData.int)=decide (a=b)
 | [],[]=>by simp [PyData.eqvAll]
 | [],_::_=>by simp [PyData.eqvAll]
 | _::_,[]=>by simp [PyData.eqvAll]
 | x::a,y::b=>by
  have ih:=CY a b;rw [aO,aO];show (PyData.eqv (.int x) (.int y)&&PyData.eqvAll _ _)=_;rw [ih,UL];by_cases h:x=y <;> by_cases h':a=b <;> simp [h,h']
theorem aAB(a b:List Int):PyData.eqv (fW a) (fW b)=decide (a=b):=CY a b
theorem OR(f g:Fr):PyData.eqv (iT f) (iT g)=decide (f=g):=by
 have h:=aAB [f.1,f.2] [g.1,g.2];refine (show PyData.eqv (iT f) (iT g)=_ from h).trans ?_;obtain ⟨f1,f2⟩:=f;obtain ⟨g1,g2⟩:=g;simp
section
theorem oQ5(F:jA K "_law_next" "_law_next" sQ5 f fd)(T:kY K mg c):dZ P w K mg base dQ 1 f fd ["_law_counts_here","_law_says_here"] qQ:=by
 refine F.oky cQ5 λvs H Q E h=>?_;unfold qQ at h;obtain ⟨x,y,cs,g,fs,rfl,rx,ry,h4,h5,k⟩:=h;refine ⟨rfl,λcdv A outer s hr=>?_⟩;obtain ⟨a,rfl,ha⟩:=kU rx;obtain ⟨b,xs,rfl,hb,rxs⟩:=pX ry;obtain ⟨z,hz,rz⟩:=bD.atX (as:=g::fs) rxs (i:=0) (a:=g) rfl;refine ⟨_,(aS (gE (eD (FJ hr.units) (cH bU (aI 1) aL (λ_ _=>rfl)) (dS (aM aL (aM aL aG))) (nomark _)) (bE (cF (fQ aG))) dY)
  (bE (cF (fG (eA.of (psc:=bA sQ5) (N:=["_law_counts_here","_law_says_here"]) (N':=["_law_face","_law_counts_here"]) (js:=[0]) Kk rfl rfl rfl) (fT rfl T.b_range (aM (eR jU (by rfl) T.b_len Kk (aM (aI 0) aG)) aG)) (λ_ _ _ _=>eQ) (λ_ _ _ _=>(cN (pF K) (cN (pF K) (lP (qV K) (aI 1) oW (oV (aI 0))) (dS (aM (cN fZ (cH (lE K) (aI 1) (aI 0) (λ_ _=>rfl)) aL) aG))) (lP (qV K) (aI 1) (oV (cN fZ (aI 0) aL)) oW))))))),?_⟩
 refine ⟨_,rfl,?_⟩;refine tU hb (v:=z) (by
  have:=iB (xs:=xs) (j:=0) (v:=z) hz;exact this) ?_
 refine pJ (by show 2<=64;decide) λq1 H1 hq1 e1 s1=>?_;have r1:cO H1 (iT (0,1)) (.ref q1):=eS e1;refine reD (rz.same s1) r1 rfl rfl ?_;rw [OR];refine ⟨_,rfl,?_⟩;rw [Bool.true_beq];refine AV (λeg=>?_) (λeg=>?_)
 ·refine xP (by show 0<=64;decide) λq2 H2 hq2 e2 s2=>?_;refine k q2 [] H2 (s1.free hq2) e2 ?_ (s1.trans s2);unfold nexts;rw [if_pos eg];exact bD.nil
 ·refine ⟨_,rfl,?_⟩;refine rlT (s1 _ _ ha) ?_;rw [aA];refine ⟨_,rfl,Oo,Oo,?_⟩;refine kI (λi y H'=>i<cs.length/\cO H' (fW (bump cs i)) y) (λi y H1 H2 s ⟨h1,h2⟩=>⟨h1,h2.flat s (fO _)⟩) Oo (λi H' Q' hi s' k'=>?_) (λD ys H4 hD hD4 s4 hy4 hr4=>?_)
  ·rw [Int.zero_add];have hi':i<cs.length:=Oo;have ha':=s' _ _ (s1 _ _ ha);refine ⟨_,rfl,_,rfl,_,rfl,?_⟩;refine EZ ha' λc2 H2 s2 e2=>?_;refine ⟨_,rfl,_,rfl,?_⟩;have hat:EB (cs.map V.int) (i:Int)=some (.int (cs.getD i 0)):=iB (by rw [aE,aN,aC hi'];rfl);refine tU (s2 _ _ ha') hat ?_;refine ⟨_,_,rfl,rfl,?_⟩;refine pJ (by show 1<=64;decide) λc3 H3 hc3 e3 s3=>?_;refine LB (s3 _ _ e2) e3 (by rw [dC,aA];show min i cs.length+1<=1000;omega) λc4 H4 s4 e4=>?_;refine ⟨_,rfl,_,rfl,_,_,rfl,rfl,?_⟩;refine ⟨_,rfl,?_⟩;refine AA (k:=i+1) Oo (s4 _ _ (s3 _ _ (s2 _ _ ha'))) λc5 H5 s5 e5=>?_;refine LB (s5 _ _ e4) e5 (by rw [bF,dC,List.length_drop,aA];show min i cs.length+1+(cs.length-(i+1))<=1000;omega) λc6 H6 s6 e6=>?_;refine k' _ H6 ((((s2.trans s3).trans s4).trans s5).trans s6) ⟨hi',sQ ?_⟩;rw [e6];unfold bump;rw [bM,bM,List.map_take,List.map_drop]
   rfl
  ·refine k D ys H4 (s1.free hD) hD4 ?_ (s1.trans s4);unfold nexts;rw [if_neg eg];refine bD.ofIdx (by rw [hy4,aA,aA,bK];omega) λi y hi=>?_;obtain ⟨h1,h2⟩:=hr4 i y hi;exact ⟨fW (bump cs i),by rw [aE,aE,bN h1];rfl,h2⟩
end
theorem iO{α:Type}[DecidableEq α]:∀{l m:List α},l.Nodup->(∀x∈l,x∈m)->l.length<=m.length
 | [],m,_,_=>cC _
 | x::l,m,h,hs=>by
  rw [List.nodup_cons] at h;have hx:=hs x (aH ..);have h1:=iO (l:=l) (m:=m.erase x) h.2 λy hy=>(List.mem_erase_of_ne (λe=>by subst e;exact h.1 hy)).mpr (hs y (aF _ hy));rw [List.length_erase_of_mem hx] at h1;have:0<m.length:=List.length_pos_of_mem hx;rw [cM];omega
def GA:Nat->Nat->List (List Int)
 | 0,m=>if m=0 then [[]] else []
 | F+1,m=>(List.range (m+1)).flatMap λk=>(GA F (m-k)).map λc=>((k:Nat):Int)::c
theorem AO:∀{c:List Int},(∀x∈c,0<=x)->0<=c.sum
 | [],_=>by simp
 | x::c,h=>by
  have h1:=AO (c:=c) λy hy=>h y (aF _ hy);have h2:=h x (aH ..);rw [List.sum_cons];omega
theorem DW:∀{F m:Nat}{c:List Int},c.length=F->(∀x∈c,0<=x)->c.sum=(m:Int)->c∈GA F m
 | 0,m,c,hl,_,hs=>by
  cases c with
  | nil =>
   rw [List.sum_nil] at hs;unfold GA;rw [if_pos Oo];exact aH ..
  | cons _ _=>simp at hl
 | F+1,m,c,hl,hn,hs=>by
  cases c with
  | nil=>simp at hl
  | cons x c =>
   have h2:=hn x (aH ..);have hn':∀y∈c,0<=y:=λy hy=>hn y (aF _ hy);have h1:=AO hn';rw [List.sum_cons] at hs;unfold GA;refine List.mem_flatMap.mpr ⟨x.toNat,cG.mpr Oo,aD.mpr ⟨c,DW (by simpa using hl) hn' Oo,?_⟩⟩;rw [show ((x.toNat:Nat):Int)=x by omega]
structure LM(F:Nat)(j:Nat)(c:List Int):Prop where
 len:c.length=F
 nn:∀x∈c,0<=x
 sum:c.sum=(j:Int)
structure rV(F:Nat)(j:Nat)(cs:List (List Int)):Prop where
 nd:cs.Nodup
 each:∀c∈cs,LM F j c
theorem TW:(∀m≤4,(GA 2 m).length<64)/\(∀m≤3,(GA 3 m).length<64)/\(∀m≤2,(GA 4 m).length<64):=Dd
theorem rV.few{F W M j:Nat}{cs:List (List Int)}(h:rV F j cs)(z:jV F W M)(hj:j<=M):cs.length<64:=by
 have h1:=iO h.nd λc hc=>DW (h.each c hc).len (h.each c hc).nn (h.each c hc).sum;obtain ⟨l2,l3,l4⟩:=TW;rcases z.f with ⟨rfl,hM⟩ | ⟨rfl,hM⟩ | ⟨rfl,hM⟩
 ·exact bB h1 (l2 j Oo)
 ·exact bB h1 (l3 j Oo)
 ·exact bB h1 (l4 j Oo)
theorem kX{cs:List Int}{i:Nat}(h:i<cs.length):bump cs i=cs.set i (cs.getD i 0+1):=by
 unfold bump;rw [List.set_eq_take_append_cons_drop,if_pos h,List.append_assoc];rfl
theorem VC{F j:Nat}{c:List Int}(h:LM F j c){i:Nat}(hi:i<c.length):LM F (j+1) (bump c i):=by
 have hg:c.getD i 0∈c:=by
  rw [aN,aC hi];exact List.getElem_mem hi
 refine ⟨by rw [kX hi,List.length_set];exact h.len,λx hx=>?_,?_⟩
 ·rw [kX hi] at hx;rcases List.mem_or_eq_of_mem_set hx with hx | rfl
  ·exact h.nn x hx
  ·have:=h.nn _ hg;omega
 ·have e:c=c.take i++[c.getD i 0]++c.drop (i+1):=by
   have e1:c.getD i 0=c[i]:=by rw [aN,aC hi];rfl
   rw [e1,List.append_assoc,List.singleton_append,<-List.drop_eq_getElem_cons hi,List.take_append_drop]
  have hs:=h.sum;have e2:c.sum=(c.take i).sum+c.getD i 0+(c.drop (i+1)).sum:=by
   conv=>lhs;rw [e]
   rw [List.sum_append,List.sum_append,List.sum_singleton]
  unfold bump;rw [List.sum_append,List.sum_append,List.sum_singleton];omega
theorem PX{c:List Int}{i k:Nat}(hi:i<c.length)(hk:k<c.length)(e:bump c i=bump c k):i=k:=by
 by_cases h:i=k
 ·exact h
 ·rw [kX hi,kX hk] at e;have e1:=congrArg (λl=>l[i]?) e;rw [List.getElem?_set_self (by simpa using hi),List.getElem?_set_ne (Ne.symm h),aC hi,aN,aC hi] at e1;injection e1 with e1;exact absurd e1 (by show ¬(c[i]+1=c[i]);omega)
theorem hU{α β:Type}{f:α->β}:∀{l:List α},l.Nodup->(∀x∈l,∀y∈l,f x=f y->x=y)->(l.map f).Nodup
 | [],_,_=>List.nodup_nil
 | x::l,h,k=>by
  rw [List.nodup_cons] at h;rw [aO,List.nodup_cons];refine ⟨λhm=>?_,hU h.2 λa ha b hb=>k a (aF _ ha) b (aF _ hb)⟩;obtain ⟨y,hy,e⟩:=aD.mp hm;have:=k y (aF _ hy) x (aH ..) e;subst this;exact h.1 hy
theorem NT{F j:Nat}{c:List Int}(h:LM F j c)(f:Fr):rV F (j+1) (nexts c f):=by
 unfold nexts;split
 ·exact ⟨List.nodup_nil,λc hc=>by cases hc⟩
 ·refine ⟨hU List.nodup_range λx hx y hy e=>PX (by simpa using hx) (by simpa using hy) e,λd hd=>?_⟩;obtain ⟨i,hi,rfl⟩:=aD.mp hd;exact VC h (by simpa using hi)
theorem rV.more{F j:Nat}{ls ms:List (List Int)}(h1:rV F j ls)(h2:rV F j ms):rV F j (ls++ms.filter λc=>!decide (c∈ls)):=by
 refine ⟨List.nodup_append.mpr ⟨h1.nd,h2.nd.filter _,λa ha b hb e=>?_⟩,λc hc=>?_⟩
 ·subst e;have:=(iR.mp hb).2;simp [ha] at this
 ·rcases dB.mp hc with hc | hc
  ·exact h1.each c hc
  ·exact h2.each c (iR.mp hc).1
theorem rV.perm{F j:Nat}{ls ms:List (List Int)}(h:rV F j ls)(p:ms.Perm ls):rV F j ms:=⟨p.nodup_iff.mpr h.nd,λc hc=>h.each c (p.mem_iff.mp hc)⟩
theorem HD{α:Type}(d:α){cs:List α}{ix:List Nat}(h:ix.Perm (List.range cs.length)):(ix.map λi=>cs.getD i d).Perm cs:=by
 have h1:=h.map λi=>cs.getD i d;have e:(List.range cs.length).map (λi=>cs.getD i d)=cs:=by
  apply List.ext_getElem?;intro i;rw [aE];by_cases hi:i<cs.length
  ·rw [bN hi,aC hi,Option.map_some,aN,aC hi];rfl
  ·rw [bO (by simpa using hi),bO Oo];rfl
 rwa [e] at h1
abbrev jB:=List Int × List Fr
abbrev DB(e:jB):PyData:=.tuple [fW e.1,sE e.2]
abbrev xM(es:List jB):PyData:=.tuple (es.map DB)
theorem CZ(e:jB):fD (DB e)=true:=by
 show (fD (fW e.1)&&(fD (sE e.2)&&true))=true;rw [fO,oH];rfl
def hd(fs:List Fr):Fr:=fs.headD (0,1)
structure Clo(F:Nat)(es:List jB)(cs:List (List Int)):Prop where
 fwd:∀e∈es,∀c∈nexts e.1 (hd e.2),c∈es.map (·.1)\/c∈cs
 bwd:∀c,c∈es.map (·.1)\/c∈cs->c=List.replicate F 0\/∃e∈es,c∈nexts e.1 (hd e.2)
 zero:List.replicate F 0∈es.map (·.1)\/List.replicate F 0∈cs
def tG(ls:List (List Int))(ne:List jB):Prop:=∀c,c∈ls ↔ ∃e∈ne,c∈nexts e.1 (hd e.2)
theorem tG.more{ls:List (List Int)}{ne:List jB}{e:jB}(h:tG ls ne):tG (ls++(nexts e.1 (hd e.2)).filter λc=>!decide (c∈ls)) (ne++[e]):=λc=>by
 rw [dB,iR];constructor
 ·rintro (hl | ⟨hc,_⟩)
  ·obtain ⟨a,ha,hc⟩:=(h c).mp hl;exact ⟨a,cX _ ha,hc⟩
  ·exact ⟨e,aP _ (bQ.mpr rfl),hc⟩
 ·rintro ⟨a,ha,hc⟩;rcases dB.mp ha with ha | ha
  ·exact .inl ((h c).mpr ⟨a,ha,hc⟩)
  ·rw [bQ] at ha;subst ha;by_cases hl:c∈ls
   ·exact .inl hl
   ·exact .inr ⟨hc,by simp [hl]⟩
theorem Clo.step{F:Nat}{es ne:List jB}{cs cs2 ls:List (List Int)}(h:Clo F es cs)(hp:cs2.Perm cs)(hm:ne.map (·.1)=cs2)(hl:tG ls ne):Clo F (es++ne) ls:=by
 have hk:∀c,c∈(es++ne).map (·.1)↔c∈es.map (·.1)\/c∈cs:=λc=>by rw [bM,dB,hm,hp.mem_iff]
 refine ⟨λe he c hc=>?_,λc hc=>?_,.inl ((hk _).mpr h.zero)⟩
 ·rcases dB.mp he with he | he
  ·exact .inl ((hk c).mpr (h.fwd e he c hc))
  ·exact .inr ((hl c).mpr ⟨e,he,hc⟩)
 ·rcases hc with hc | hc
  ·rcases h.bwd c ((hk c).mp hc) with h0 | ⟨e,he,h1⟩
   ·exact .inl h0
   ·exact .inr ⟨e,cX _ he,h1⟩
  ·obtain ⟨e,he,h1⟩:=(hl c).mp hc;exact .inr ⟨e,aP _ he,h1⟩
def rk(a b:List Int):Prop:=a.sum<b.sum\/a.sum=b.sum/\hV a b=true
structure iC(F W M:Nat)(es:List jB):Prop where
 ne:es≠[]
 nd:(es.map (·.1)).Nodup
 each:∀e∈es,e.1.length=F/\(∀x∈e.1,0<=x)/\e.1.sum<=(M:Int)/\jH (1+W) e.2
 asc:(es.map λe=>e.1.sum).Pairwise (· <= ·)
 len:es.length<=320
 clo:Clo F es []
 rise:(es.map (·.1)).Pairwise rk
structure QG(F W M j:Nat)(es:List jB):Prop where
 nd:(es.map (·.1)).Nodup
 each:∀e∈es,e.1.length=F/\(∀x∈e.1,0<=x)/\e.1.sum<(j:Int)/\e.1.sum<=(M:Int)/\jH (1+W) e.2
 asc:(es.map λe=>e.1.sum).Pairwise (· <= ·)
 len:es.length<=64*j
 rise:(es.map (·.1)).Pairwise rk
structure DY(F W M j:Nat)(es0 es:List jB)(cs:List (List Int)):Prop where
 ex:∃ne:List jB,es=es0++ne/\ne.map (·.1)=cs/\∀e∈ne,jH (1+W) e.2
theorem DY.done{F W M j:Nat}{es0 es:List jB}{cs:List (List Int)}(h0:QG F W M j es0)(h:DY F W M j es0 es cs)(l:rV F j cs)(hj:j<=M)(hl:cs.length<=64)(hx:cs.Pairwise λa b=>hV a b=true):QG F W M (j+1) es:=by
 obtain ⟨ne,rfl,hm,hs⟩:=h.ex;have hin:∀e∈ne,LM F j e.1:=λe he=>l.each e.1 (hm ▸ List.mem_map_of_mem he);refine ⟨?_,λe he=>?_,?_,?_,?_⟩
 ·rw [bM];refine List.nodup_append.mpr ⟨h0.nd,hm ▸ l.nd,λa ha b hb e=>?_⟩;subst e;obtain ⟨e1,m1,rfl⟩:=aD.mp ha;have:=(h0.each e1 m1).2.2.1;rw [hm] at hb;have:=(l.each _ hb).sum;omega
 ·rcases dB.mp he with he | he
  ·obtain ⟨a1,a2,a3,a4,a5⟩:=h0.each e he;exact ⟨a1,a2,Oo,a4,a5⟩
  ·have c:=hin e he;have:=c.sum;exact ⟨c.len,c.nn,Oo,Oo,hs e he⟩
 ·rw [bM];refine List.pairwise_append.mpr ⟨h0.asc,?_,λa ha b hb=>?_⟩
  ·have:∀x∈ne.map (λe=>e.1.sum),x=(j:Int):=λx hx=>by
    obtain ⟨e,he,rfl⟩:=aD.mp hx;exact (hin e he).sum
   exact List.pairwise_of_forall_mem_list λa ha b hb=>by rw [this a ha,this b hb];exact Int.le_refl _
  ·obtain ⟨e1,m1,rfl⟩:=aD.mp ha;obtain ⟨e2,m2,rfl⟩:=aD.mp hb;have:=(h0.each e1 m1).2.2.1;have:=(hin e2 m2).sum;omega
 ·have hne:ne.length=cs.length:=by rw [<-hm,aA]
  have:=h0.len;rw [bF];omega
 ·rw [bM,hm];refine List.pairwise_append.mpr ⟨h0.rise,hx.imp_of_mem λha hb h=>.inr ⟨((l.each _ ha).sum).trans ((l.each _ hb).sum).symm,h⟩,λa ha b hb=>?_⟩;obtain ⟨e1,m1,rfl⟩:=aD.mp ha;have:=(h0.each e1 m1).2.2.1;have:=(l.each b hb).sum;exact .inl Oo
theorem QG.rule{F W M j:Nat}{es:List jB}(h:QG F W M j es)(hj:j<=5)(hne:es≠[])(cl:Clo F es []):iC F W M es :=
 ⟨hne,h.nd,λe he=>⟨(h.each e he).1,(h.each e he).2.1,(h.each e he).2.2.2.1,(h.each e he).2.2.2.2⟩,h.asc,by have:=h.len;omega,cl,h.rise⟩
@[irreducible] def qO:Sp:=λvs H Q _=>∃(p:Addr) (n F W M:Nat) (pl:Bool),vs=[.ref p,.int (F:Int),.int (W:Int),.int (M:Int),.bl pl]/\cK H p (n+8192)/\jV F W M/\∀v es H',cK H' p n->aU p H H'->cO H' (xM es) v->iC F W M es->Q v H'
theorem yB{H:Hp}{Q:VK}{E:XK}{p:Addr}{n F W M:Nat}{pl:Bool}(T:cK H p (n+8192))(z:jV F W M)(k:∀v es H',cK H' p n->aU p H H'->cO H' (xM es) v->iC F W M es->Q v H'):qO [.ref p,.int (F:Int),.int (W:Int),.int (M:Int),.bl pl] H Q E:=by
 unfold qO;exact ⟨p,n,F,W,M,pl,rfl,T,z,k⟩
theorem KR(cs:List (List Int)):SeqAt.shaped (.list (cs.map fW))=true:=by
 have hl:∀cs:List (List Int),PyData.canLayAll0 (cs.map fW)=true:=λcs=>by
  induction cs with
  | nil=>rfl
  | cons c cs ih =>
   show (PyData.canLay0 (fW c)&&PyData.canLayAll0 (cs.map fW))=true;rw [ih,show PyData.canLay0 (fW c)=PyData.canLayAll0 (c.map .int) from rfl,wE];rfl
 have hd:∀cs:List (List Int),PyData.depthAll (cs.map fW)<=2:=λcs=>by
  induction cs with
  | nil=>show 0<=2;omega
  | cons c cs ih =>
   show max (PyData.depth (fW c)) (PyData.depthAll (cs.map fW))<=2;have:=DE c;have:PyData.depth (fW c)<=2:=by simp only [PyData.depth];omega
   omega
 unfold SeqAt.shaped;rw [show PyData.canLay0 (.list (cs.map fW))=PyData.canLayAll0 (cs.map fW) from rfl,hl,Bool.true_and,decide_eq_true_eq];have:=hd cs;simp only [PyData.depth];omega
theorem UK(cs:List (List Int)):PyData.eqv (.list (cs.map fW)) (.list [])=decide (cs=[]):=by
 cases cs with
 | nil=>rfl
 | cons c cs=>show PyData.eqvAll (fW c::cs.map fW) []=_;simp [PyData.eqvAll]
theorem gX:∀cs:List (List Int),eP (cs.map fW)=true
 | []=>rfl
 | c::cs=>by show (fD (fW c)&&eP (cs.map fW))=true;rw [fO,gX cs];rfl
theorem rK:∀es:List jB,eP (es.map DB)=true
 | []=>rfl
 | e::es=>by show (fD (DB e)&&eP (es.map DB))=true;rw [CZ,rK es];rfl
theorem GT{H:Hp}{cs:List (List Int)}{ws:List V}(r:bD H (cs.map fW) ws):∀ix:List Nat,(∀i∈ix,i<cs.length)->bD H ((ix.map λi=>cs.getD i []).map fW) (ix.map λi=>ws.getD i .non)
 | [],_=>bD.nil
 | i::ix,h=>by
  have hi:=h i (aH ..);obtain ⟨x,hx,rx⟩:=bD.atX r (i:=i) (a:=cs[i]) (by simp [hi]);have e1:cs.getD i []=cs[i]:=by simp [hi]
  have e2:ws.getD i .non=x:=by rw [aN,hx];rfl
  refine bD.cons ?_ (GT r ix λj hj=>h j (aF _ hj));show cO H (fW (cs.getD i [])) (ws.getD i .non);rw [e1,e2];exact rx
theorem DY.snoc{F W M j:Nat}{es0 es:List jB}{cs:List (List Int)}{c:List Int}{fs:List Fr}(h:DY F W M j es0 es cs)(ok:jH (1+W) fs):DY F W M j es0 (es++[(c,fs)]) (cs++[c]):=by
 obtain ⟨ne,rfl,hm,hs⟩:=h.ex;refine ⟨ne++[(c,fs)],by rw [List.append_assoc],by rw [bM,hm];rfl,λe he=>?_⟩;rcases dB.mp he with he | he
 ·exact hs e he
 ·rw [bQ] at he;subst he;exact ok
theorem DY.len{F W M j:Nat}{es0 es:List jB}{cs:List (List Int)}(h:DY F W M j es0 es cs):es.length=es0.length+cs.length:=by
 obtain ⟨ne,rfl,hm,hs⟩:=h.ex;rw [bF,<-hm,aA]
section
theorem aDl(F:jA K "_law_rule" "_law_rule" SA f fd)(T:kY K mg c)
  (FQ11:gK dQ P w K mg base 3 "_law_says" ["_law_tape_here","_law_ways","_law_stops","_law_plain"] qN) (FQ5:gK dQ P w K mg base 1 "_law_next" ["_law_counts_here","_law_says_here"] qQ):dZ P w K mg base dQ 4 f fd ["_law_tape_here","_law_faces","_law_ways","_law_most","_law_plain"] qO:=by
 refine F.oky FZ λvs H Q E h=>?_;unfold qO at h;obtain ⟨p,n,F,W,M,pl,rfl,TP,Z,k⟩:=h;refine ⟨rfl,λcdv A outer s hr=>?_⟩;refine ⟨_,(aS (bS (i:=5) FZ.nd rfl (Or.inl rfl) (fQ aG))
  (aS (bS (i:=6) FZ.nd rfl (Or.inl rfl) (fQ (aM (cN HF (dS (aM aL aG)) (aI 1)) aG)))
  (aS (qE PassesOwn.never (eD (ZX hr.units) (aI 6) (fQ aG) (nomark _)) (aS (bS (i:=7) FZ.nd rfl (Or.inr rfl) (fQ aG))
  (aS (gS PassesOwn.never rfl (gZ (eR (aAK K) (by rfl) T.b_sorted Kk (aM (aI 6) aG))) (dF (i:=8) FZ.nd rfl (Or.inl rfl)) (aS (bS (i:=9) FZ.nd rfl (Or.inl rfl) (bR FQ11 (hr.mono Dd) (aM (aI 0) (aM (aI 2) (aM (jR nB (eR (BC K rfl) (by rfl) T.b_sum Kk (aM (aI 8) aG)) (aI 3) (nomark _)) (aM (aI 4) aG))))))
  (aS (qF (BP PySem.F.plainAttrs_list PySem.F.slot_list_append PySem.F.type_list_append NU (aI 5) (aM (dS (aM (aI 8) (aM (aI 9) aG))) aG)))
  (bE (qF (BP PySem.F.plainAttrs_list PySem.F.slot_list_extend PySem.F.type_list_extend FM (aI 7) (aM (fG (eA.of (psc:=bA SA) (N:=["_law_tape_here","_law_faces","_law_ways","_law_most","_law_plain","_law_found","_law_level","_law_later","_law_counts_here","_law_says_here"]) (N':=["_law_one","_law_later"]) (js:=[7]) Kk rfl rfl rfl) (gZ (bR FQ5 (hr.mono Dd) (aM (aI 8) (aM (aI 9) aG)))) (λ_ _ _ _=>QU (eD (JU K hr.units) (aI 0) (aI 1) (by with_unfolding_all rfl))) (λ_ _ _ _=>(aI 0))) aG)))))))
  (bE (bS (i:=6) FZ.nd rfl (Or.inl rfl) (aI 7))))))
  (bE (cF (jC dR (by rfl) T.b_tuple Kk (aM (aI 5) aG))))))),?_⟩
 refine xP (by show 0<=64;decide) λfo H1 hfo e1 s1=>?_;refine pJ (by show 1<=64;decide) λq2 H2 hq2 e2 s2=>?_;refine ⟨_,rfl,?_⟩;have hF:2<=F/\F<=4:=by have:=Z.f;omega
 refine aBR e2 hF.1 Oo λq3 H3 s3 e3=>?_;refine xP (by show 1<=64;decide) λle H4 hle e4 s4=>?_;have nlf:fo≠p:=TP.ne hfo;have F4:=(((TP.same s1).same s2).same s3).same s4;have S4:aU p H H4:=((((s1.trans s2).trans s3).trans s4)).but;have rz:cO H4 (fW (List.replicate F 0)) (.ref q3):=sQ (by rw [s4 _ _ e3,List.map_replicate]);have ok0:LM F 0 (List.replicate F 0):=⟨cB,λx hx=>by have:=List.eq_of_mem_replicate hx;omega,by
  have:∀k:Nat,(List.replicate k (0:Int)).sum=0:=λk=>by
   induction k with
   | zero=>rfl
   | succ k ih=>rw [List.replicate_succ,List.sum_cons,ih];rfl
  rw [this];rfl⟩
 have e1':=s4 _ _ (s3 _ _ (s2 _ _ e1));have hle0:H le=none:=((s1.trans s2).trans s3).free hle;have nlp:le≠p:=TP.ne hle0;have nfl:le≠fo:=λe=>by subst e;rw [s3 _ _ (s2 _ _ e1)] at hle;cases hle
 refine uH (λm σ H'=>∃(j:Nat) (le:Addr) (o7 o8 o9:Option V) (vs ws:List V) (es:List jB) (cs:List (List Int)),σ=[some (.ref p),some (.int (F:Int)),some (.int (W:Int)),some (.int (M:Int)),some (.bl pl),some (.ref fo),some (.ref le),o7,o8,o9] /\
   m=6-j/\j<=M+1/\(j<=M\/cs=[])/\(j=0->cs≠[])/\(0<j->es≠[])/\cK H' p (n+1024*(6-j))/\aU p H H'/\H' fo=some (.lst vs)/\bD H' (es.map DB) vs/\H' le=some (.lst ws)/\bD H' (cs.map fW) ws/\H le=none/\le≠fo/\rV F j cs/\QG F W M j es/\Clo F es cs)
  (λσ H'=>∃(le:Addr) (o7 o8 o9:Option V) (vs:List V) (es:List jB),σ=[some (.ref p),some (.int (F:Int)),some (.int (W:Int)),some (.int (M:Int)),some (.bl pl),some (.ref fo),some (.ref le),o7,o8,o9]/\cK H' p n/\aU p H H'/\H' fo=some (.lst vs)/\bD H' (es.map DB) vs/\iC F W M es)
  6 ⟨0,le,none,none,none,[],_,[],[List.replicate F 0],rfl,rfl,Oo,.inl Oo,λ_ h=>by (cases h),λh=>Oo,F4.less Oo,S4,e1',bD.nil,e4,bD.cons rz bD.nil,hle0,nfl,⟨by simp,λc hc=>by (rw [bQ] at hc;subst hc;exact ok0)⟩,⟨List.nodup_nil,λe he=>by (cases he),List.Pairwise.nil,cC _,List.Pairwise.nil⟩,⟨λe he=>by (cases he),λc hc=>.inl (by simpa using hc),.inr (by simp)⟩⟩ ?_ ?_
 ·clear e1 e2 e3 e4 s1 s2 s3 s4 F4 S4 rz ok0 e1' hle0 nlp nfl hle hq2;rintro m σ H1 ⟨j,le,o7,o8,o9,vs,ws,es,cs,rfl,rfl,hj,hjc,hj0,hes,F1,S1,hfo1,rfo,hle1,rle,hle0,nfl,LV,RT,CL⟩;have nlp:le≠p:=TP.ne hle0;refine ⟨_,rfl,?_⟩;refine xP (by show 0<=64;decide) λq5 H5 hq5 e5 s5=>?_;refine reD (cO.lst (s5 _ _ hle1) (rle.same s5)) (cO.lst e5 bD.nil) (KR cs) rfl ?_;rw [UK];refine ⟨_,rfl,?_⟩;have hM:M<=4:=by have:=Z.f;omega
  by_cases hc:cs=[]
  ·rw [bV hc];refine oN ⟨le,o7,o8,o9,vs,es,rfl,(F1.same s5).less Oo,S1.trans s5.but,s5 _ _ hfo1,rfo.same s5,RT.rule Oo (hes ?_) (hc ▸ CL)⟩;have:j≠0:=λe=>hj0 e hc;omega
  ·rw [cJ hc];refine mU ?_;have hjM:j<=M:=by
    rcases hjc with h | h
    ·exact h
    ·exact absurd h hc
   have few:=LV.few Z hjM;have lw':ws.length=cs.length:=by rw [rle.len,aA]
   refine xP (by show 0<=64;decide) λla H6 hla e6 s6=>?_;refine ⟨_,rfl,?_⟩;have s16:=s5.trans s6;refine rsrt (cs:=cs) (fS.of (s16 _ _ hle1)) (rle.same s16) (λc hc' h=>by have:=(LV.each c hc').len;rw [h] at this;simp at this;omega) Oo λso ix H7 hix hlx hso e7 s7=>?_;rw [lw'] at hix;have hixl:∀i∈ix,i<cs.length:=λi hi=>by have:=hix.mem_iff.mp hi;simpa using this
   have lix:ix.length=cs.length:=by rw [hix.length_eq,bK]
   have LV2:rV F j (ix.map λi=>cs.getD i []):=LV.perm (HD [] hix);have hpm:=HD [] hix;have hsx:=hlx LV.nd;have s17:=s16.trans s7;have rso:bD H7 ((ix.map λi=>cs.getD i []).map fW) (ix.map λi=>ws.getD i .non):=GT (rle.same s17) ix hixl;have lcs:(ix.map λi=>cs.getD i []).length=cs.length:=by rw [aA,lix]
   generalize hcs2:(ix.map λi=>cs.getD i [])=cs2 at *;generalize hys2:(ix.map λi=>ws.getD i V.non)=ys2 at *;have lys:ys2.length=cs2.length:=by rw [rso.len,aA]
   have hla0:H la=none:=aU.free S1 F1.there (s5.free hla);have hso0:H so=none:=aU.free S1 F1.there (s16.free hso);have nla:la≠p:=TP.ne hla0;have nso:so≠p:=TP.ne hso0;have nlf':la≠fo:=λe=>by subst e;rw [s5 _ _ hfo1] at hla;cases hla
   have nsf:so≠fo:=λe=>by subst e;rw [s16 _ _ hfo1] at hso;cases hso
   have nsl:so≠la:=λe=>by subst e;rw [e6] at hso;cases hso
   refine ⟨so,rfl,⟨_,fS.of e7⟩,?_⟩;refine iW (xs:=ys2) (λi σ H'=>∃(o8 o9:Option V) (vs2 us:List V) (es2:List jB) (ls:List (List Int)),σ=[some (.ref p),some (.int (F:Int)),some (.int (W:Int)),some (.int (M:Int)),some (.bl pl),some (.ref fo),some (.ref le),some (.ref la),o8,o9] /\
     cK H' p (n+1024*(6-j)-16*i)/\aU p H H'/\H' so=some (.lst ys2)/\H' fo=some (.lst vs2)/\bD H' (es2.map DB) vs2/\H' la=some (.lst us)/\bD H' (ls.map fW) us/\DY F W M j es es2 (cs2.take i)/\rV F (j+1) ls/\(j=M->ls=[])/\bD H' (cs2.map fW) ys2/\tG ls (es2.drop es.length))
    ⟨_,_,vs,[],es,[],rfl,(F1.same s17).less Oo,S1.trans s17.but,e7,s17 _ _ hfo1,rfo.same s17,s7 _ _ e6,bD.nil,⟨[],by rw [List.append_nil],rfl,λe he=>by cases he⟩,⟨List.nodup_nil,λc hc=>by cases hc⟩,λ_=>rfl,rso,λc=>⟨(λh=>by cases h),(λ⟨e,he,_⟩=>by rw [List.drop_length] at he;cases he)⟩⟩ (λi σ H' _ q=>?_) ?_ ?_
   ·obtain ⟨_,_,_,_,_,_,_,_,_,h,_⟩:=q;exact fS.of h
   ·rintro i x σ H' hx ⟨o8,o9,vs2,us,es2,ls,rfl,F',S',hso',hfo',rfo',hla',rla',RI,LS,hjm,rso',LF⟩;obtain ⟨c,hci,rx⟩:=rso'.atI hx;have hi:i<cs2.length:=(aK.mp hci).1;have okc:=LV2.each c (aZ hci);obtain ⟨ax,rfl,hax⟩:=kU rx;refine ⟨_,rfl,_,rfl,_,rfl,?_⟩;refine rsT (eZ.of hax) ?_;refine ⟨_,rfl,rfl,_,rfl,?_⟩;refine JD (n:=n+1024*(6-j)-16*(i+1)) (F'.less Oo) Z.w.1 Z.w.2 λv fs H8 F8 s8 r8 ok8 st8=>?_;have t8:=F'.t s8;have hso8:=s8.at nso hso';have hfo8:=s8.at nlf hfo';have hla8:=s8.at nla hla';have rfo8:=rfo'.flat t8 (rK _);have rla8:=rla'.flat t8 (gX _);have rso8:=rso'.flat t8 (gX _);have rx8:=rx.flat t8 (fO _);have hlen:vs2.length<=500:=by
     rw [rfo8.len,aA,RI.len,dC];have:=RT.len;have:64*j<=64*5:=dM _ Oo;omega
    refine ⟨_,rfl,tyL hfo8,_,rfl,_,rfl,?_⟩;refine pJ (by show 2<=64;decide) λq9 H9 hq9 e9 s9=>?_;refine aB8 (s9 _ _ hfo8) Oo λH10 e10 s10=>?_;have t10:=s10.t (s9 _ _ hfo8);have t910:=s9.t.trans t10;have hso10:=s10.at nsf (s9 _ _ hso8);have hla10:=s10.at nlf' (s9 _ _ hla8);have rx10:=rx8.flat t910 (fO _);have r10:=r8.flat t910 (oH _);have ren:cO H10 (DB (c,fs)) (.ref q9):=cO.tup (t10 _ _ e9) (bD.cons rx10 (bD.cons r10 bD.nil));have rfo10:bD H10 ((es2++[(c,fs)]).map DB) (vs2++[.ref q9]):=by
     rw [bM];exact bD.append (bD.cons ren bD.nil) (rfo8.flat t910 (rK _))
    have F10:=(F8.same s9).but s10 nlf;have S10:aU p H H10:=aU.thru hfo ((S'.trans s8).trans s9.but) s10;obtain ⟨f0,fr,rfl⟩:∃f0 fr,fs=f0::fr:=by
     cases fs with
     | nil=>exact absurd (ok8.len) (by rw [List.length_nil];omega)
     | cons f0 fr=>exact ⟨f0,fr,rfl⟩
    have lfr:fr.length<=4:=by have:=ok8.len;rw [cM] at this;have:=Z.w;omega
    refine ⟨_,rfl,tyL hla10,_,rfl,_,rfl,?_⟩;refine JE rx10 r10 (by rw [okc.len];omega) lfr λD ys H11 hD hD11 rD s11=>?_;refine ⟨D,rfl,⟨_,fS.of hD11⟩,?_⟩;have NX:=NT okc f0;have lnx:(nexts c f0).length<=4:=by
     unfold nexts;split
     ·exact cC _
     ·rw [aA,bK,okc.len];omega
    have rla11:=(rla8.flat t910 (gX _)).same s11;have llen:ls.length<64:=by
     by_cases h:j=M
     ·rw [hjm h];decide
     ·exact LS.few Z Oo
    refine KU rD (λd=>!decide (d∈ls)) (by rw [rD.len,aA];omega) hD11 (λx' d H' Q' hd rx' s' k'=>?_) (λx' H' Q' q=>⟨_,rfl,q⟩) (λD2 ys2 H12 hD2 e12 s12 r12=>?_)
    ·refine ⟨_,rfl,_,rfl,?_⟩;refine riT (.inl (fS.of (s' _ _ (s11 _ _ hla10)))) (rla11.same s') rx'.k ?_;exact ⟨_,rfl,k' H' (bC.refl _)⟩
    ·have s1112:=s11.trans s12;refine aAA (s1112 _ _ hla10) e12 (by rw [rla8.len,r12.len,aA,aA];have:=List.length_filter_le (λd=>!decide (d∈ls)) (nexts c f0);omega) λH13 e13 s13=>?_;have t13:=s13.t (s1112 _ _ hla10);have tt:=s1112.t.trans t13;refine ⟨_,_,vs2++[.ref q9],us++ys2,es2++[(c,f0::fr)],ls++(nexts c f0).filter (λd=>!decide (d∈ls)),rfl,(F10.same s1112).but s13 nla,aU.thru hla0 (S10.trans s1112.but) s13,s13.at nsl (s1112 _ _ hso10),s13.at (Ne.symm nlf') (s1112 _ _ e10),rfo10.flat tt (rK _),e13,?_,?_,LS.more NX,λh=>?_,(rso8.flat t910 (gX _)).flat tt (gX _),?_⟩
     ·rw [bM];exact bD.append (r12.flat t13 (gX _)) ((rla11.same s12).flat t13 (gX _))
     ·rw [List.take_succ,hci];exact RI.snoc ok8
     ·have hsum:=okc.sum;have:=st8 (bV (by rw [hsum,h]));cases (show f0=(0,1) by simpa using this);rw [hjm h]
      rfl
     ·have hle2:es.length<=es2.length:=by rw [RI.len];omega
      rw [List.drop_append_of_le_length hle2];exact tG.more (e:=(c,f0::fr)) LF
   ·rintro σ H8 ⟨o8,o9,vs2,us,es2,ls,rfl,F8,S8,hso8,hfo8,rfo8,hla8,rla8,RI,LS,hjm,_,LF⟩;rw [lys,cQ] at RI;have RT2:=RI.done RT LV2 hjM Oo hsx;have CL2:Clo F es2 ls:=by
     obtain ⟨ne,e1,e2,_⟩:=RI.ex;subst e1;rw [List.drop_left] at LF;exact CL.step hpm e2 LF
    refine ⟨_,rfl,6-(j+1),Oo,j+1,la,_,_,_,vs2,us,es2,ls,rfl,rfl,Oo,?_,λh=>Oo,λ_ h=>?_,F8.less (by rw [lys];omega),S8,hfo8,rfo8,hla8,rla8,hla0,nlf',LS,RT2,CL2⟩
    ·by_cases h:j=M
     ·exact .inr (hjm h)
     ·exact .inl Oo
    ·have:=RI.len;rw [h] at this;have h0:cs.length≠0:=λe=>hc (List.length_eq_zero_iff.mp e);simp at this;omega
 ·rintro σ H1 ⟨le,o7,o8,o9,vs,es,rfl,F1,S1,hfo1,rfo,RO⟩;refine ⟨_,rfl,fo,vs,rfl,.inl ⟨fS.of hfo1,λl hl=>?_⟩⟩;have sl:=bC.upd (o:=.tup vs) hl;have el:(upd H1 l (.tup vs)) l=some (.tup vs):=bH;generalize upd H1 l (.tup vs)=H2 at sl el;exact k _ es H2 (F1.same sl) (S1.trans sl.but) (cO.tup el (rfo.same sl)) RO
end
end Kt
namespace Kw
open PySem L2 Mf
abbrev YJ:Stmt:=(top 5)
theorem LE:bZ ["number","above_nought","divided","divisor","rest"] ["number","above_nought"] (bA YJ):=⟨rfl,rfl,rfl,Kk,rfl,Kk,Kk⟩
abbrev XV:Stmt:=(top 9)
theorem LD:bZ ["one","other","common","one_part","other_part","upper","left"] ["one","other"] (bA XV):=⟨rfl,rfl,rfl,Kk,rfl,Kk,Kk⟩
abbrev YB:Stmt:=(top 10)
theorem aDD:bZ ["one","other"] ["one","other"] (bA YB):=⟨rfl,rfl,rfl,Kk,rfl,Kk,Kk⟩
abbrev XT:Stmt:=(top 11)
theorem aAN:bZ ["one","other","first","second"] ["one","other"] (bA XT):=⟨rfl,rfl,rfl,Kk,rfl,Kk,Kk⟩
abbrev XX:Stmt:=(top 23)
theorem aDA:bZ ["counts","face"] ["counts","face"] (bA XX):=⟨rfl,rfl,rfl,Kk,rfl,Kk,Kk⟩
abbrev RQ:Stmt:=(top 24)
theorem aDz:bZ ["counts"] ["counts"] (bA RQ):=⟨rfl,rfl,rfl,Kk,rfl,Kk,Kk⟩
theorem oT.of{H H1:Hp}{Q:VK}{f:Fr}(s:bC H H1)(q:oT H Q f):oT H1 Q f:=λp H' hp e s'=>q p H' (s.free hp) e (s.trans s')
@[irreducible] def kK(K:PySem.W.Frag):Sp:=λvs H Q _=>∃x y f g,vs=[x,y]/\gL K H f x/\gL K H g y/\eM f/\eM g/\lM 4000 f/\lM 4000 g/\oT H Q (pK f g)
theorem mP{K:PySem.W.Frag}{H:Hp}{Q:VK}{E:XK}{x y:V}{f g:Fr}(h1:gL K H f x)(h2:gL K H g y)(l1:eM f)(l2:eM g)(z1:lM 4000 f)(z2:lM 4000 g)(q:oT H Q (pK f g)):kK K [x,y] H Q E:=by unfold kK;exact ⟨x,y,f,g,rfl,h1,h2,l1,l2,z1,z2,q⟩
def FK(f:Fr):Fr:=(-f.1,f.2)
theorem vW{f:Fr}(h:eM f):eM (FK f):=⟨h.pos,by show Int.gcd (-f.1) f.2=1;rw [Int.neg_gcd];exact h.low⟩
@[irreducible] def oC(K:PySem.W.Frag):Sp:=λvs H Q _=>∃x y f g,vs=[x,y]/\gL K H f x/\gL K H g y/\eM f/\eM g/\lM 4000 f/\lM 4000 g/\oT H Q (oR f (FK g))
theorem EU{K:PySem.W.Frag}{H:Hp}{Q:VK}{E:XK}{x y:V}{f g:Fr}(h1:gL K H f x)(h2:gL K H g y)(l1:eM f)(l2:eM g)(z1:lM 4000 f)(z2:lM 4000 g)(q:oT H Q (oR f (FK g))):oC K [x,y] H Q E:=by unfold oC;exact ⟨x,y,f,g,rfl,h1,h2,l1,l2,z1,z2,q⟩
theorem aDb(F:jA K "common_divisor" "common_divisor" YJ f fd)(T:kY K mg c):dZ P w K mg base dQ 1 f fd ["number","above_nought"] vH:=by
 refine F.oky LE λvs H Q E h=>?_;unfold vH at h;obtain ⟨n,d,rfl,hd,q⟩:=h;refine ⟨rfl,λcdv A outer s hr=>?_⟩;refine ⟨_,(aS (bS (i:=2) LE.nd rfl (Or.inl rfl) (aI 0))
  (aS (bS (i:=3) LE.nd rfl (Or.inl rfl) (aI 1))
  (aS (qE PassesOwn.never (eD HE (aI 3) aL (nomark _)) (aS (bS (i:=4) LE.nd rfl (Or.inl rfl) (cN oJ (aI 2) (aI 3)))
  (aS (bS (i:=2) LE.nd rfl (Or.inl rfl) (aI 3))
  (bE (bS (i:=3) LE.nd rfl (Or.inl rfl) (aI 4))))))
  (bE (cF (aI 2)))))),?_⟩
 refine ⟨_,rfl,_,rfl,?_⟩;refine uH (λm σ H'=>∃(a b:Int) (c:Option V),σ=[some (.int n),some (.int d),some (.int a),some (.int b),c]/\0<=b/\Int.gcd a b=Int.gcd n d/\(b=0->0<a)/\H'=H/\m=b.toNat)
  (λσ H'=>∃(c:Option V),σ=[some (.int n),some (.int d),some (.int (Int.gcd n d)),some (.int 0),c]/\H'=H)
  _ ⟨n,d,none,rfl,Oo,rfl,Oo,rfl,rfl⟩ ?_ ?_
 ·rintro m σ H2 ⟨a,b,c,rfl,hb,hg,h0,rfl,rfl⟩;refine ⟨_,rfl,rfl,_,rfl,?_⟩;refine aBV (λe=>?_) (λe=>?_)
  ·have hb':0<b:=by
    rcases Int.lt_or_eq_of_le hb with h | h
    ·exact h
    ·exact absurd (congrArg V.int h.symm) e
   refine ⟨_,rfl,_,rfl,_,_,rfl,rfl,hb',_,rfl,_,rfl,?_⟩;have e1:=Int.emod_lt_of_pos a hb';have e2:=Int.emod_nonneg a (b:=b) Oo;exact ⟨_,Oo,b,a % b,_,rfl,e2,by rw [CW,hg],λ_=>hb',rfl,rfl⟩
  ·have hb0:b=0:=by injection e
   subst hb0;have ha:=h0 rfl;have e1:=HV ha;rw [hg] at e1;rw [e1];exact ⟨c,rfl,rfl⟩
 ·rintro σ H2 ⟨c,rfl,rfl⟩;exact ⟨_,rfl,q⟩
theorem aCS(F:jA K "plus" "plus" XV f fd)(T:kY K mg c)
  (FQ20:gK dQ P w K mg base 1 "common_divisor" ["number","above_nought"] vH):dZ P w K mg base dQ 2 f fd ["one","other"] (lC K):=by
 refine F.oky LD λvs H Q E h=>?_;unfold lC at h;obtain ⟨x,y,⟨a,b⟩,⟨c,d⟩,rfl,h1,h2,l1,l2,z1,z2,q⟩:=h;refine ⟨rfl,λcdv A outer s hr=>?_⟩;obtain ⟨p1,rfl,e1⟩:=h1;obtain ⟨p2,rfl,e2⟩:=h2;have pb:0<b:=l1.pos;have pd:0<d:=l2.pos;obtain ⟨za,zb⟩:=z1;obtain ⟨zc,zd⟩:=z2;dsimp only at za zb zc zd e1 e2;have hG:=hZ (n:=b) pd;have zG:=wJ (n:=b) pd zd;have zb':=pT zb hG;have zd':=pT zd hG;have u1:=vB za zd';have u2:=vB zc zb';have hL:=hZ (n:=a*(d/(Int.gcd b d:Int))+c*(b/(Int.gcd b d:Int))) hG;have zL:=wJ (n:=a*(d/(Int.gcd b d:Int))+c*(b/(Int.gcd b d:Int))) hG zG;have eq:oR (a,b) (c,d)=_:=SU l1 l2;refine ⟨_,(aS (bS (i:=2) LD.nd rfl (Or.inl rfl) (bR FQ20 (hr.mono Dd) (aM (cH bU (aI 0) aL (λ_ _=>rfl)) (aM (cH bU (aI 1) aL (λ_ _=>rfl)) aG))))
  (aS (bS (i:=3) LD.nd rfl (Or.inl rfl) (cN fV (cH bU (aI 0) aL (λ_ _=>rfl)) (aI 2)))
  (aS (bS (i:=4) LD.nd rfl (Or.inl rfl) (cN fV (cH bU (aI 1) aL (λ_ _=>rfl)) (aI 2)))
  (aS (bS (i:=5) LD.nd rfl (Or.inl rfl) (cN fZ (cN fK (cH bU (aI 0) aL (λ_ _=>rfl)) (aI 4)) (cN fK (cH bU (aI 1) aL (λ_ _=>rfl)) (aI 3))))
  (aS (bS (i:=6) LD.nd rfl (Or.inl rfl) (bR FQ20 (hr.mono Dd) (aM (aI 5) (aM (aI 2) aG))))
  (bE (cF (dS (aM (cN fV (aI 5) (aI 6)) (aM (cN fK (aI 3) (cN fV (cH bU (aI 1) aL (λ_ _=>rfl)) (aI 6))) aG)))))))))),?_⟩
 refine ⟨_,rfl,?_⟩;refine mF e1 rfl ?_;refine ⟨_,rfl,?_⟩;refine mF e2 rfl ?_;refine qU pd ?_;refine ⟨_,rfl,?_⟩;refine mF e1 rfl ?_;refine ⟨_,rfl,_,_,rfl,rfl,rL hG (iU zG),?_⟩;refine ⟨_,rfl,?_⟩;refine mF e2 rfl ?_;refine ⟨_,rfl,_,_,rfl,rfl,rL hG (iU zG),?_⟩;refine ⟨_,rfl,?_⟩;refine mF e1 rfl ?_;refine ⟨_,rfl,_,_,rfl,rfl,uD za zd',?_⟩;refine ⟨_,rfl,?_⟩;refine mF e2 rfl ?_;refine ⟨_,rfl,_,_,rfl,rfl,uD zc zb',_,_,rfl,rfl,?_⟩;refine ⟨_,rfl,_,rfl,?_⟩;refine qU hG ?_;refine ⟨_,rfl,_,rfl,_,_,rfl,rfl,rL hL (iU zL),?_⟩;refine ⟨_,rfl,_,rfl,?_⟩;refine mF e2 rfl ?_;refine ⟨_,rfl,_,_,rfl,rfl,rL hL (iU zL),_,_,rfl,rfl,uD zb' (pT zd hL),?_⟩;refine pJ (by show 2<=64;decide) λp H3 hp e3 s3=>?_;refine q p H3 hp ?_ s3;rw [eq];exact e3
theorem aCO(F:jA K "times" "times" XT f fd)(T:kY K mg c)
  (FQ20:gK dQ P w K mg base 1 "common_divisor" ["number","above_nought"] vH):dZ P w K mg base dQ 2 f fd ["one","other"] (kK K):=by
 refine F.oky aAN λvs H Q E h=>?_;unfold kK at h;obtain ⟨x,y,⟨a,b⟩,⟨m,d⟩,rfl,h1,h2,l1,l2,⟨za,zb⟩,⟨zc,zd⟩,q⟩:=h;refine ⟨rfl,λcdv A outer s hr=>?_⟩;obtain ⟨p1,rfl,e1⟩:=h1;obtain ⟨p2,rfl,e2⟩:=h2;have pb:0<b:=l1.pos;have pd:0<d:=l2.pos;dsimp only at za zb zc zd e1 e2;have g1:=hZ (n:=a) pd;have g2:=hZ (n:=m) pb;have y1:=wJ (n:=a) pd zd;have y2:=wJ (n:=m) pb zb;have eq:pK (a,b) (m,d)=_:=MD l1 l2;refine ⟨_,(aS (bS (i:=2) aAN.nd rfl (Or.inl rfl) (bR FQ20 (hr.mono Dd) (aM (cH bU (aI 0) aL (λ_ _=>rfl)) (aM (cH bU (aI 1) aL (λ_ _=>rfl)) aG))))
  (aS (bS (i:=3) aAN.nd rfl (Or.inl rfl) (bR FQ20 (hr.mono Dd) (aM (cH bU (aI 1) aL (λ_ _=>rfl)) (aM (cH bU (aI 0) aL (λ_ _=>rfl)) aG))))
  (bE (cF (dS (aM (cN fK (cN fV (cH bU (aI 0) aL (λ_ _=>rfl)) (aI 2)) (cN fV (cH bU (aI 1) aL (λ_ _=>rfl)) (aI 3))) (aM (cN fK (cN fV (cH bU (aI 0) aL (λ_ _=>rfl)) (aI 3)) (cN fV (cH bU (aI 1) aL (λ_ _=>rfl)) (aI 2))) aG))))))),?_⟩
 refine ⟨_,rfl,?_⟩;refine mF e1 rfl ?_;refine ⟨_,rfl,?_⟩;refine mF e2 rfl ?_;refine qU pd ?_;refine ⟨_,rfl,?_⟩;refine mF e2 rfl ?_;refine ⟨_,rfl,?_⟩;refine mF e1 rfl ?_;refine qU pb ?_;refine ⟨_,rfl,?_⟩;refine mF e1 rfl ?_;refine ⟨_,rfl,_,_,rfl,rfl,rL g1 (iU y1),?_⟩;refine ⟨_,rfl,?_⟩;refine mF e2 rfl ?_;refine ⟨_,rfl,_,_,rfl,rfl,rL g2 (iU y2),_,_,rfl,rfl,uD (pT za g1) (pT zc g2),?_⟩;refine ⟨_,rfl,?_⟩;refine mF e1 rfl ?_;refine ⟨_,rfl,_,_,rfl,rfl,rL g2 (iU y2),?_⟩;refine ⟨_,rfl,?_⟩;refine mF e2 rfl ?_;refine ⟨_,rfl,_,_,rfl,rfl,rL g1 (iU y1),_,_,rfl,rfl,uD (pT zb g2) (pT zd g1),?_⟩;refine pJ (by show 2<=64;decide) λp H3 hp e3 s3=>?_;refine q p H3 hp ?_ s3;rw [eq];exact e3
theorem aC0(F:jA K "less" "less" YB f fd)(T:kY K mg c)
  (FQ39:gK dQ P w K mg base 2 "plus" ["one","other"] (lC K)):dZ P w K mg base dQ 3 f fd ["one","other"] (oC K):=by
 refine F.oky aDD λvs H Q E h=>?_;unfold oC at h;obtain ⟨x,y,f,g,rfl,h1,h2,l1,l2,z1,z2,q⟩:=h;refine ⟨rfl,λcdv A outer s hr=>?_⟩;obtain ⟨p2,rfl,e2⟩:=h2;refine ⟨_,(bE (cF (bR FQ39 (hr.mono Dd) (aM (aI 0) (aM (dS (aM (LU EG (cH bU (aI 1) aL (λ_ _=>rfl))) (aM (cH bU (aI 1) aL (λ_ _=>rfl)) aG))) aG))))),?_⟩;refine ⟨_,rfl,_,rfl,?_⟩;refine mF e2 rfl ?_;refine ⟨_,rfl,?_⟩;refine ⟨_,rfl,?_⟩;refine mF e2 rfl ?_;refine pJ (by show 2<=64;decide) λp H3 hp e3 s3=>?_;refine lV (gL.same s3 h1) (gL.new (f:=FK g) e3) l1 (vW l2) z1 ⟨by show (-g.1).natAbs<_;rw [Int.natAbs_neg];exact z2.1,z2.2⟩ ?_;exact q.of s3
theorem tH{N B:Nat}{f:Fr}(h:Fn N B f)(hN:0<N)(hz:N<2^3000)(hB:B<=2^500):lM 4000 f:=by
 obtain ⟨h1,h2⟩:=h.num hN;refine ⟨?_,bB h2 (aV hz (bG Dd Dd))⟩;have h3:B*N<=2^500*2^3000:=Nat.mul_le_mul hB (Nat.le_of_lt hz);have h4:(2:Nat)^500*2^3000<2^4000:=by rw [<-Nat.pow_add];exact Nat.pow_lt_pow_right Dd Dd
 omega
structure IK(fs:List Fr):Prop where
 low:∀f∈fs,eM f
 sz:∀f∈fs,lM 4000 f
 part:∀i,eM (sB (fs.take i))/\lM 4000 (sB (fs.take i))
theorem QM{N B:Nat}{fs:List Fr}(h:∀f∈fs,Fn N B f)(hN:0<N)(hz:N<2^3000)(hl:fs.length<=64)(hB:B<=2^490):IK fs:=by
 have h5:(2:Nat)^490<=2^500:=bG Dd Dd;have h6:64*(2:Nat)^490<=2^500:=by rw [show (64:Nat)=2^6 from rfl,<-Nat.pow_add];exact bG Dd Dd
 refine ⟨λf hf=>(h f hf).low,λf hf=>tH (h f hf) hN hz (aQ hB h5),λi=>?_⟩;have t:=Fn.tot (fs.take i) λf hf=>h f (List.mem_of_mem_take hf);have l:(fs.take i).length<=64:=by rw [dC];omega
 have:(fs.take i).length*B<=64*2^490:=Nat.mul_le_mul l hB;exact ⟨t.low,tH t hN hz (aQ this h6)⟩
structure aA4(K:PySem.W.Frag)(H:Hp)(fs:List Fr)(xs:List V):Prop where
 len:xs.length=fs.length
 at_:∀(i:Nat) (x:V),xs[i]?=some x->∃f,fs[i]?=some f/\gL K H f x
abbrev fW(cs:List Nat):PyData:=.tuple (cs.map λ(n:Nat)=>PyData.int (n:Int))
theorem gX:∀cs:List Nat,eP (cs.map λ(n:Nat)=>PyData.int (n:Int))=true
 | []=>rfl
 | f::fs=>by show (fD (.int f)&&eP (fs.map λ(n:Nat)=>PyData.int (n:Int)))=true;rw [gX fs];rfl
theorem fO(cs:List Nat):fD (fW cs)=true:=gX cs
def xC(K:PySem.W.Frag)(H:Hp)(f:Fr)(x:V):Prop:=cO H (iT f) x\/∃a,x=.ref a/\qB K a [f.1,f.2]=true
theorem xC.v{K:PySem.W.Frag}{H:Hp}{f:Fr}{x:V}(h:xC K H f x):gL K H f x:=by
 rcases h with h | ⟨a,e,h⟩
 ·exact gL.of h
 ·exact ⟨a,e,nQ h⟩
theorem xC.t{K:PySem.W.Frag}{H H':Hp}{f:Fr}{x:V}(s:dX H H')(h:xC K H f x):xC K H' f x:=by
 rcases h with h | h
 ·exact .inl (h.flat s (eT f))
 ·exact .inr h
theorem xC.same{K:PySem.W.Frag}{H H':Hp}{f:Fr}{x:V}(s:bC H H')(h:xC K H f x):xC K H' f x:=h.t s.t
abbrev FW(n:Nat):V:=.int (n:Int)
theorem DN{H:Hp}:∀cs:List Nat,bD H (cs.map λ(n:Nat)=>PyData.int (n:Int)) (cs.map FW)
 | []=>bD.nil
 | n::cs=>bD.cons (cO.int _) (DN cs)
theorem zI{H:Hp}:∀{cs:List Nat}{xs:List V},bD H (cs.map λ(n:Nat)=>PyData.int (n:Int)) xs->xs=cs.map FW
 | [],xs,h=>h
 | n::cs,xs,h=>by
  unfold bD at h;obtain ⟨x,xs',rfl,hx,hr⟩:=(show ∃x xs',xs=x::xs'/\cO H (PyData.int (n:Int)) x/\bD H (cs.map λ(n:Nat)=>PyData.int (n:Int)) xs' from h);rw [zI hr];cases (show x=V.int (n:Int) from hx)
  rfl
theorem qC{H:Hp}{cs:List Nat}{v:V}(h:cO H (fW cs) v):∃a,v=.ref a/\H a=some (.tup (cs.map FW)):=by
 obtain ⟨a,xs,rfl,ha,hr⟩:=EK h;rw [zI hr] at ha;exact ⟨a,rfl,ha⟩
theorem sU{H:Hp}{cs:List Nat}{a:Addr}(h:H a=some (.tup (cs.map FW))):cO H (fW cs) (.ref a):=cO.tup h (DN cs)
theorem PY{cs:List Nat}{i:Nat}(h:i<cs.length):cW cs i=cs.take i++[cs.getD i 0+1]++cs.drop (i+1):=by
 unfold cW;rw [List.set_eq_take_append_cons_drop,if_pos h,List.append_assoc]
 rfl
theorem AA{K:PySem.W.Frag}{H:Hp}{a:Addr}{xs:List V}{k:Nat}{z:Int}{Q:VK}(hz:z=(k:Int))(h:H a=some (.tup xs))(q:∀c H',bC H H'->H' c=some (.tup (xs.drop k))->Q (.ref c) H'):CG K (.ref a) (some z) none H Q:=by
 subst hz;exact MN h q
@[irreducible] def jL:Sp:=λvs H Q _=>∃(x:V) (cs:List Nat) (i:Nat),vs=[x,.int (i:Int)]/\cO H (fW cs) x/\i<cs.length/\cs.length<=64/\∀v H',bC H H'->cO H' (fW (cW cs i)) v->Q v H'
theorem xI{H:Hp}{Q:VK}{E:XK}{x:V}{cs:List Nat}{i:Nat}(h1:cO H (fW cs) x)(h2:i<cs.length)(h3:cs.length<=64)(k:∀v H',bC H H'->cO H' (fW (cW cs i)) v->Q v H'):jL [x,.int (i:Int)] H Q E:=by
 unfold jL;exact ⟨x,cs,i,rfl,h1,h2,h3,k⟩
@[irreducible] def hJ:Sp:=λvs H Q _=>∃(x:V) (cs:List Nat),vs=[x]/\cO H (fW cs) x/\cs.length<=64/\∀D ys H',H D=none->H' D=some (.lst ys)->bD H' (((List.range cs.length).map (cW cs)).map fW) ys->bC H H'->Q (.ref D) H'
theorem nX{H:Hp}{Q:VK}{E:XK}{x:V}{cs:List Nat}(h1:cO H (fW cs) x)(h3:cs.length<=64)(k:∀D ys H',H D=none->H' D=some (.lst ys)->bD H' (((List.range cs.length).map (cW cs)).map fW) ys->bC H H'->Q (.ref D) H'):hJ [x] H Q E:=by
 unfold hJ;exact ⟨x,cs,rfl,h1,h3,k⟩
section
theorem aCW(F:jA K "one_more" "one_more" XX f fd)(T:kY K mg c):dZ P w K mg base dQ 1 f fd ["counts","face"] jL:=by
 refine F.oky aDA λvs H Q E h=>?_;unfold jL at h;obtain ⟨x,cs,i,rfl,rx,hi,hl,k⟩:=h;refine ⟨rfl,λcdv A outer s hr=>?_⟩;obtain ⟨a,rfl,ha⟩:=qC rx;refine ⟨_,(bE (cF (cN (pF K) (cN (pF K) (lP (qV K) (aI 0) oW (oV (aI 1))) (dS (aM (cN fZ (cH bU (aI 0) (aI 1) (λ_ _=>rfl)) aL) aG))) (lP (qV K) (aI 0) (oV (cN fZ (aI 1) aL)) oW)))),?_⟩;refine ⟨_,rfl,_,rfl,_,rfl,?_⟩;refine EZ ha λc2 H2 s2 e2=>?_;refine ⟨_,rfl,_,rfl,?_⟩;have hat:EB (cs.map FW) (i:Int)=some (FW (cs.getD i 0)):=iB (by rw [aE,aN,aC hi];rfl);refine tU (s2 _ _ ha) hat ?_;refine ⟨_,_,rfl,rfl,?_⟩;refine pJ (by show 1<=64;decide) λc3 H3 hc3 e3 s3=>?_;refine LB (s3 _ _ e2) e3 (by rw [dC,aA];show min i cs.length+1<=1000;omega) λc4 H4 s4 e4=>?_;refine ⟨_,rfl,_,rfl,_,_,rfl,rfl,?_⟩;refine ⟨_,rfl,?_⟩;refine AA (k:=i+1) Oo (s4 _ _ (s3 _ _ (s2 _ _ ha))) λc5 H5 s5 e5=>?_;refine LB (s5 _ _ e4) e5 (by rw [bF,dC,List.length_drop,aA];show min i cs.length+1+(cs.length-(i+1))<=1000;omega) λc6 H6 s6 e6=>?_;refine k _ H6 ((((s2.trans s3).trans s4).trans s5).trans s6) (sU ?_);rw [e6,PY hi,bM,bM,List.map_take,List.map_drop]
 rfl
theorem aCV(F:jA K "ones_more" "ones_more" RQ f fd)(T:kY K mg c)(FQ35:gK dQ P w K mg base 1 "one_more" ["counts","face"] jL):dZ P w K mg base dQ 2 f fd ["counts"] hJ:=by
 refine F.oky aDz λvs H Q E h=>?_;unfold hJ at h;obtain ⟨x,cs,rfl,rx,hl,k⟩:=h;refine ⟨rfl,λcdv A outer s hr=>?_⟩;obtain ⟨a,rfl,ha⟩:=qC rx;refine ⟨_,(bE (cF (fG (eA.of (psc:=bA RQ) (N:=["counts"]) (N':=["face","counts"]) (js:=[0]) Kk rfl rfl rfl) (fT rfl T.b_range (aM (eR jU (by rfl) T.b_len Kk (aM (aI 0) aG)) aG)) (λ_ _ _ _=>eQ) (λ_ _ _ _=>(bR FQ35 (hr.mono Dd) (aM (aI 1) (aM (aI 0) aG))))))),?_⟩;refine ⟨_,rfl,?_⟩;refine rlT ha ?_;rw [aA];refine ⟨_,rfl,Oo,Oo,?_⟩;refine kI (λi y H'=>i<cs.length/\cO H' (fW (cW cs i)) y) (λi y H1 H2 s ⟨h1,h2⟩=>⟨h1,h2.flat s (fO _)⟩) Oo (λi H' Q' hi s' k'=>?_) (λD ys H4 hD hD4 s4 hy4 hr4=>?_)
 ·rw [Int.zero_add];refine ⟨_,rfl,_,rfl,?_⟩;refine xI (rx.same s') Oo hl λv H5 s5 r5=>?_;exact k' _ H5 s5 ⟨Oo,r5⟩
 ·refine k D ys H4 hD hD4 ?_ s4;refine bD.ofIdx (by rw [hy4,aA,aA,bK];omega) λi y hi=>?_;obtain ⟨h1,h2⟩:=hr4 i y hi;exact ⟨fW (cW cs i),by rw [aE,aE,bN h1];rfl,h2⟩
end
abbrev YA:Stmt:=(top 28)
theorem aDC:bZ ["says"] ["says"] (bA YA):=⟨rfl,rfl,rfl,Kk,rfl,Kk,Kk⟩
abbrev RS:Stmt:=(top 22)
theorem aDB:bZ ["faces"] ["faces"] (bA RS):=⟨rfl,rfl,rfl,Kk,rfl,Kk,Kk⟩
abbrev YI:Stmt:=(top 32)
theorem VB:bZ ["level","table","found","counts","more"] ["level","table"] (bA YI):=⟨rfl,rfl,rfl,Kk,rfl,Kk,Kk⟩
abbrev YH:Stmt:=(top 31)
theorem VA:bZ ["faces","table","found","level"] ["faces","table"] (bA YH):=⟨rfl,rfl,rfl,Kk,rfl,Kk,Kk⟩
abbrev RN:Stmt:=(top 33)
theorem aDw:bZ ["faces","table"] ["faces","table"] (bA RN):=⟨rfl,rfl,rfl,Kk,rfl,Kk,Kk⟩
def ci(c:List Nat):List Int:=c.map λ(n:Nat)=>(n:Int)
theorem iY(c:List Nat):(ci c).map V.int=c.map FW:=by unfold ci;rw [List.map_map];rfl
theorem PM(c:List Nat):(ci c).sum=(c.sum:Nat):=by
 induction c with
 | nil=>rfl
 | cons a c ih =>
  have e:ci (a::c)=(a:Int)::ci c:=rfl;rw [e,List.sum_cons,List.sum_cons,ih];omega
theorem iL:∀{a b:List Nat},ci a=ci b->a=b
 | [],[],_=>rfl
 | [],b::bs,h=>by cases h
 | a::as,[],h=>by cases h
 | a::as,b::bs,h=>by
  have h:(a:Int)::ci as=(b:Int)::ci bs:=h;injection h with h1 h2;rw [iL h2,show a=b by omega]
theorem aU.tT{H H':Hp}{p:Addr}(s:aU p H H'){kvs:List (List dP × V)}(hp:H p=some (.dT kvs)):dX H H':=λb ys h=>s.at (vX h hp (by intro z;cases z)) h
theorem UH{α:Type}{l:List α}{i:Nat}{a d:α}(h:l[i]?=some a):l.getD i d=a:=by rw [aN,h];rfl
theorem EF{fs:List Fr}{i:Nat}{f:Fr}(h:fs[i]?=some f):kZ fs i=rv f:=by unfold kZ;rw [UH h]
theorem zO{fs:List Fr}{i:Nat}(h:fs.length<=i):kZ fs i=0:=by
 unfold kZ;rw [aN,bO h];exact jY
theorem FT{α:Type}(l:List α):l.filter (λ_=>true)=l:=List.filter_eq_self.mpr λ_ _=>rfl
structure BL(K:PySem.W.Frag)(H:Hp)(fs:List Fr)(xs:List V):Prop where
 len:xs.length=fs.length
 at_:∀(i:Nat) (x:V),xs[i]?=some x->∃f,fs[i]?=some f/\xC K H f x
theorem BL.t{K:PySem.W.Frag}{H H':Hp}{fs:List Fr}{xs:List V}(s:dX H H')(h:BL K H fs xs):BL K H' fs xs:=⟨h.len,λi x e=>by
 obtain ⟨f,h1,h2⟩:=h.at_ i x e;exact ⟨f,h1,h2.t s⟩⟩
theorem BL.v{K:PySem.W.Frag}{H:Hp}{fs:List Fr}{xs:List V}(h:BL K H fs xs):aA4 K H fs xs:=⟨h.len,λi x e=>by
 obtain ⟨f,h1,h2⟩:=h.at_ i x e;exact ⟨f,h1,h2.v⟩⟩
def uG(H:Hp)(a:Addr)(cs:List (List Nat)):Prop:=∃vs,H a=some (.lst vs)/\bD H (cs.map fW) vs
theorem uV:∀cs:List (List Nat),eP (cs.map fW)=true
 | []=>rfl
 | c::cs=>by show (fD (fW c)&&eP (cs.map fW))=true;rw [uV cs,fO];rfl
theorem uG.len{H:Hp}{a:Addr}{cs:List (List Nat)}(h:uG H a cs):∃vs,H a=some (.lst vs)/\bD H (cs.map fW) vs/\vs.length=cs.length:=by
 obtain ⟨vs,h1,h2⟩:=h;exact ⟨vs,h1,h2,rA h2⟩
theorem bD.app{H:Hp}:∀{ds es:List PyData}{xs ys:List V},bD H ds xs->bD H es ys->bD H (ds++es) (xs++ys)
 | [],es,xs,ys,h1,h2=>by
  have:xs=[]:=h1;subst this;exact h2
 | d::ds,es,xs,ys,h1,h2=>by
  unfold bD at h1;obtain ⟨x,xs',rfl,hx,hr⟩:=(show ∃x xs',xs=x::xs'/\cO H d x/\bD H ds xs' from h1);exact bD.cons hx (bD.app hr h2)
theorem sP{α:Type}(g:Nat->List α)(i:Nat):(List.range (i+1)).flatMap g=(List.range i).flatMap g++g i:=by
 rw [List.range_succ,List.flatMap_append];simp
theorem KP:∀F,F<=4->∀m,m<=5->(cta F m).length<=56:=Kk
theorem LH:∀F,F<=4->∀i,i<=6->((List.range i).flatMap (cta F)).length<=400:=Kk
theorem uG.butL{H H':Hp}{x:Addr}{xs:List V}{a:Addr}{cs:List (List Nat)}(s:aU x H H')(hx:H x=some (.lst xs))(n:a≠x)(h:uG H a cs):uG H' a cs:=by
 obtain ⟨vs,h1,h2⟩:=h;exact ⟨vs,s.at n h1,h2.flat (s.t hx) (uV _)⟩
theorem dgI{H:Hp}{p b:Addr}{kvs:List (List dP × V)}{cc:List Nat}(e:H p=some (.dT kvs))(hb:H b=some (.tup (cc.map FW))):iS H p (.ref b) (dU kvs (kT (ci cc))):=.inr ⟨kvs,kT (ci cc),b,.inl e,rfl,by rw [qA,iY];exact hb,rfl⟩
theorem iO{α:Type}[DecidableEq α]:∀{l m:List α},l.Nodup->(∀x∈l,x∈m)->l.length<=m.length
 | [],m,_,_=>cC _
 | x::l,m,h,hs=>by
  rw [List.nodup_cons] at h;have hx:=hs x (aH ..);have h1:=iO (l:=l) (m:=m.erase x) h.2 λy hy=>(List.mem_erase_of_ne (λe=>by subst e;exact h.1 hy)).mpr (hs y (aF _ hy));rw [List.length_erase_of_mem hx] at h1;have:0<m.length:=List.length_pos_of_mem hx;rw [cM];omega
theorem OG{kvs:List (List dP × V)}{ks:List (List Int)}{v:V}(c:List Int)(hk:kvs.map (·.1)=ks.map kT)(nd:ks.Nodup):∃ks2:List (List Int),(iQ kvs (kT c) v).map (·.1)=ks2.map kT/\ks2.Nodup/\∀x,x∈ks2↔x∈ks\/x=c:=by
 cases e:dU kvs (kT c) with
 | some u =>
  refine ⟨ks,by rw [xR (by rw [e];rfl),hk],nd,λx=>⟨.inl,λh=>?_⟩⟩;rcases h with h | rfl
  ·exact h
  ·have:kT x∈kvs.map (·.1):=qI e;rw [hk] at this;obtain ⟨y,hy,ey⟩:=aD.mp this;rw [<-jT ey];exact hy
 | none =>
  have hn:c ∉ ks:=λh=>by
   have:kT c∈kvs.map (·.1):=by rw [hk];exact List.mem_map_of_mem h
   exact BQ e this
  refine ⟨ks++[c],by rw [vR v e,bM,bM,hk];rfl,List.nodup_append.mpr ⟨nd,by simp,λa ha b hb e=>by cases bQ.mp hb;subst e;exact hn ha⟩,λx=>by rw [dB,bQ]⟩
theorem UR:∀F,F<=4->∀m,m<=5->((cta F m).map ci).Pairwise (λa b=>hV a b=true):=Kk
theorem ctI(c:List Nat):PyData.tuple ((ci c).map .int)=fW c:=by unfold ci;rw [List.map_map];rfl
section
variable{F W M:Nat}{best:List Nat->Nat}
def lvl(F:Nat)(best:List Nat->Nat):Nat->List (List Nat)
 | 0=>[List.replicate F 0]
 | k+1=>(cta F (k+1)).filter λd=>(lvl F best k).any λc=>best c == 0&&(List.range F).any λj=>d == cW c j
theorem kA(hF:1<=F):∀k,(lvl F best k).Sublist (cta F k)
 | 0=>by unfold lvl;rw [DG F hF];exact List.Sublist.refl _
 | k+1=>by unfold lvl;exact List.filter_sublist
theorem jZ(hF:1<=F){k:Nat}{d:List Nat}:d∈lvl F best (k+1) ↔ ∃c∈lvl F best k,best c=0/\∃j,j<F/\d=cW c j:=by
 have h0:d∈lvl F best (k+1)↔d∈cta F (k+1)/\∃c∈lvl F best k,best c=0/\∃j,j<F/\d=cW c j:=by
  show d∈List.filter _ _↔_;rw [iR];simp
 rw [h0];refine ⟨λh=>h.2,λh=>⟨?_,h⟩⟩;obtain ⟨c,hc,_,j,hj,e⟩:=h;exact (PB hF).mpr ⟨c,(kA hF k).subset hc,j,hj,e⟩
def jS(F M:Nat)(best:List Nat->Nat):List (List Nat):=(List.range (M+1)).flatMap (lvl F best)
theorem wM{α:Type}{f g:Nat->List α}(h:∀k,(f k).Sublist (g k)):∀l:List Nat,(l.flatMap f).Sublist (l.flatMap g)
 | []=>List.Sublist.refl _
 | a::l=>by rw [List.flatMap_cons,List.flatMap_cons];exact (h a).append (wM h l)
theorem iV(hF:1<=F):(jS F M best).Sublist (rise F M):=wM (kA hF) _
theorem uP{c:List Nat}:c∈jS F M best ↔ ∃k,k<=M/\c∈lvl F best k:=by
 unfold jS;rw [List.mem_flatMap];constructor
 ·rintro ⟨k,hk,h⟩;exact ⟨k,by have:=cG.mp hk;omega,h⟩
 ·rintro ⟨k,hk,h⟩;exact ⟨k,cG.mpr Oo,h⟩
theorem vO(hF:1<=F)(on:∀c,best c=0->c.sum<M){c:List Nat}(hc:c∈jS F M best)(h:best c=0){j:Nat}(hj:j<F):cW c j∈jS F M best:=by
 obtain ⟨k,hk,h1⟩:=uP.mp hc;have h2:=(iA ((kA hF k).subset h1)).2;have h3:=on c h;exact uP.mpr ⟨k+1,Oo,(jZ hF).mpr ⟨c,h1,h,j,hj,rfl⟩⟩
theorem MV(hF:1<=F){d:List Nat}(hd:d∈jS F M best)(h:d≠List.replicate F 0):∃c∈jS F M best,best c=0/\∃j,j<F/\cW c j=d:=by
 obtain ⟨k,hk,h1⟩:=uP.mp hd;cases k with
 | zero=>exact absurd (bQ.mp h1) h
 | succ k =>
  obtain ⟨c,hc,hb,j,hj,e⟩:=(jZ hF).mp h1;exact ⟨c,uP.mpr ⟨k,Oo,hc⟩,hb,j,hj,e.symm⟩
theorem CC:∃r,jS F M best=List.replicate F 0::r:=by
 unfold jS;rw [List.range_succ_eq_map,List.flatMap_cons];exact ⟨_,rfl⟩
theorem uM(hF:1<=F){c:List Nat}(h:c∈jS F M best):c.length=F/\c.sum<=M:=(rB hF).mp ((iV hF).subset h)
end
def DX(K:PySem.W.Frag)(H:Hp)(fs:List Fr)(z:V):Prop:=∃sa sx,z=.ref sa/\H sa=some (.tup sx)/\BL K H fs sx
theorem DX.t{K:PySem.W.Frag}{H H':Hp}{fs:List Fr}{z:V}(s:dX H H')(h:DX K H fs z):DX K H' fs z:=by
 obtain ⟨sa,sx,h1,h2,h3⟩:=h;exact ⟨sa,sx,h1,s _ _ h2,h3.t s⟩
theorem BL.get{K:PySem.W.Frag}{H:Hp}{fs:List Fr}{xs:List V}(h:BL K H fs xs){i:Nat}{f:Fr}(e:fs[i]?=some f):∃x,xs[i]?=some x/\xC K H f x:=by
 have li:=(aK.mp e).1;have hx:xs[i]?=some (xs[i]'(by rw [h.len];exact li)):=aC (by rw [h.len];exact li);obtain ⟨g,h1,h2⟩:=h.at_ i _ hx;rw [e] at h1;cases h1;exact ⟨_,hx,h2⟩
def QT(K:PySem.W.Frag)(H:Hp)(e:cS)(x:V):Prop:=∃b cu z,x=.ref b/\H b=some (.tup [.ref cu,z])/\H cu=some (.tup (e.1.map FW))/\DX K H e.2 z
theorem QT.t{K:PySem.W.Frag}{H H':Hp}{e:cS}{x:V}(s:dX H H')(h:QT K H e x):QT K H' e x:=by
 obtain ⟨b,cu,z,h1,h2,h3,h4⟩:=h;exact ⟨b,cu,z,h1,s _ _ h2,s _ _ h3,h4.t s⟩
def uY(K:PySem.W.Frag)(H:Hp)(es:List cS)(v:V):Prop:=∃a xs,v=.ref a/\H a=some (.tup xs)/\xs.length=es.length/\∀(i:Nat) (x:V),xs[i]?=some x->∃e,es[i]?=some e/\QT K H e x
theorem uY.t{K:PySem.W.Frag}{H H':Hp}{es:List cS}{v:V}(s:dX H H')(h:uY K H es v):uY K H' es v:=by
 obtain ⟨a,xs,h1,h2,h3,h4⟩:=h;exact ⟨a,xs,h1,s _ _ h2,h3,λi x hx=>by obtain ⟨e,g1,g2⟩:=h4 i x hx;exact ⟨e,g1,g2.t s⟩⟩
@[irreducible] def kF(K:PySem.W.Frag):Sp:=λvs H Q _=>∃(z:V) (f:Fr) (fs:List Fr),vs=[z]/\DX K H (f::fs) z/\Q (.bl (decide (0<f.1))) H
theorem tM{K:PySem.W.Frag}{H:Hp}{Q:VK}{E:XK}{z:V}{f:Fr}{fs:List Fr}(h1:DX K H (f::fs) z)(k:Q (.bl (decide (0<f.1))) H):kF K [z] H Q E:=by
 unfold kF;exact ⟨z,f,fs,rfl,h1,k⟩
@[irreducible] def jD:Sp:=λvs H Q _=>∃F:Nat,vs=[.int (F:Int)]/\F<=64/\∀v H',bC H H'->cO H' (fW (List.replicate F 0)) v->Q v H'
theorem qP{H:Hp}{Q:VK}{E:XK}{F:Nat}(h:F<=64)(k:∀v H',bC H H'->cO H' (fW (List.replicate F 0)) v->Q v H'):jD [.int (F:Int)] H Q E:=by
 unfold jD;exact ⟨F,rfl,h,k⟩
structure mJ(F M:Nat)(best:List Nat->Nat)(sy:List Nat->List Fr)(R:List Nat->Prop):Prop where
 f1:1<=F
 f4:F<=4
 m5:M<=5
 on:∀c,best c=0->c.sum<M
 r:(rise F M).length<=400
 hd:∀c,R c->∃f fs,sy c=f::fs/\(0<f.1↔best c=0)
 root:R (List.replicate F 0)
 fwd:∀c,R c->best c=0->∀f,f<F->R (cW c f)
theorem mJ.lvl{F M:Nat}{best:List Nat->Nat}{sy:List Nat->List Fr}{R:List Nat->Prop}(I:mJ F M best sy R):∀(k:Nat) {c:List Nat},c∈Kw.lvl F best k->R c
 | 0,c,h=>by
  have h:c∈[List.replicate F 0]:=h;rw [bQ.mp h];exact I.root
 | k+1,c,h=>by
  obtain ⟨d,hd,h0,f,hf,rfl⟩:=(jZ I.f1).mp h;exact I.fwd d (I.lvl k hd) h0 f hf
theorem mJ.ruC{F M:Nat}{best:List Nat->Nat}{sy:List Nat->List Fr}{R:List Nat->Prop}(I:mJ F M best sy R){c:List Nat}(h:c∈Kw.jS F M best):R c:=by
 unfold Kw.jS at h;obtain ⟨k,_,hk⟩:=List.mem_flatMap.mp h;exact I.lvl k hk
def VE(K:PySem.W.Frag)(H:Hp)(d:Addr)(R:List Nat->Prop)(sy:List Nat->List Fr):Prop:=∃kvs,H d=some (.dT kvs)/\∀c,R c->∃v,dU kvs (kT (ci c))=some v/\DX K H (sy c) v
theorem VE.same{K:PySem.W.Frag}{H H':Hp}{d:Addr}{R:List Nat->Prop}{sy:List Nat->List Fr}(s:bC H H')(h:VE K H d R sy):VE K H' d R sy:=by
 obtain ⟨kvs,h1,h2⟩:=h;exact ⟨kvs,s _ _ h1,λc hc=>by obtain ⟨v,g1,g2⟩:=h2 c hc;exact ⟨v,g1,g2.t s.t⟩⟩
def AD(F M:Nat)(best:List Nat->Nat)(sy:List Nat->List Fr):List cS:=(jS F M best).map λc=>(c,sy c)
@[irreducible] def oE(K:PySem.W.Frag):Sp:=λvs H Q _=>∃(L d:Addr) (F M k:Nat) (best:List Nat->Nat) (sy:List Nat->List Fr) (R:List Nat->Prop),vs=[.ref L,.ref d]/\uG H L (lvl F best k)/\VE K H d R sy/\mJ F M best sy R/\k<=M/\∀D H',bC H H'->H D=none->uG H' D (lvl F best (k+1))->Q (.ref D) H'
theorem EW{K:PySem.W.Frag}{H:Hp}{Q:VK}{E:XK}{L d:Addr}{F M k:Nat}{best:List Nat->Nat}{sy:List Nat->List Fr}{R:List Nat->Prop}(h1:uG H L (lvl F best k))(h2:VE K H d R sy)(h3:mJ F M best sy R)(h4:k<=M)(q:∀D H',bC H H'->H D=none->uG H' D (lvl F best (k+1))->Q (.ref D) H'):oE K [.ref L,.ref d] H Q E:=by
 unfold oE;exact ⟨L,d,F,M,k,best,sy,R,rfl,h1,h2,h3,h4,q⟩
@[irreducible] def lY(K:PySem.W.Frag):Sp:=λvs H Q _=>∃(d:Addr) (F M:Nat) (best:List Nat->Nat) (sy:List Nat->List Fr) (R:List Nat->Prop),vs=[.int (F:Int),.ref d]/\VE K H d R sy/\mJ F M best sy R/\∀D H',bC H H'->H D=none->uG H' D (jS F M best)->Q (.ref D) H'
theorem vG{K:PySem.W.Frag}{H:Hp}{Q:VK}{E:XK}{d:Addr}{F M:Nat}{best:List Nat->Nat}{sy:List Nat->List Fr}{R:List Nat->Prop}(h2:VE K H d R sy)(h3:mJ F M best sy R)(q:∀D H',bC H H'->H D=none->uG H' D (jS F M best)->Q (.ref D) H'):lY K [.int (F:Int),.ref d] H Q E:=by
 unfold lY;exact ⟨d,F,M,best,sy,R,rfl,h2,h3,q⟩
@[irreducible] def nR(K:PySem.W.Frag):Sp:=λvs H Q _=>∃(d:Addr) (F M:Nat) (best:List Nat->Nat) (sy:List Nat->List Fr) (R:List Nat->Prop),vs=[.int (F:Int),.ref d]/\VE K H d R sy/\mJ F M best sy R/\∀v H',bC H H'->uY K H' (AD F M best sy) v->Q v H'
theorem EN{K:PySem.W.Frag}{H:Hp}{Q:VK}{E:XK}{d:Addr}{F M:Nat}{best:List Nat->Nat}{sy:List Nat->List Fr}{R:List Nat->Prop}(h2:VE K H d R sy)(h3:mJ F M best sy R)(q:∀v H',bC H H'->uY K H' (AD F M best sy) v->Q v H'):nR K [.int (F:Int),.ref d] H Q E:=by
 unfold nR;exact ⟨d,F,M,best,sy,R,rfl,h2,h3,q⟩
theorem uR{F M:Nat}{best:List Nat->Nat}(hF:1<=F)(on:∀c,best c=0->c.sum<M):∀j,lvl F best (M+1+j)=[]
 | 0=>by
  refine List.eq_nil_iff_forall_not_mem.mpr λd hd=>?_;obtain ⟨c,hc,h0,_⟩:=(jZ hF).mp hd;have h1:=(iA ((kA hF M).subset hc)).2;have:=on c h0;omega
 | j+1=>by
  refine List.eq_nil_iff_forall_not_mem.mpr λd hd=>?_;obtain ⟨c,hc,_⟩:=(jZ (k:=M+1+j) hF).mp hd;rw [uR hF on j] at hc;cases hc
theorem CP{F k:Nat}{best:List Nat->Nat}(hF:1<=F)(h:lvl F best k=[]):∀j,lvl F best (k+j)=[]
 | 0=>h
 | j+1=>by
  refine List.eq_nil_iff_forall_not_mem.mpr λd hd=>?_;obtain ⟨c,hc,_⟩:=(jZ (k:=k+j) hF).mp hd;rw [CP hF h j] at hc;cases hc
theorem yQ{F k:Nat}{best:List Nat->Nat}(hF:1<=F)(h:lvl F best k=[]):∀j,(List.range (k+j)).flatMap (lvl F best)=(List.range k).flatMap (lvl F best)
 | 0=>rfl
 | j+1=>by rw [<-Nat.add_assoc,sP,CP hF h j,List.append_nil,yQ hF h j]
section
theorem aCZ(F:jA K "looks_on" "looks_on" YA f fd)(T:kY K mg c):dZ P w K mg base dQ 1 f fd ["says"] (kF K):=by
 refine F.oky aDC λvs H Q E h=>?_;unfold kF at h;obtain ⟨z,f,fs,rfl,⟨sa,sx,rfl,hsa,rsx⟩,k⟩:=h;refine ⟨rfl,λcdv A outer s hr=>?_⟩;obtain ⟨y,hy,ry⟩:=rsx.get (i:=0) rfl;obtain ⟨b,rfl,hb⟩:=ry.v;refine ⟨_,(bE (cF (jR vV (cH bU (cH bU (aI 0) (oY (v:=.int 0) rfl T.g_LOOKS_ON ⟨_,rfl⟩) (λ_ _=>rfl)) aL (λ_ _=>rfl)) aL (nomark _)))),?_⟩;refine ⟨_,rfl,?_⟩;refine tU hsa (iB (j:=0) hy) ?_;refine mF hb rfl ?_;refine ⟨_,_,rfl,rfl,?_⟩;exact k
theorem aCX(F:jA K "noughts" "noughts" RS f fd)(T:kY K mg c):dZ P w K mg base dQ 1 f fd ["faces"] jD:=by
 refine F.oky aDB λvs H Q E h=>?_;unfold jD at h;obtain ⟨F,rfl,hF,k⟩:=h;refine ⟨rfl,λcdv A outer s hr=>?_⟩;refine ⟨_,(bE (cF (jC dR (by rfl) T.b_tuple Kk (aM (fG (eA.of (psc:=bA RS) (N:=["faces"]) (N':=["face"]) (js:=[]) Kk rfl rfl rfl) (fT rfl T.b_range (aM (aI 0) aG)) (λ_ _ _ _=>eQ) (λ_ _ _ _=>aL)) aG)))),?_⟩;refine ⟨_,rfl,_,rfl,Oo,Oo,?_⟩;refine kI (λi y H'=>∃n,y=.int n/\n=0) (λ_ _ _ _ _ h=>h) Oo (λi H' Q' hi s' k'=>k' _ H' (bC.refl _) ⟨0,rfl,rfl⟩) (λD ys H1 hD e1 s1 hy hr1=>?_);obtain ⟨zs,rfl,hz⟩:=uU (P:=λ_ n=>n=0) hr1;have ez:zs=List.replicate F 0:=by
  rw [aA] at hy;exact List.eq_replicate_iff.mpr ⟨Oo,λb hb=>by obtain ⟨i,h⟩:=List.mem_iff_getElem?.mp hb;exact hz i b h⟩
 subst ez;refine ⟨D,_,rfl,.inl ⟨fS.of e1,λl hl=>?_⟩⟩;refine k _ _ (s1.trans (bC.upd hl)) (sU ?_);rw [bH,List.map_replicate,List.map_replicate];rfl
theorem aDa(F:jA K "counts_behind" "counts_behind" YI f fd)(T:kY K mg c)(FQ32:gK dQ P w K mg base 1 "looks_on" ["says"] (kF K))(FQ36:gK dQ P w K mg base 2 "ones_more" ["counts"] hJ):dZ P w K mg base dQ 3 f fd ["level","table"] (oE K):=by
 refine F.oky VB λvs H Q E h=>?_;unfold oE at h;obtain ⟨L,d,F,M,kk,best,sy,R,rfl,LS,tb,I,hk,q⟩:=h;refine ⟨rfl,λcdv A outer s hr=>?_⟩;obtain ⟨ys,hL,ry,ly⟩:=LS.len;have f1:=I.f1;have f4:=I.f4;have m5:=I.m5;have key:∀(j:Nat) (d:List Int),(∃c∈(lvl F best kk).take j,best c=0/\∃f,f<F/\d=ci (cW c f))->d∈(lvl F best (kk+1)).map ci:=λj d ⟨c,hc,h0,f,hf,e⟩=>aD.mpr ⟨cW c f,(jZ f1).mpr ⟨c,List.mem_of_mem_take hc,h0,f,hf,rfl⟩,e.symm⟩;have small:(lvl F best (kk+1)).length<=56:=by
  by_cases z:kk+1<=5
  ·exact aQ (kA f1 (kk+1)).length_le (KP F f4 (kk+1) z)
  ·have e:=uR f1 I.on (kk-M);rw [show M+1+(kk-M)=kk+1 by omega] at e;rw [e];exact cC _
 refine ⟨_,(aS (bS (i:=2) VB.nd rfl (Or.inl rfl) lQ)
  (aS (gS PassesOwn.never rfl (gZ (aI 0)) (dF (i:=3) VB.nd rfl (Or.inl rfl)) (bE (gE (xD (LT (eD (ZY hr.u1) (aI 3) (aI 1) (by with_unfolding_all rfl)) (GK (lF (bR FQ32 (hr.mono Dd) (aM (gM hr.u1 (aI 1) (aI 3)) aG)))))) (bE (gS PassesOwn.never rfl (gZ (bR FQ36 (hr.mono Dd) (aM (aI 3) aG))) (dF (i:=4) VB.nd rfl (Or.inl rfl)) (bE (jW hr.u1 (aI 2) (aI 4) pM)))) dY)))
  (bE (cF (eR (UV rfl) (by rfl) T.b_sorted Kk (aM (aI 2) aG)))))),?_⟩
 intro p hp;have s1:=bC.upd (o:=.dT []) hp;have e1:(upd H p (.dT [])) p=some (.dT []):=bH;generalize upd H p (.dT [])=H1 at s1 e1 ⊢;refine ⟨_,rfl,L,rfl,⟨_,fS.of (s1 _ _ hL)⟩,?_⟩;refine iW (xs:=ys) (λj σ H'=>∃(o3 o4:Option V) (kvs:List (List dP × V)) (ks:List (List Int)),σ=[some (.ref L),some (.ref d),some (.ref p),o3,o4]/\bC H H'/\H' p=some (.dT kvs)/\kvs.map (·.1)=ks.map kT/\ks.Nodup/\∀d,d∈ks ↔ ∃c∈(lvl F best kk).take j,best c=0/\∃f,f<F/\d=ci (cW c f))
  ⟨_,_,[],[],rfl,s1,e1,rfl,List.nodup_nil,λd=>⟨(λh=>by cases h),λ⟨c,hc,_⟩=>by rw [List.take_zero] at hc;cases hc⟩⟩ (λj σ H' _ q=>?_) ?_ ?_
 ·obtain ⟨_,_,_,_,_,S',_⟩:=q;exact fS.of (S' _ _ hL)
 ·rintro j x σ H2 hx ⟨o3,o4,kvs,ks,rfl,S2,e2,hk2,nd,hm⟩;obtain ⟨cc,hc,rc⟩:=iH ry hx;obtain ⟨ac,rfl,hac⟩:=qC rc;have hcl:=aZ hc;obtain ⟨lc,sc⟩:=iA ((kA f1 kk).subset hcl);have hcr:cc∈rise F M:=(rB f1).mpr ⟨lc,Oo⟩;obtain ⟨tk,ht,hty⟩:=tb.same S2;obtain ⟨v,hv,sv⟩:=hty cc (I.lvl kk hcl);have step:∀d,(∃c∈(lvl F best kk).take (j+1),best c=0/\∃f,f<F/\d=ci (cW c f))↔(∃c∈(lvl F best kk).take j,best c=0/\∃f,f<F/\d=ci (cW c f))\/(best cc=0/\∃f,f<F/\d=ci (cW cc f)):=λd=>by
   rw [fC hc];constructor
   ·rintro ⟨c,hc',h⟩;rcases dB.mp hc' with h' | h'
    ·exact .inl ⟨c,h',h⟩
    ·rw [bQ.mp h'] at h;exact .inr h
   ·rintro (⟨c,hc',h⟩ | h)
    ·exact ⟨c,cX _ hc',h⟩
    ·exact ⟨cc,aP _ (bQ.mpr rfl),h⟩
  refine ⟨_,rfl,_,rfl,?_⟩;refine rind (dgI (cc:=cc) ht (S2 _ _ hac)) ?_;rw [hv];refine ⟨_,rfl,?_⟩;refine mU ?_;refine ⟨_,rfl,_,rfl,?_⟩;refine dgT ht (c:=ci cc) (by rw [iY];exact S2 _ _ hac) hv ?_;obtain ⟨hf0,hfs,epl,eon⟩:=I.hd cc (I.lvl kk hcl);rw [epl] at sv;refine tM sv ?_;refine ⟨_,rfl,?_⟩;refine AV (λon=>?_) (λon=>?_)
  ·have h0:best cc=0:=eon.mp on;refine ⟨_,rfl,?_⟩;refine nX (sU (S2 _ _ hac)) Oo λD zs H3 hD e3 r3 s3=>?_;refine ⟨D,rfl,⟨_,fS.of e3⟩,?_⟩;have lz:zs.length=F:=by rw [r3.len,aA,aA,bK];exact lc
   have nDp:D≠p:=λz=>by rw [z,e2] at hD;cases hD
   refine iW (xs:=zs) (λg σ H'=>∃(o4:Option V) (kvs:List (List dP × V)) (ks:List (List Int)),σ=[some (.ref L),some (.ref d),some (.ref p),some (.ref ac),o4]/\aU p H3 H'/\H' p=some (.dT kvs)/\kvs.map (·.1)=ks.map kT/\ks.Nodup/\∀d,d∈ks↔(∃c∈(lvl F best kk).take j,best c=0/\∃f,f<F/\d=ci (cW c f))\/∃f,f<g/\d=ci (cW cc f))
    ⟨_,kvs,ks,rfl,(bC.refl _).but,s3 _ _ e2,hk2,nd,λd=>by rw [hm];exact ⟨.inl,λh=>by rcases h with h | ⟨f,hf,_⟩;exact h;omega⟩⟩ (λg σ H' _ q=>?_) ?_ ?_
   ·obtain ⟨_,_,_,_,b',_⟩:=q;exact fS.of (b'.at nDp e3)
   ·rintro g z σ H4 hz ⟨o4',kv4,ks4,rfl,b4,e4,hk4,nd4,hm4⟩;have hg:g<F:=by have:=(aK.mp hz).1;omega
    obtain ⟨c2,hc2,rc2⟩:=iH r3 hz;rw [aE,bN Oo] at hc2;cases hc2;have t4:dX H3 H4:=aU.tT b4 (s3 _ _ e2);obtain ⟨a2,rfl,ha2⟩:=qC (rc2.flat t4 (fO _));have lk:ks4.length<=56:=by
     have:=iO nd4 (m:=(lvl F best (kk+1)).map ci) λd hd=>by
      rcases (hm4 d).mp hd with h | ⟨f,hf,e⟩
      ·exact key j d h
      ·exact key (j+1) d ((step d).mpr (.inr ⟨h0,f,Oo,e⟩))
     rw [aA] at this;omega
    have lkv:kv4.length=ks4.length:=by have:=congrArg List.length hk4;simpa using this
    refine ⟨_,rfl,_,rfl,?_⟩;refine dpT e4 (c:=ci (cW cc g)) (by rw [iY];exact ha2) Oo λH5 e5 b5=>?_;obtain ⟨ks2,k1,k2,k3⟩:=OG (v:=.bl true) (ci (cW cc g)) hk4 nd4;refine ⟨_,_,ks2,rfl,b4.trans b5,e5,k1,k2,λd=>?_⟩;rw [k3,hm4];constructor
    ·rintro ((h | ⟨f,hf,e⟩) | h)
     ·exact .inl h
     ·exact .inr ⟨f,Oo,e⟩
     ·exact .inr ⟨g,Oo,h⟩
    ·rintro (h | ⟨f,hf,e⟩)
     ·exact .inl (.inl h)
     ·by_cases q:f=g
      ·subst q;exact .inr e
      ·exact .inl (.inr ⟨f,Oo,e⟩)
   ·rintro σ H4 ⟨o4',kv4,ks4,rfl,b4,e4,hk4,nd4,hm4⟩;refine ⟨_,_,kv4,ks4,rfl,bC.thru hp (S2.trans s3) b4,e4,hk4,nd4,λd=>?_⟩;rw [hm4,step,lz];constructor
    ·rintro (h | h)
     ·exact .inl h
     ·exact .inr ⟨h0,h⟩
    ·rintro (h | h)
     ·exact .inl h
     ·exact .inr h.2
  ·have h0:¬best cc=0:=λz=>on (eon.mpr z);refine ⟨_,_,kvs,ks,rfl,S2,e2,hk2,nd,λd=>?_⟩;rw [hm,step];exact ⟨.inl,λh=>by rcases h with h | h;exact h;exact absurd h.1 h0⟩
 ·rintro σ H2 ⟨o3,o4,kvs,ks,rfl,S2,e2,hk2,nd,hm⟩;rw [ly,cQ] at hm;have hmem:∀d,d∈ks↔d∈(lvl F best (kk+1)).map ci:=λd=>by
   rw [hm,aD];constructor
   ·rintro ⟨c,hc,h0,f,hf,e⟩;exact ⟨cW c f,(jZ f1).mpr ⟨c,hc,h0,f,hf,rfl⟩,e.symm⟩
   ·rintro ⟨d',hd',rfl⟩;obtain ⟨c,hc,h0,f,hf,rfl⟩:=(jZ f1).mp hd';exact ⟨c,hc,h0,f,hf,rfl⟩
  have lk:ks.length<=56:=by
   have:=iO nd (m:=(lvl F best (kk+1)).map ci) λd hd=>(hmem d).mp hd;rw [aA] at this;omega
  refine ⟨_,rfl,?_⟩;refine rsrd (cs:=ks) e2 hk2 (λc hc=>?_) Oo λq8 ys8 ds H8 pm pw hq8 e8 r8 s8=>?_
  ·obtain ⟨d,hd,rfl⟩:=aD.mp ((hmem c).mp hc);obtain ⟨l1,_⟩:=iA ((kA f1 (kk+1)).subset hd);intro z;have e:(ci d).length=d.length:=by unfold ci;rw [aA]
   rw [z,List.length_nil] at e;omega
  have slex:((lvl F best (kk+1)).map ci).Pairwise λa b=>hV a b=true:=by
   by_cases z:kk+1<=5
   ·exact (UR F f4 (kk+1) z).sublist ((kA f1 (kk+1)).map ci)
   ·have e:=uR f1 I.on (kk-M);rw [show M+1+(kk-M)=kk+1 by omega] at e;rw [e];exact List.Pairwise.nil
  have eds:ds=(lvl F best (kk+1)).map ci:=rC pw slex λd=>by rw [pm.mem_iff];exact hmem d
  rw [eds,List.map_map,show (lvl F best (kk+1)).map ((λc:List Int=>PyData.tuple (c.map .int)) ∘ ci)=(lvl F best (kk+1)).map fW from dN λc _=>ctI c] at r8;exact q q8 H8 (S2.trans s8) (S2.free hq8) ⟨ys8,e8,r8⟩
theorem aC9(F:jA K "counts_come_to" "counts_come_to" YH f fd)(T:kY K mg c)(FQ34:gK dQ P w K mg base 1 "noughts" ["faces"] jD)(FQ21:gK dQ P w K mg base 3 "counts_behind" ["level","table"] (oE K)):dZ P w K mg base dQ 4 f fd ["faces","table"] (lY K):=by
 refine F.oky VA λvs H Q E h=>?_;unfold lY at h;obtain ⟨d,F,M,best,sy,R,rfl,tb,I,q⟩:=h;refine ⟨rfl,λcdv A outer s hr=>?_⟩;have f1:=I.f1;have f4:=I.f4;have m5:=I.m5;refine ⟨_,(aS (bS (i:=2) VA.nd rfl (Or.inl rfl) (fQ aG))
  (aS (bS (i:=3) VA.nd rfl (Or.inl rfl) (fQ (aM (bR FQ34 (hr.mono Dd) (aM (aI 0) aG)) aG)))
  (aS (qE PassesOwn.never (eD vV (eR jU (by rfl) T.b_len Kk (aM (aI 3) aG)) aL (nomark _)) (aS (qF (BP PySem.F.plainAttrs_list PySem.F.slot_list_extend PySem.F.type_list_extend FM (aI 2) (aM (aI 3) aG)))
  (bE (bS (i:=3) VA.nd rfl (Or.inl rfl) (bR FQ21 (hr.mono Dd) (aM (aI 3) (aM (aI 1) aG)))))))
  (bE (cF (aI 2)))))),?_⟩
 refine xP (by show 0<=64;decide) λfo H1 hfo e1 s1=>?_;refine ⟨_,rfl,?_⟩;refine qP Oo λv H2 s2 r2=>?_;refine xP (by show 1<=64;decide) λle H3 hle e3 s3=>?_;have s13:=(s1.trans s2).trans s3;have nle:le≠fo:=λz=>by subst z;rw [s2 _ _ e1] at hle;cases hle
 have small:∀i,i<=M+1->((List.range i).flatMap (lvl F best)).length<=400:=λi hi=>aQ (wM (kA f1) (List.range i)).length_le (LH F f4 i Oo);refine uH (λm σ H'=>∃(le:Addr) (vs:List V) (j:Nat),σ=[some (.int (F:Int)),some (.ref d),some (.ref fo),some (.ref le)]/\bC H H'/\H' fo=some (.lst vs)/\bD H' (((List.range j).flatMap (lvl F best)).map fW) vs/\uG H' le (lvl F best j)/\le≠fo/\j<=M+1/\m=M+1-j)
  (λσ H'=>∃(le:Addr) (vs:List V),σ=[some (.int (F:Int)),some (.ref d),some (.ref fo),some (.ref le)]/\bC H H'/\H' fo=some (.lst vs)/\bD H' ((jS F M best).map fW) vs)
  _ ⟨le,[],0,rfl,s13,s3 _ _ (s2 _ _ e1),bD.nil,⟨_,e3,bD.cons (r2.same s3) bD.nil⟩,nle,cC _,rfl⟩ ?_ ?_
 ·clear e1 s1 s2 s3 s13 e3 hle nle r2;rintro m σ H1 ⟨le,vs,j,rfl,S1,e1,r1,L1,nle,hj,rfl⟩;obtain ⟨ws,e2,r2,lw⟩:=L1.len;have lv:vs.length=((List.range j).flatMap (lvl F best)).length:=rA r1;have sj:=small j hj;refine ⟨_,rfl,?_⟩;refine rlL e2 ?_;refine ⟨_,_,rfl,rfl,_,rfl,?_⟩;by_cases hz:lvl F best j=[]
  ·have w0:ws.length=0:=by rw [lw,hz];rfl
   refine oM (cJ Oo) ⟨le,vs,rfl,S1,e1,?_⟩;have:=yQ f1 hz (M+1-j);rw [show j+(M+1-j)=M+1 by omega] at this;unfold jS;rw [this];exact r1
  ·have l0:0<(lvl F best j).length:=List.length_pos_iff.mpr hz;have hjM:j<=M:=bP λz=>hz (by
    have:=uR f1 I.on (j-(M+1))
    rwa [show M+1+(j-(M+1))=j by omega] at this)
   refine wF (bV Oo) ?_;have sj2:=small (j+1) Oo;rw [sP,bF] at sj2;refine ⟨_,rfl,tyL e1,_,rfl,?_⟩;refine aAA e1 e2 Oo λH2 e3 b3=>?_;have t3:=b3.t e1;have S2:bC H H2:=bC.thru hfo S1 b3;refine ⟨_,rfl,_,rfl,?_⟩;refine EW (L1.butL b3 e1 nle) (tb.same S2) I hjM λD H3 s3 hD L3=>?_;have nD:D≠fo:=λz=>by subst z;rw [e3] at hD;cases hD
   refine ⟨_,Oo,D,vs++ws,j+1,rfl,S2.trans s3,s3 _ _ e3,?_,L3,nD,Oo,rfl⟩;rw [sP,bM];exact bD.app ((r1.flat t3 (uV _)).same s3) ((r2.flat t3 (uV _)).same s3)
 ·rintro σ H1 ⟨le,vs,rfl,S1,e1,r1⟩;exact ⟨_,rfl,q fo H1 S1 hfo ⟨vs,e1,r1⟩⟩
theorem aCQ(F:jA K "rule_within" "rule_within" RN f fd)(T:kY K mg c)(FQ22:gK dQ P w K mg base 4 "counts_come_to" ["faces","table"] (lY K)):dZ P w K mg base dQ 5 f fd ["faces","table"] (nR K):=by
 refine F.oky aDw λvs H Q E h=>?_;unfold nR at h;obtain ⟨d,F,M,best,sy,R,rfl,tb,I,q⟩:=h;refine ⟨rfl,λcdv A outer s hr=>?_⟩;have f1:=I.f1;refine ⟨_,(bE (cF (jC dR (by rfl) T.b_tuple Kk (aM (fG (eA.of (psc:=bA RN) (N:=["faces","table"]) (N':=["counts","table"]) (js:=[1]) Kk rfl rfl rfl) (gZ (bR FQ22 (hr.mono Dd) (aM (aI 0) (aM (aI 1) aG)))) (λ_ _ _ _=>eQ) (λ_ _ _ _=>(dS (aM (aI 0) (aM (gM hr.u1 (aI 1) (aI 0)) aG))))) aG)))),?_⟩;refine ⟨_,rfl,_,rfl,?_⟩;refine vG tb I λD H1 s1 hD L1=>?_;obtain ⟨zs,e1,r1,lz⟩:=L1.len;have lr:(jS F M best).length<=400:=aQ (iV f1).length_le I.r;refine ⟨D,rfl,⟨_,fS.of e1⟩,?_⟩;refine sS (λi y H'=>∃e,(AD F M best sy)[i]?=some e/\QT K H' e y) (λi y Ha Hb s ⟨e,h1,h2⟩=>⟨e,h1,h2.t s⟩) Oo e1 (λi x H' Q' hx s' k'=>?_) (λD2 ys H2 hD2 e2 s2 hy hr2=>?_)
 ·obtain ⟨cc,hc,rx⟩:=iH r1 hx;obtain ⟨b,rfl,hb⟩:=qC (rx.same s');obtain ⟨kvs,t1,t2⟩:=tb;obtain ⟨v,ev,sv⟩:=t2 cc (I.ruC (aZ hc));refine ⟨_,rfl,_,rfl,_,rfl,?_⟩;refine dgT (s' _ _ (s1 _ _ t1)) (c:=ci cc) (by rw [iY];exact hb) ev ?_;refine pJ (by show 2<=64;decide) λq3 H3 hq3 e3 s3=>?_;exact k' _ H3 s3 ⟨(cc,sy cc),by unfold AD;rw [aE,hc];rfl,q3,b,v,rfl,e3,s3 _ _ hb,sv.t ((s1.trans s').trans s3).t⟩
 ·refine ⟨D2,ys,rfl,.inl ⟨fS.of e2,λl hl=>?_⟩⟩;have sl:=bC.upd (o:=.tup ys) hl;refine q _ _ ((s1.trans s2).trans sl) ⟨l,ys,rfl,bH,by unfold AD;rw [aA];omega,λi y hi=>?_⟩;obtain ⟨e,h1,h2⟩:=hr2 i y hi;exact ⟨e,h1,h2.t sl.t⟩
end
abbrev XU:Stmt:=(top 34)
theorem aDx:bZ ["rule"] ["rule"] (bA XU):=⟨rfl,rfl,rfl,Kk,rfl,Kk,Kk⟩
abbrev RY:Stmt:=(top 36)
theorem LG:bZ ["rule","amount_of","counts","says","onward","more"] ["rule"] (bA RY):=⟨rfl,rfl,rfl,Kk,rfl,Kk,Kk⟩
structure LJ(n:Nat)(fs:List Fr):Prop where
 len:fs.length=n
 at_:∀f∈fs,eM f/\0<=f.1/\lM 3000 f
 one:sC (fs.map rv)=1
structure pQ(F W M N B Ns:Nat)(es:List cS):Prop where
 rl:qD F es
 sum:∀e∈es,e.1.sum<=M
 sy:∀e∈es,LJ (1+W) e.2
 few:es.length<=64
 on:∀e∈es,s0 e≠0->e.1.sum<M
 fl:∀e∈es,Qn N B (bJ F es e.1)
 fs:∀e∈es,∀v,Qn N B (bJ F es e.1*kZ e.2 v)
 n0:0<N
 s1:0<Ns
 z:N*Ns^M<2^2000
 b:B<=2^100
 m:M<=6
theorem LJ.hd{n:Nat}{fs:List Fr}(h:LJ (1+n) fs):∃f r,fs=f::r/\eM f/\lM 3000 f/\0<=f.1/\kZ fs 0=rv f/\(0<f.1↔kZ fs 0≠0):=by
 cases fs with
 | nil=>have:=h.len;simp at this;omega
 | cons f r =>
  obtain ⟨h1,h2,h2z⟩:=h.at_ f (aH ..);refine ⟨f,r,rfl,h1,h2z,h2,rfl,?_⟩;have e:kZ (f::r) 0=rv f:=rfl;rw [e];constructor
  ·intro hp q;have:=fU h1 OB (by rw [q,jY]);rw [this] at hp;exact absurd hp Dd
  ·intro q;refine bP λz=>q ?_;have z1:f.1=0:=Oo;have e2:=lD h1.pos;rw [z1] at e2;have h3:=gU h1.pos;have:rv f=0:=by grind
   exact this
theorem LJ.nn{n:Nat}{fs:List Fr}(h:LJ n fs)(v:Nat):0<=kZ fs v:=by
 by_cases hv:v<fs.length
 ·have:=h.at_ _ (yN (a:=(0,1)) hv);exact WA this.1 this.2.1
 ·rw [zO Oo];exact Rat.le_refl
structure DQ(K:PySem.W.Frag)(H:Hp)(kvs:List (List dP × V))(g:List Nat->Rat):Prop where
 at_:∀d:List Nat,(dU kvs (kT (ci d))=none/\g d=0)\/∃v,dU kvs (kT (ci d))=some v/\xC K H (dL (g d)) v
theorem mG:dL 0=(0,1):=fU (bL _) OB (by rw [dG,jY])
theorem AY:dL 1=(1,1):=fU (bL _) TV (by rw [dG,FC])
theorem DQ.t{K:PySem.W.Frag}{H H':Hp}{kvs:List (List dP × V)}{g:List Nat->Rat}(s:dX H H')(h:DQ K H kvs g):DQ K H' kvs g:=⟨λd=>by
 rcases h.at_ d with h | ⟨v,h1,h2⟩
 ·exact .inl h
 ·exact .inr ⟨v,h1,h2.t s⟩⟩
theorem DQ.eq{K:PySem.W.Frag}{H:Hp}{kvs:List (List dP × V)}{g g':List Nat->Rat}(h:DQ K H kvs g)(e:∀d,g' d=g d):DQ K H kvs g':=by
 have:g'=g:=funext e;rw [this];exact h
theorem DQ.get{K:PySem.W.Frag}{H:Hp}{kvs:List (List dP × V)}{g:List Nat->Rat}(h:DQ K H kvs g)(d:List Nat){z:V}(hz:gL K H (0,1) z):gL K H (dL (g d)) ((dU kvs (kT (ci d))).getD z):=by
 rcases h.at_ d with ⟨h1,h2⟩ | ⟨v,h1,h2⟩
 ·rw [h1,h2,mG];exact hz
 ·rw [h1];exact h2.v
theorem DQ.val{K:PySem.W.Frag}{H:Hp}{kvs:List (List dP × V)}{g:List Nat->Rat}(h:DQ K H kvs g){d:List Nat}(hd:g d≠0):∃v,dU kvs (kT (ci d))=some v/\xC K H (dL (g d)) v:=by
 rcases h.at_ d with ⟨_,h2⟩ | h
 ·exact absurd h2 hd
 ·exact h
theorem DQ.put{K:PySem.W.Frag}{H:Hp}{kvs:List (List dP × V)}{g:List Nat->Rat}(h:DQ K H kvs g){c:List Nat}{v:V}{y:Rat}(r:xC K H (dL (g c+y)) v):DQ K H (iQ kvs (kT (ci c)) v) λd=>g d+if c=d then y else 0:=⟨λd=>by
 rw [nK];by_cases e:c=d
 ·subst e;rw [if_pos rfl,if_pos rfl];exact .inr ⟨v,rfl,r⟩
 ·rw [if_neg λq=>e (iL (jT q)).symm,if_neg e,show g d+0=g d by grind];exact h.at_ d⟩
theorem fA{N C:Nat}{q:Rat}(h:Qn N C q)(h0:0<N)(hN:N<2^2500)(hC:C<=2^200):lM 4000 (dL q):=tH h.fq h0 (aV hN (bG Dd Dd)) (aQ hC (bG Dd Dd))
theorem lM.up{j k:Nat}{f:Fr}(h:lM j f)(hk:j<=k):lM k f:=⟨aV h.1 (bG Dd hk),aV h.2 (bG Dd hk)⟩
section
variable{F W M N B Ns:Nat}{es:List cS}{s:List Fr}
theorem pQ.nz(R:pQ F W M N B Ns es):N<2^2500:=by
 have h1:0<Ns^M:=Nat.pow_pos R.s1;have h2:N*1<=N*Ns^M:=dM _ h1;rw [Nat.mul_one] at h2;exact bB h2 (aV R.z (bG Dd Dd))
theorem pQ.b2(R:pQ F W M N B Ns es):B<=2^200:=aQ R.b (bG Dd Dd)
theorem pQ.part(R:pQ F W M N B Ns es)(f4:F<=4):∀i,i<=es.length->∀d,Qn N (1+4*B*i) (bJ F (es.take i) d)
 | 0,_,d=>by
  rw [List.take_zero,kH,Nat.mul_zero,Nat.add_zero];split
  ·exact Qn.one' _
  ·exact Qn.zero _ _
 | i+1,hi,d=>by
  have he:=aC (show i<es.length by omega);rw [fC he,gW,R.rl.at he];have hem:=aZ he;have h1:=R.part f4 i Oo d;have h3:Qn 1 4 (fN F es[i].1 d):=by
   have:=Qn.sumR (N:=1) (B:=1) (n:=F) (f:=λf=>if cW es[i].1 f=d then 1 else 0) λf _=>by
    split
    ·exact Qn.one' _
    ·exact Qn.zero _ _
   exact this.le Oo
  have h4:=(show Qn N B (bJ F es es[i].1*s0 es[i]) from R.fs _ hem 0).mul h3;rw [Nat.mul_one] at h4;refine (h1.add h4).le ?_;rw [Nat.mul_add,Nat.mul_one,Nat.mul_comm B 4];omega
theorem pQ.bg(R:pQ F W M N B Ns es){i:Nat}(hi:i<=64):1+4*B*i+B*4<=2^200:=by
 have h1:=Nat.mul_le_mul (dM 4 R.b) hi;have h2:=dE 4 R.b;have h3:1+4*2^100*64+2^100*4<=2^200:=Kk;omega
end
@[irreducible] def gJ(K:PySem.W.Frag):Sp:=λvs H Q _=>∃(x:V) (e:cS) (es:List cS),vs=[x]/\uY K H (e::es) x/\Q (.int (e.1.length:Nat)) H
theorem nA{K:PySem.W.Frag}{H:Hp}{Q:VK}{E:XK}{x:V}{e:cS}{es:List cS}(h1:uY K H (e::es) x)(k:Q (.int (e.1.length:Nat)) H):gJ K [x] H Q E:=by
 unfold gJ;exact ⟨x,e,es,rfl,h1,k⟩
@[irreducible] def kP(K:PySem.W.Frag):Sp:=λvs H Q _=>∃(x:V) (es:List cS) (F W M N B Ns:Nat),vs=[x]/\uY K H es x/\pQ F W M N B Ns es/\1<=F/\F<=4/\∀a ys H',bC H H'->H' a=some (.tup ys)->ys.length=es.length->(∀(i:Nat) (e:cS),es[i]?=some e->∃b cu va,ys[i]?=some (.ref b)/\H' b=some (.tup [.ref cu,va])/\H' cu=some (.tup (e.1.map FW))/\xC K H' (dL (bJ F es e.1)) va)->Q (.ref a) H'
theorem zY{K:PySem.W.Frag}{H:Hp}{Q:VK}{E:XK}{x:V}{es:List cS}{F W M N B Ns:Nat}(h1:uY K H es x)(h2:pQ F W M N B Ns es)(h3:1<=F)(h4:F<=4)(k:∀a ys H',bC H H'->H' a=some (.tup ys)->ys.length=es.length->(∀(i:Nat) (e:cS),es[i]?=some e->∃b cu va,ys[i]?=some (.ref b)/\H' b=some (.tup [.ref cu,va])/\H' cu=some (.tup (e.1.map FW))/\xC K H' (dL (bJ F es e.1)) va)->Q (.ref a) H'):kP K [x] H Q E:=by
 unfold kP;exact ⟨x,es,F,W,M,N,B,Ns,rfl,h1,h2,h3,h4,k⟩
section
theorem aCR(F:jA K "rule_faces" "rule_faces" XU f fd)(T:kY K mg c):dZ P w K mg base dQ 1 f fd ["rule"] (gJ K):=by
 refine F.oky aDx λvs H Q E h=>?_;unfold gJ at h;obtain ⟨x,e,es,rfl,rx,k⟩:=h;refine ⟨rfl,λcdv A outer s hr=>?_⟩;obtain ⟨a,xs,rfl,ha,lx,rxs⟩:=rx;have hy:xs[0]?=some (xs[0]'(by rw [lx];exact Nat.succ_pos _)):=aC _;obtain ⟨e',he',b,cu,z,eb,hb,hcu,_⟩:=rxs 0 _ hy;cases (show e=e' by simpa using he');rw [eb] at hy;refine ⟨_,(bE (cF (eR jU (by rfl) T.b_len Kk (aM (cH bU (cH bU (aI 0) aL (λ_ _=>rfl)) aL (λ_ _=>rfl)) aG)))),?_⟩;refine ⟨_,rfl,?_⟩;refine tU ha (iB (j:=0) hy) ?_;refine tU hb rfl ?_;refine rlT hcu ?_;rw [aA];exact k
theorem aDf(F:jA K "amounts" "amounts" RY f fd)(T:kY K mg c)(FQ34:gK dQ P w K mg base 1 "noughts" ["faces"] jD)(FQ40:gK dQ P w K mg base 1 "rule_faces" ["rule"] (gJ K))
  (FQ32:gK dQ P w K mg base 1 "looks_on" ["says"] (kF K)) (FQ43:gK dQ P w K mg base 2 "times" ["one","other"] (kK K)) (FQ36:gK dQ P w K mg base 2 "ones_more" ["counts"] hJ) (FQ39:gK dQ P w K mg base 2 "plus" ["one","other"] (lC K)):dZ P w K mg base dQ 3 f fd ["rule"] (kP K):=by
 refine F.oky LG λvs H Q E h=>?_;unfold kP at h;obtain ⟨x,es,F,W,M,N,B,Ns,rfl,rx,RO,f1,f4,k⟩:=h;refine ⟨rfl,λcdv A outer s hr=>?_⟩;obtain ⟨a,xs,rfl,ha,lx,rxs⟩:=id rx;have RL:=RO.rl;have few:=RO.few;obtain ⟨e0,er,ees,ez0⟩:=RL.root;refine ⟨_,(aS (bS (i:=1) LG.nd rfl (Or.inr rfl) (LX hr.u1 (bR FQ34 (hr.mono Dd) (aM (bR FQ40 (hr.mono Dd) (aM (aI 0) aG)) aG)) (oY (v:=.ref c.ONE) rfl T.g_ONE rfl)))
  (aS (gS PassesOwn.never rfl (jQ (aI 0)) (nJ rfl (eF (dF (i:=2) LG.nd rfl (Or.inl rfl)) (eF (dF (i:=3) LG.nd rfl (Or.inl rfl)) lA))) (bE (gE (lF (bR FQ32 (hr.mono Dd) (aM (aI 3) aG))) (aS (bS (i:=4) LG.nd rfl (Or.inl rfl) (bR FQ43 (hr.mono Dd) (aM (gM hr.u1 (aI 1) (aI 2)) (aM (cH bU (aI 3) aL (λ_ _=>rfl)) aG))))
  (bE (gS PassesOwn.never rfl (gZ (bR FQ36 (hr.mono Dd) (aM (aI 2) aG))) (dF (i:=5) LG.nd rfl (Or.inl rfl)) (bE (jW hr.u1 (aI 1) (aI 5) (bR FQ39 (hr.mono Dd) (aM (uI hr.u1 (aI 1) (aI 5) (oY (v:=.ref c.NOUGHT) rfl T.g_NOUGHT rfl)) (aM (aI 4) aG)))))))) dY)))
  (bE (cF (jC dR (by rfl) T.b_tuple Kk (aM (fG (eA.of (psc:=bA RY) (N:=["rule","amount_of","counts","says","onward","more"]) (N':=["entry","amount_of"]) (js:=[1]) Kk rfl rfl rfl) (jQ (aI 0)) (λ_ _ _ _=>eQ) (λ_ _ _ _=>(dS (aM (cH (lE K) (aI 0) aL (λ_ _=>rfl)) (aM (gM hr.u1 (aI 1) (cH (lE K) (aI 0) aL (λ_ _=>rfl))) aG))))) aG)))))),?_⟩
 intro p hp;have s0':=bC.upd (o:=.dT []) hp;have e0p:(upd H p (.dT [])) p=some (.dT []):=bH;generalize upd H p (.dT [])=H0 at s0' e0p;refine ⟨_,rfl,?_⟩;refine nA (e:=e0) (es:=er) (by rw [<-ees];exact rx.t s0'.t) ?_;rw [ez0,cB];refine qP (F:=F) Oo λv1 H1 s1 r1=>?_;obtain ⟨cz,rfl,hcz⟩:=qC r1;refine aCK (c:=ci (List.replicate F 0)) (by rw [iY];exact hcz) (s1 _ _ e0p) λH2 e2 b2=>?_;have S2:bC H H2:=bC.thru hp (s0'.trans s1) b2;have D2:DQ K H2 [(kT (ci (List.replicate F 0)),V.ref c.ONE)] (bJ F (es.take 0)):=⟨λd=>by
  rw [List.take_zero,kH];by_cases q:d=List.replicate F 0
  ·subst q;rw [if_pos rfl];exact .inr ⟨_,by simp [dU],.inr ⟨c.ONE,rfl,by rw [AY];exact T.o_ONE⟩⟩
  ·rw [if_neg q];refine .inl ⟨?_,rfl⟩;have:¬kT (ci d)=kT (ci (List.replicate F 0)):=λz=>q (iL (jT z));have e:=nK (κ:=List dP) [] (kT (ci (List.replicate F 0))) (kT (ci d)) (V.ref c.ONE);rw [if_neg this] at e;exact e⟩
 clear b2 s0' e0p r1 hcz s1;refine ⟨_,rfl,a,rfl,⟨_,eZ.of (S2 _ _ ha)⟩,?_⟩;refine AZ (xs:=xs) (λi σ H'=>∃(o2 o3 o4 o5:Option V) (kvs:List (List dP × V)),σ=[some (.ref a),some (.ref p),o2,o3,o4,o5]/\bC H H'/\H' p=some (.dT kvs)/\kvs.length<=1+4*i/\DQ K H' kvs (bJ F (es.take i))) ⟨_,_,_,_,_,rfl,S2,e2,by simp,D2⟩ (λi σ H' _ q=>?_) ?_ ?_
 ·obtain ⟨_,_,_,_,_,_,s',_⟩:=q;exact eZ.of (s' _ _ ha)
 ·rintro i x σ H3 hx ⟨o2,o3,o4,o5,kvs,rfl,S3,e3,l3,D3⟩;obtain ⟨e,he,re⟩:=rxs i x hx;have hi:i<es.length:=(aK.mp he).1;have hee:=aZ he;have hkey:e.1∈es.map (·.1):=aD.mpr ⟨e,hee,rfl⟩;have hel:=RL.len e hee;have fat:=RL.at he;have fpos:=RL.posf hee;obtain ⟨f0,fr,ef,l0,z0,nn0,v0,on0⟩:=(RO.sy e hee).hd;have es0:s0 e=rv f0:=v0;obtain ⟨b,cu,z,rfl,hb,hcu,rz⟩:=re.t S3.t;refine ⟨b,[.ref cu,z],rfl,eZ.of hb,rfl,.ref cu,[z],rfl,z,[],rfl,rfl,?_⟩;refine ⟨_,rfl,?_⟩;refine tM (f:=f0) (fs:=fr) (by rw [<-ef];exact rz) ?_;refine ⟨_,rfl,?_⟩;refine AV (λon=>?_) (λon=>?_)
  ·have sne:s0 e≠0:=on0.mp on;obtain ⟨va,hva,fva⟩:=D3.val (d:=e.1) (by rw [fat];grind);rw [fat] at fva;refine ⟨_,rfl,_,rfl,?_⟩;refine dgT e3 (c:=ci e.1) (by rw [iY];exact hcu) hva ?_;obtain ⟨av,vs,rfl,hav,rvs⟩:=rz;rw [ef] at rvs;obtain ⟨y0,hy0,ry0⟩:=rvs.get (i:=0) rfl;refine ⟨_,rfl,?_⟩;refine tU hav (iB (j:=0) hy0) ?_;refine mP fva.v ry0.v (bL _) l0 (fA (RO.fl e hee) RO.n0 RO.nz RO.b2) (z0.up Dd) λq4 H4 hq4 e4 s4=>?_;have em:pK (dL (bJ F es e.1)) f0=dL (bJ F es e.1*s0 e):=fU (mC (bL _) l0) (bL _) (by rw [sF (bL _).pos l0.pos,dG,dG,es0]);rw [em] at e4;have qy:Qn N B (bJ F es e.1*s0 e):=RO.fs e hee 0;refine ⟨_,rfl,?_⟩;refine nX (sU (s4 _ _ hcu)) Oo λL ys H5 hL e5 ry5 s5=>?_;have S5:=(S3.trans s4).trans s5;have ly:ys.length=F:=by rw [ry5.len,aA,aA,bK,hel]
   have frv5:cO H5 (iT (dL (bJ F es e.1*s0 e))) (.ref q4):=eS (s5 _ _ e4);have e5p:H5 p=some (.dT kvs):=s5 _ _ (s4 _ _ e3);have nLp:L≠p:=λz=>by rw [z,s4 _ _ e3] at hL;cases hL
   refine ⟨L,rfl,⟨_,fS.of e5⟩,?_⟩;refine iW (xs:=ys) (λj σ H'=>∃(o5:Option V) (kvs:List (List dP × V)),σ=[some (.ref a),some (.ref p),some (.ref cu),some (.ref av),some (.ref q4),o5]/\aU p H5 H'/\H' p=some (.dT kvs)/\kvs.length<=1+4*i+j/\DQ K H' kvs λd=>bJ F (es.take i) d+bJ F es e.1*s0 e*fJ j λf=>if cW e.1 f=d then 1 else 0)
    ⟨_,kvs,rfl,(bC.refl _).but,e5p,Oo,(D3.t (s4.trans s5).t).eq λd=>by rw [eN];grind⟩ (λj σ H' _ q=>?_) ?_ ?_
   ·obtain ⟨_,_,_,b',_⟩:=q;exact fS.of (b'.at nLp e5)
   ·rintro j y σ H6 hy ⟨o5',kv6,rfl,b6,e6,l6,D6⟩;have hj:j<F:=by rw [<-ly];exact (aK.mp hy).1
    obtain ⟨m,hm,rm⟩:=iH ry5 hy;have em:m=cW e.1 j:=by
     rw [aE,bN Oo] at hm;simpa using hm.symm
    have msum:m.sum=e.1.sum+1:=by rw [em];exact jO Oo
    have mks:m∈es.map (·.1):=by rw [em];exact RL.fwd e hee sne j hj
    have mM:m.sum<=M:=by obtain ⟨e',he',rfl⟩:=aD.mp mks;exact RO.sum e' he'
    obtain ⟨cm,rfl,hcm⟩:=qC rm;have t6:dX H5 H6:=aU.tT b6 e5p;have hcm6:=t6 _ _ hcm;have hnz:gL K H6 (0,1) (.ref c.NOUGHT):=⟨c.NOUGHT,rfl,nQ T.o_NOUGHT⟩;have hg:=D6.get m hnz;have qX:Qn N (1+4*B*i+B*4) (bJ F (es.take i) m+bJ F es e.1*s0 e*fJ j λf=>if cW e.1 f=m then 1 else 0):=by
     have h3:Qn 1 4 (fJ j λf=>if cW e.1 f=m then 1 else 0):=by
      have:=Qn.sumR (N:=1) (B:=1) (n:=j) (f:=λf=>if cW e.1 f=m then 1 else 0) λf _=>by
       split
       ·exact Qn.one' _
       ·exact Qn.zero _ _
      exact this.le Oo
     have h4:=qy.mul h3;rw [Nat.mul_one] at h4;exact (RO.part f4 i Oo m).add h4
    generalize hX:bJ F (es.take i) m+bJ F es e.1*s0 e*(fJ j λf=>if cW e.1 f=m then 1 else 0)=Xm at qX hg;refine ⟨_,rfl,p,rfl,.inr ⟨kv6,.inl e6⟩,_,rfl,_,iS.ct (c:=ci m) e6 (by rw [iY];exact hcm6),?_⟩;refine ⟨_,rfl,?_⟩;refine lV hg (gL.of (frv5.flat t6 (eT _))) (bL _) (bL _) (fA qX RO.n0 RO.nz (RO.bg Oo)) (fA qy RO.n0 RO.nz RO.b2) λq7 H7 hq7 e7 s7=>?_;have ea:oR (dL Xm) (dL (bJ F es e.1*s0 e))=dL (Xm+bJ F es e.1*s0 e):=fU (rT (bL _) (bL _)) (bL _) (by rw [vN (bL _).pos (bL _).pos,dG,dG,dG]);rw [ea] at e7;refine ⟨_,rfl,_,rfl,?_⟩;have e7p:=s7 _ _ e6;refine dpT e7p (c:=ci m) (by rw [iY];exact s7 _ _ hcm6) Oo λH8 e8 b8=>?_;have t8:dX H7 H8:=aU.tT b8 e7p;refine ⟨_,_,rfl,(b6.trans s7.but).trans b8,e8,?_,?_⟩
    ·have:=fL kv6 (kT (ci m)) (V.ref q7);omega
    ·have D7:=D6.t s7.t;have D8:=(D7.put (c:=m) (v:=.ref q7) (y:=bJ F es e.1*s0 e) (by rw [hX];exact .inl (eS e7))).t t8;refine D8.eq λd=>?_;rw [dJ,<-em];by_cases q:m=d
     ·rw [if_pos q,if_pos q];grind
     ·rw [if_neg q,if_neg q];grind
   ·rintro σ H6 ⟨o5',kv6,rfl,b6,e6,l6,D6⟩;rw [ly] at l6 D6;refine ⟨_,_,_,_,kv6,rfl,bC.thru hp S5 b6,e6,Oo,D6.eq λd=>?_⟩;rw [fC he,gW,fat];rfl
  ·have z0:s0 e=0:=bP λq=>on (on0.mpr q);refine ⟨_,_,_,_,kvs,rfl,S3,e3,Oo,D3.eq λd=>?_⟩;rw [fC he,gW,z0];grind
 ·rintro σ H3 ⟨o2,o3,o4,o5,kvs,rfl,S3,e3,l3,D3⟩;rw [lx,cQ] at D3;refine ⟨_,rfl,a,rfl,⟨_,eZ.of (S3 _ _ ha)⟩,?_⟩;refine iP (λi y H'=>∃(e:cS) (b cu:Addr) (va:V),es[i]?=some e/\y=.ref b/\H' b=some (.tup [.ref cu,va])/\H' cu=some (.tup (e.1.map FW))/\xC K H' (dL (bJ F es e.1)) va) (λi y H1 H2 s ⟨e,b,cu,va,h1,h2,h3,h5,h4⟩=>⟨e,b,cu,va,h1,h2,s _ _ h3,s _ _ h5,h4.t s⟩) Oo (S3 _ _ ha) (λi x H' Q' hx s' k'=>?_) (λD ys H8 hD hD8 s8 hy8 hr8=>?_)
  ·obtain ⟨e,he,re⟩:=rxs i x hx;have hee:=aZ he;obtain ⟨b,cu,z,rfl,hb,hcu,rz⟩:=re.t (S3.trans s').t;obtain ⟨va,hva,fva⟩:=D3.val (d:=e.1) (by have:=RL.posf hee;grind);refine ⟨_,rfl,?_⟩;refine tU hb rfl ?_;refine ⟨_,rfl,_,rfl,?_⟩;refine tU hb rfl ?_;refine dgT (s' _ _ e3) (c:=ci e.1) (by rw [iY];exact hcu) hva ?_;refine pJ (by show 2<=64;decide) λq5 H5 hq5 e5 s5=>?_;exact k' _ H5 s5 ⟨e,q5,cu,va,he,rfl,e5,s5 _ _ hcu,(fva.same s').same s5⟩
  ·refine ⟨D,ys,rfl,.inl ⟨fS.of hD8,λl hl=>?_⟩⟩;have sl:=bC.upd (o:=.tup ys) hl;have el:(upd H8 l (.tup ys)) l=some (.tup ys):=bH;generalize upd H8 l (.tup ys)=H9 at sl el;refine k l ys H9 ((S3.trans s8).trans sl) el Oo λi e hi=>?_;obtain ⟨y,hy⟩:∃y,ys[i]?=some y:=⟨_,aC (by have:=(aK.mp hi).1;omega)⟩;obtain ⟨e',b,cu,va,h1,rfl,h3,h5,h4⟩:=hr8 i y hy;rw [hi] at h1;cases h1;exact ⟨b,cu,va,hy,sl _ _ h3,sl _ _ h5,h4.same sl⟩
end
theorem Qn.sumL{α:Type}{N B:Nat}{f:α->Rat}:∀{l:List α},(∀a∈l,Qn N B (f a))->Qn N (l.length*B) (dA l f)
 | [],_=>by rw [eG];exact Qn.zero _ _
 | a::l,h=>by
  rw [cR,cM,Nat.add_mul,Nat.one_mul,Nat.add_comm];exact (h a (aH ..)).add (Qn.sumL λx hx=>h x (aF _ hx))
theorem aAd(x y:Rat):pK (dL x) (dL y)=dL (x*y):=fU (mC (bL _) (bL _)) (bL _) (by rw [sF (bL _).pos (bL _).pos,dG,dG,dG])
theorem wW(x y:Rat):oR (dL x) (dL y)=dL (x+y):=fU (rT (bL _) (bL _)) (bL _) (by rw [vN (bL _).pos (bL _).pos,dG,dG,dG])
theorem XN(x y:Rat):oR (dL x) (FK (dL y))=dL (x-y):=fU (rT (bL _) (vW (bL _))) (bL _) (by
 rw [vN (bL _).pos (vW (bL _)).pos,show FK (dL y)=(-(dL y).1,(dL y).2) from rfl,YU,dG,dG,dG,Rat.sub_eq_add_neg])
section
variable{F W M N B Ns:Nat}{es fs:List cS}
theorem AE(R:qD F es)(d:List Nat):bJ F es d=(if d=List.replicate F 0 then 1 else 0)+dA es λe=>bJ F es e.1*s0 e*fN F e.1 d:=by
 have all:∀n,n<=es.length->bJ F (es.take n) d=(if d=List.replicate F 0 then 1 else 0)+dA (es.take n) λe=>bJ F es e.1*s0 e*fN F e.1 d:=λn=>by
  induction n with
  | zero=>intro _;rw [List.take_zero,kH,eG];grind
  | succ n ih =>
   intro hn;have he:=aC (show n<es.length by omega);rw [fC he,gW,R.at he,ih Oo,kC];grind
 have:=all es.length (aJ _)
 rwa [cQ] at this
theorem oI(R:qD F es){d:List Nat}(h:d ∉ es.map (·.1)):bJ F es d=0:=by
 rw [AE R d];obtain ⟨e0,r,h1,h2⟩:=R.root;rw [if_neg λq=>h (by rw [q,h1,aO,h2];exact aH ..)];rw [cT (g:=λ_=>0) λe he=>?_,gI]
 ·grind
 ·by_cases z:s0 e=0
  ·rw [z];grind
  ·have:fN F e.1 d=0:=by
    unfold fN;rw [eU (g:=λ_=>0) λf hf=>if_neg λq=>h (by rw [<-q];exact R.fwd e he z f hf),lR]
   rw [this];grind
def OC(es:List cS)(c:List Nat):Option cS:=es.find? λe=>decide (e.1=c)
theorem FP(nd:(es.map (·.1)).Nodup){e:cS}(he:e∈es):OC es e.1=some e:=by
 unfold OC
 induction es with
 | nil=>cases he
 | cons x es ih =>
  rw [aO,List.nodup_cons] at nd;rcases aT.mp he with rfl | he
  ·rw [List.find?_cons_of_pos (by simp)]
  ·have:x.1≠e.1:=λq=>nd.1 (by rw [q];exact aD.mpr ⟨e,he,rfl⟩);rw [List.find?_cons_of_neg (by simpa using this),ih nd.2 he]
theorem AR{c:List Nat}(h:c ∉ es.map (·.1)):OC es c=none:=by
 unfold OC;rw [List.find?_eq_none];intro e he q;exact h (aD.mpr ⟨e,he,by simpa using q⟩)
def xF(F:Nat)(es:List cS)(c:List Nat)(j:Nat):Rat:=((OC es c).map λe=>bJ F es c*kZ e.2 j).getD 0
theorem nH(R:qD F es){e:cS}(he:e∈es)(j:Nat):xF F es e.1 j=bJ F es e.1*kZ e.2 j:=by unfold xF;rw [FP R.nd he];rfl
theorem nG{c:List Nat}(h:c ∉ es.map (·.1))(j:Nat):xF F es c j=0:=by unfold xF;rw [AR h];rfl
theorem IZ{α:Type}{l m:List α}(h:l.Perm m)(f:α->Rat):dA l f=dA m f:=by
 induction h with
 | nil=>rfl
 | cons x _ ih=>rw [cR,cR,ih]
 | swap x y l=>rw [cR,cR,cR,cR];grind
 | trans _ _ h1 h2=>exact h1.trans h2
theorem BU{α:Type}[DecidableEq α]{f:α->Rat}:∀{l m:List α},l.Nodup->(∀x∈l,x∈m)->m.Nodup->(∀x∈m,x ∉ l->f x=0)->dA m f=dA l f
 | [],m,_,_,_,h=>by
  rw [cT (g:=λ_=>0) λx hx=>h x hx (by simp),gI,eG]
 | a::l,m,nd,hs,ndm,h=>by
  rw [List.nodup_cons] at nd;have ha:=hs a (aH ..);rw [IZ (List.perm_cons_erase ha),cR,cR];have:dA (m.erase a) f=dA l f:=BU nd.2 (λx hx=>(List.mem_erase_of_ne λq=>nd.1 (by rw [<-q];exact hx)).mpr (hs x (aF _ hx))) (ndm.erase a) λx hx hn=>h x (List.mem_of_mem_erase hx) λq=>by
   rcases aT.mp q with rfl | q
   ·exact (List.Nodup.not_mem_erase ndm) hx
   ·exact hn q
  rw [this]
theorem xY(g:List Nat->Rat):dA es (λe=>g e.1)=dA (es.map (·.1)) g:=by unfold dA;rw [List.map_map];rfl
theorem GS(R:qD F es){m:List (List Nat)}(ndm:m.Nodup)(hs:∀c∈es.map (·.1),c∈m)(q:List Nat->Rat)(j:Nat):dA es (λe=>bJ F es e.1*kZ e.2 j*q e.1)=dA m λc=>xF F es c j*q c:=by
 rw [BU (l:=es.map (·.1)) (f:=λc=>xF F es c j*q c) R.nd hs ndm λc _ hn=>by rw [nG hn];grind,<-xY];exact cT λe he=>by rw [nH R he]
theorem yP(R:qD F es){g:List Nat->Rat}(h:∀d,g d=(if d=List.replicate F 0 then 1 else 0)+dA es λe=>g e.1*s0 e*fN F e.1 d):∀(n:Nat) (d:List Nat),d.sum<=n->bJ F es d=g d:=by
 have step:∀(n:Nat) (d:List Nat),(∀e∈es,e.1.sum+1=d.sum->bJ F es e.1=g e.1)->bJ F es d=g d:=λn d hd=>by
  rw [AE R d,h d];congr 1;refine cT λe he=>?_;by_cases z:d.sum=e.1.sum+1
  ·rw [hd e he z.symm]
  ·rw [oO (R.len e he) z];grind
 intro n
 induction n with
 | zero=>intro d hd;exact step 0 d λe _ q=>Oo
 | succ n ih=>intro d hd;exact step (n+1) d λe _ q=>ih e.1 Oo
def mA(F:Nat)(es fs:List cS)(s:Rat)(c:List Nat):Rat:=s*bJ F es c+(1-s)*bJ F fs c
def mX(F:Nat)(es fs:List cS)(s:Rat)(c:List Nat)(j:Nat):Rat:=s*xF F es c j+(1-s)*xF F fs c j
noncomputable def mS (F W:Nat) (es fs:List cS) (s:Rat) (c:List Nat):List Fr:=(List.range (1+W)).map λj=>dL (mX F es fs s c j/mA F es fs s c)
open Classical in
noncomputable def mB (F:Nat) (es fs:List cS) (s:Rat) (c:List Nat):Nat:=if mX F es fs s c 0=0 then 1 else 0
def mR(F:Nat)(es fs:List cS)(s:Rat)(c:List Nat):Prop:=mA F es fs s c≠0
noncomputable def mE (F W M:Nat) (es fs:List cS) (s:Rat):List cS:=AD F M (mB F es fs s) (mS F W es fs s)
structure fE(F W M:Nat)(es fs:List cS)(s:Rat):Prop where
 ra:qD F es
 rb:qD F fs
 f1:1<=F
 f4:F<=4
 m5:M<=5
 sa:∀e∈es,LJ (1+W) e.2
 sb:∀e∈fs,LJ (1+W) e.2
 oa:∀e∈es,e.1.sum<=M/\(s0 e≠0->e.1.sum<M)
 ob:∀e∈fs,e.1.sum<=M/\(s0 e≠0->e.1.sum<M)
 s0':0<=s
 s1:s<=1
theorem LJ.sum1{n:Nat}{gs:List Fr}(h:LJ n gs):fJ n (kZ gs)=1:=by
 have:=h.one
 rwa [GP,h.len] at this
theorem GJ(R:qD F es)(hs:∀e∈es,LJ (1+W) e.2)(c:List Nat)(j:Nat):0<=xF F es c j:=by
 by_cases h:c∈es.map (·.1)
 ·obtain ⟨e,he,rfl⟩:=aD.mp h;rw [nH R he];exact cL (R.nnf _) ((hs e he).nn j)
 ·rw [nG h];exact Rat.le_refl
theorem LR(R:qD F es)(hs:∀e∈es,LJ (1+W) e.2)(c:List Nat):fJ (1+W) (xF F es c)=bJ F es c:=by
 by_cases h:c∈es.map (·.1)
 ·obtain ⟨e,he,rfl⟩:=aD.mp h;rw [eU (g:=λj=>bJ F es e.1*kZ e.2 j) λj _=>nH R he j,lS,(hs e he).sum1];grind
 ·rw [eU (g:=λ_=>0) λj _=>nG h j,lR,oI R h]
end
section
variable{F W M:Nat}{es fs:List cS}{s:Rat}
theorem fE.ann(I:fE F W M es fs s)(c:List Nat):0<=mA F es fs s c:=by
 have h1:=cL I.s0' (I.ra.nnf c);have h2:=cL (show (0:Rat)<=1-s by have:=I.s1;grind) (I.rb.nnf c);unfold mA;grind
theorem fE.xnn(I:fE F W M es fs s)(c:List Nat)(j:Nat):0<=mX F es fs s c j:=by
 have h1:=cL I.s0' (GJ I.ra I.sa c j);have h2:=cL (show (0:Rat)<=1-s by have:=I.s1;grind) (GJ I.rb I.sb c j);unfold mX;grind
theorem fE.xsum(I:fE F W M es fs s)(c:List Nat):fJ (1+W) (mX F es fs s c)=mA F es fs s c:=by
 unfold mX mA;rw [BT,lS,lS,LR I.ra I.sa,LR I.rb I.sb]
theorem fE.keyA(I:fE F W M es fs s)(hs:s≠0){c:List Nat}(h:c∈es.map (·.1)):mR F es fs s c:=by
 obtain ⟨e,he,rfl⟩:=aD.mp h;have h1:=I.ra.posf he;have h2:=cL (show (0:Rat)<=1-s by have:=I.s1;grind) (I.rb.nnf e.1);have h3:0<s:=by have:=I.s0';grind
 have h4:=Rat.mul_pos h3 h1;unfold mR mA;grind
theorem fE.keyB(I:fE F W M es fs s)(hs:s≠1){c:List Nat}(h:c∈fs.map (·.1)):mR F es fs s c:=by
 obtain ⟨e,he,rfl⟩:=aD.mp h;have h1:=I.rb.posf he;have h2:=cL I.s0' (I.ra.nnf e.1);have h3:0<1-s:=by have:=I.s1;grind
 have h4:=Rat.mul_pos h3 h1;unfold mR mA;grind
theorem fE.keys(I:fE F W M es fs s){c:List Nat}(h:mR F es fs s c):(s≠0/\c∈es.map (·.1))\/(s≠1/\c∈fs.map (·.1)):=by
 refine bP λq=>h ?_;unfold mA;have h1:s*bJ F es c=0:=by
  by_cases z:s=0
  ·rw [z];grind
  ·rw [oI I.ra λhc=>q (.inl ⟨z,hc⟩)];grind
 have h2:(1-s)*bJ F fs c=0:=by
  by_cases z:s=1
  ·rw [z];grind
  ·rw [oI I.rb λhc=>q (.inr ⟨z,hc⟩)];grind
 rw [h1,h2];grind
theorem fE.onA(I:fE F W M es fs s)(hs:s≠0){e:cS}(he:e∈es)(h0:s0 e≠0):mB F es fs s e.1=0:=by
 unfold mB;rw [if_neg];have h1:=I.ra.posf he;have h2:0<s0 e:=by have:=I.ra.nn e he;grind
 have h3:0<s:=by have:=I.s0';grind
 have h4:=Rat.mul_pos h3 (Rat.mul_pos h1 h2);have h5:=cL (show (0:Rat)<=1-s by have:=I.s1;grind) (GJ I.rb I.sb e.1 0);have e1:xF F es e.1 0=bJ F es e.1*s0 e:=nH I.ra he 0;unfold mX;rw [e1];grind
theorem fE.onB(I:fE F W M es fs s)(hs:s≠1){e:cS}(he:e∈fs)(h0:s0 e≠0):mB F es fs s e.1=0:=by
 unfold mB;rw [if_neg];have h1:=I.rb.posf he;have h2:0<s0 e:=by have:=I.rb.nn e he;grind
 have h3:0<1-s:=by have:=I.s1;grind
 have h4:=Rat.mul_pos h3 (Rat.mul_pos h1 h2);have h5:=cL I.s0' (GJ I.ra I.sa e.1 0);have e1:xF F fs e.1 0=bJ F fs e.1*s0 e:=nH I.rb he 0;unfold mX;rw [e1];grind
theorem fE.off(I:fE F W M es fs s){c:List Nat}(h:mB F es fs s c=0):(s≠0/\∃e∈es,e.1=c/\s0 e≠0)\/(s≠1/\∃e∈fs,e.1=c/\s0 e≠0):=by
 refine bP λq=>?_;have:mX F es fs s c 0=0:=by
  unfold mX;have h1:s*xF F es c 0=0:=by
   by_cases z:s=0
   ·rw [z];grind
   ·by_cases hc:c∈es.map (·.1)
    ·obtain ⟨e,he,rfl⟩:=aD.mp hc;have:s0 e=0:=bP λy=>q (.inl ⟨z,e,he,rfl,y⟩);rw [nH I.ra he,show kZ e.2 0=s0 e from rfl,this];grind
    ·rw [nG hc];grind
  have h2:(1-s)*xF F fs c 0=0:=by
   by_cases z:s=1
   ·rw [z];grind
   ·by_cases hc:c∈fs.map (·.1)
    ·obtain ⟨e,he,rfl⟩:=aD.mp hc;have:s0 e=0:=bP λy=>q (.inr ⟨z,e,he,rfl,y⟩);rw [nH I.rb he,show kZ e.2 0=s0 e from rfl,this];grind
    ·rw [nG hc];grind
  rw [h1,h2];grind
 unfold mB at h;rw [if_pos this] at h;cases h
theorem fE.vS(I:fE F W M es fs s)(c:List Nat){j:Nat}(hj:j<1+W):kZ (mS F W es fs s c) j=mX F es fs s c j/mA F es fs s c:=by
 unfold kZ mS;rw [aN,aE,bN hj];exact dG _
theorem fE.mul(I:fE F W M es fs s){c:List Nat}(h:mR F es fs s c){j:Nat}(hj:j<1+W):mA F es fs s c*kZ (mS F W es fs s c) j=mX F es fs s c j:=by
 rw [I.vS c hj,Rat.div_def];have:mA F es fs s c≠0:=h;grind
theorem fE.tg(I:fE F W M es fs s)(r:(rise F M).length<=400):mJ F M (mB F es fs s) (mS F W es fs s) (mR F es fs s) where
 f1:=I.f1
 f4:=I.f4
 m5:=I.m5
 on:=λc h=>by
  rcases I.off h with ⟨_,e,he,rfl,h0⟩ | ⟨_,e,he,rfl,h0⟩
  ·exact (I.oa e he).2 h0
  ·exact (I.ob e he).2 h0
 r:=r
 hd:=λc hc=>by
  refine ⟨dL (mX F es fs s c 0/mA F es fs s c),(List.range W).map λj=>dL (mX F es fs s c (j+1)/mA F es fs s c),?_,?_⟩
  ·unfold mS;rw [Nat.add_comm,List.range_succ_eq_map,aO,List.map_map];rfl
  ·have ha:0<mA F es fs s c:=by
    have h1:=I.ann c;have h2:mA F es fs s c≠0:=hc;grind
   have hx:=I.xnn c 0;have e:mX F es fs s c 0=mA F es fs s c*rv (dL (mX F es fs s c 0/mA F es fs s c)):=by
    rw [dG,Rat.div_def];grind
   have low:=bL (mX F es fs s c 0/mA F es fs s c);have e2:=lD low.pos;have e3:=gU low.pos;unfold mB;constructor
   ·intro hp;rw [if_neg];intro z;rw [z] at e;have h5:rv (dL (mX F es fs s c 0/mA F es fs s c))=0:=by grind
    have:=fU low OB (by rw [h5,jY]);rw [this] at hp;exact absurd hp Dd
   ·intro h;split at h
    ·cases h
    ·rename_i hn
     refine bP λq=>hn ?_;have nn:0<=rv (dL (mX F es fs s c 0/mA F es fs s c)):=by
      rw [dG,Rat.div_def];exact cL hx (Rat.le_of_lt (Rat.inv_pos.mpr ha))
     have hp0:0<=(dL (mX F es fs s c 0/mA F es fs s c)).1:=by
      have:0<=(mX F es fs s c 0/mA F es fs s c).num:=Rat.num_nonneg.mpr (by rw [<-dG (mX F es fs s c 0/mA F es fs s c)];exact nn);exact this
     have z1:(dL (mX F es fs s c 0/mA F es fs s c)).1=0:=Oo;rw [z1] at e2;have:rv (dL (mX F es fs s c 0/mA F es fs s c))=0:=by grind
     rw [e,this];grind
 root:=by
  obtain ⟨e0,r0,h1,h2⟩:=I.ra.root;obtain ⟨g0,q0,h3,h4⟩:=I.rb.root;by_cases z:s=0
  ·exact I.keyB (by rw [z];decide) (by rw [h3,aO,h4];exact aH ..)
  ·exact I.keyA z (by rw [h1,aO,h2];exact aH ..)
 fwd:=λc hc h0 f hf=>by
  rcases I.off h0 with ⟨z,e,he,rfl,hs⟩ | ⟨z,e,he,rfl,hs⟩
  ·exact I.keyA z (I.ra.fwd e he hs f hf)
  ·exact I.keyB z (I.rb.fwd e he hs f hf)
end
section
variable{F W M N B Ns Ds:Nat}{es fs:List cS}{s:Rat}
theorem fE.s0m(I:fE F W M es fs s)(c:List Nat):s0 (c,mS F W es fs s c)=mX F es fs s c 0/mA F es fs s c:=I.vS c Oo
theorem fE.onm(I:fE F W M es fs s){c:List Nat}(h:mR F es fs s c):s0 (c,mS F W es fs s c)≠0↔mB F es fs s c=0:=by
 have e:=I.mul h (j:=0) Oo;have e:mA F es fs s c*s0 (c,mS F W es fs s c)=mX F es fs s c 0:=e;have hA:mA F es fs s c≠0:=h;unfold mB;constructor
 ·intro hn;rw [if_neg];intro z;rw [z] at e;exact hn (by grind)
 ·intro hb z;rw [z] at e;rw [if_pos (by grind)] at hb;cases hb
theorem fE.all(I:fE F W M es fs s)(T:mJ F M (mB F es fs s) (mS F W es fs s) (mR F es fs s)):∀(n:Nat) {c:List Nat},c.sum<=n->mR F es fs s c->c∈jS F M (mB F es fs s):=by
 have step:∀(n:Nat) {c:List Nat},(∀d:List Nat,d.sum+1=c.sum->mR F es fs s d->d∈jS F M (mB F es fs s))->mR F es fs s c->c∈jS F M (mB F es fs s):=λn c ih hc=>by
  by_cases z:c=List.replicate F 0
  ·obtain ⟨r,hr⟩:=CC (F:=F) (M:=M) (best:=mB F es fs s);rw [z,hr];exact aH ..
  ·rcases I.keys hc with ⟨hs,hk⟩ | ⟨hs,hk⟩
   ·obtain ⟨e,he,h0,f,hf,rfl⟩:=I.ra.bwd c hk z;have hl:=I.ra.len e he;have hd:=ih e.1 (by rw [jO Oo]) (I.keyA hs (aD.mpr ⟨e,he,rfl⟩));exact vO I.f1 T.on hd (I.onA hs he h0) hf
   ·obtain ⟨e,he,h0,f,hf,rfl⟩:=I.rb.bwd c hk z;have hl:=I.rb.len e he;have hd:=ih e.1 (by rw [jO Oo]) (I.keyB hs (aD.mpr ⟨e,he,rfl⟩));exact vO I.f1 T.on hd (I.onB hs he h0) hf
 intro n
 induction n with
 | zero=>intro c hc h;exact step 0 (λd q=>Oo) h
 | succ n ih=>intro c hc h;exact step (n+1) (λd q hd=>ih Oo hd) h
theorem pZ:(mE F W M es fs s).map (·.1)=jS F M (mB F es fs s):=by unfold mE AD;rw [List.map_map];exact List.map_id' _
theorem fE.mem(I:fE F W M es fs s)(T:mJ F M (mB F es fs s) (mS F W es fs s) (mR F es fs s)){c:List Nat}:c∈(mE F W M es fs s).map (·.1)↔mR F es fs s c:=by
 rw [pZ];exact ⟨T.ruC,I.all T _ (aJ _)⟩
theorem fE.ent(I:fE F W M es fs s){e:cS}(he:e∈mE F W M es fs s):e=(e.1,mS F W es fs s e.1):=by
 obtain ⟨c,_,rfl⟩:=aD.mp he
 rfl
theorem fE.rl(I:fE F W M es fs s)(T:mJ F M (mB F es fs s) (mS F W es fs s) (mR F es fs s)):qD F (mE F W M es fs s) where
 root:=by
  obtain ⟨r,hr⟩:=CC (F:=F) (M:=M) (best:=mB F es fs s);exact ⟨_,_,by unfold mE AD;rw [hr,aO],rfl⟩
 len:=λe he=>by
  obtain ⟨c,hc,rfl⟩:=aD.mp he;exact (uM I.f1 hc).1
 nd:=by rw [pZ];exact (AF F I.f4 M I.m5).sublist (iV I.f1)
 srt:=by
  unfold mE AD;rw [List.pairwise_map];exact (tN F M).sublist (iV I.f1)
 fwd:=λe he h0 f hf=>by
  obtain ⟨c,hc,rfl⟩:=aD.mp he;rw [pZ];exact vO I.f1 T.on hc ((I.onm (T.ruC hc)).mp h0) hf
 bwd:=λd hd hn=>by
  rw [pZ] at hd;obtain ⟨c,hc,hb,j,hj,e⟩:=MV I.f1 hd hn;exact ⟨(c,mS F W es fs s c),aD.mpr ⟨c,hc,rfl⟩,(I.onm (T.ruC hc)).mpr hb,j,hj,e⟩
 nn:=λe he=>by
  obtain ⟨c,hc,rfl⟩:=aD.mp he;rw [I.s0m,Rat.div_def];have ha:0<mA F es fs s c:=by
   have h1:=I.ann c;have h2:mA F es fs s c≠0:=T.ruC hc;grind
  exact cL (I.xnn c 0) (Rat.le_of_lt (Rat.inv_pos.mpr ha))
theorem fE.flow(I:fE F W M es fs s)(T:mJ F M (mB F es fs s) (mS F W es fs s) (mR F es fs s))(d:List Nat):bJ F (mE F W M es fs s) d=mA F es fs s d:=by
 refine yP (I.rl T) (λd=>?_) _ d (aJ _);have nd:(jS F M (mB F es fs s)).Nodup:=(AF F I.f4 M I.m5).sublist (iV I.f1);have e1:dA (mE F W M es fs s) (λe=>mA F es fs s e.1*s0 e*fN F e.1 d)=dA (jS F M (mB F es fs s)) λc=>mX F es fs s c 0*fN F c d:=by
  rw [<-pZ (W:=W),<-xY (es:=mE F W M es fs s) λc=>mX F es fs s c 0*fN F c d];refine cT λe he=>?_;have hR:=(I.mem T).mp (aD.mpr ⟨e,he,rfl⟩);have:=I.mul hR (j:=0) Oo;rw [I.ent he];show mA F es fs s e.1*kZ (mS F W es fs s e.1) 0*fN F e.1 d=_;rw [this]
 rw [e1];have e2:dA (jS F M (mB F es fs s)) (λc=>mX F es fs s c 0*fN F c d)=s*dA (jS F M (mB F es fs s)) (λc=>xF F es c 0*fN F c d)+(1-s)*dA (jS F M (mB F es fs s)) (λc=>xF F fs c 0*fN F c d):=by
  rw [<-nN,<-nN,<-vD];exact cT λc _=>by unfold mX;grind
 rw [e2];have ea:s*dA (jS F M (mB F es fs s)) (λc=>xF F es c 0*fN F c d)=s*(bJ F es d-if d=List.replicate F 0 then 1 else 0):=by
  by_cases z:s=0
  ·rw [z];grind
  ·have h:=GS I.ra nd (λc hc=>I.all T _ (aJ _) (I.keyA z hc)) (λc=>fN F c d) 0;have h2:=AE I.ra d;rw [<-h,h2];have:dA es (λe=>bJ F es e.1*kZ e.2 0*fN F e.1 d)=dA es λe=>bJ F es e.1*s0 e*fN F e.1 d:=rfl;rw [this];grind
 have eb:(1-s)*dA (jS F M (mB F es fs s)) (λc=>xF F fs c 0*fN F c d)=(1-s)*(bJ F fs d-if d=List.replicate F 0 then 1 else 0):=by
  by_cases z:s=1
  ·rw [z];grind
  ·have h:=GS I.rb nd (λc hc=>I.all T _ (aJ _) (I.keyB z hc)) (λc=>fN F c d) 0;have h2:=AE I.rb d;rw [<-h,h2];have:dA fs (λe=>bJ F fs e.1*kZ e.2 0*fN F e.1 d)=dA fs λe=>bJ F fs e.1*s0 e*fN F e.1 d:=rfl;rw [this];grind
 rw [ea,eb];unfold mA;grind
theorem MZ{P C:Nat}{x y:Rat}(hx:Qn P C x)(hy:Qn P C y)(hp:0<P)(h0:0<=x)(hxy:x<=y)(hy0:0<y)(hz:C*P<2^3000):lM 3000 (dL (x/y)):=by
 obtain ⟨X,eX,bX⟩:=hx;obtain ⟨Y,eY,bY⟩:=hy;have pp:(0:Rat)<(P:Rat):=by exact_mod_cast hp
 have Yp:0<Y:=by
  have:(0:Rat)<(Y:Rat):=by rw [<-eY];exact Rat.mul_pos hy0 pp
  exact_mod_cast this
 have X0:0<=X:=by
  have:(0:Rat)<=(X:Rat):=by rw [<-eX];exact cL h0 (Rat.le_of_lt pp)
  exact_mod_cast this
 have XY:X<=Y:=by
  have:(X:Rat)<=(Y:Rat):=by rw [<-eX,<-eY];exact Rat.mul_le_mul_of_nonneg_right hxy (Rat.le_of_lt pp)
  exact_mod_cast this
 have f:Fn Y.toNat 1 (dL (x/y)):=by
  refine Qn.fq ⟨X,?_,Oo⟩;have e1:((Y.toNat:Nat):Rat)=(Y:Rat):=by
   have:((Y.toNat:Nat):Int)=Y:=Oo;rw [<-kR,this]
  rw [e1,<-eX,<-eY,Rat.div_def];grind
 obtain ⟨h1,h2⟩:=f.num Oo;exact ⟨Oo,Oo⟩
theorem fE.ru(I:fE F W M es fs s)(T:mJ F M (mB F es fs s) (mS F W es fs s) (mR F es fs s))(RA:pQ F W M N B Ns es)(RB:pQ F W M N B Ns fs)(hs:Qn Ds 1 s)(ds:0<Ds)(few:(rise F M).length<=64)(hz:Ds*N*Ns^M<2^2000)(hb:2*B<=2^100):pQ F W M (Ds*N) (2*B) Ns (mE F W M es fs s):=by
 have hs':Qn Ds 1 (1-s):=by
  obtain ⟨X,eX,bX⟩:=hs;have dp:(0:Rat)<(Ds:Rat):=by exact_mod_cast ds
  have X0:0<=X:=by
   have:(0:Rat)<=(X:Rat):=by rw [<-eX];exact cL I.s0' (Rat.le_of_lt dp)
   exact_mod_cast this
  refine ⟨(Ds:Int)-X,?_,Oo⟩;rw [Rat.intCast_sub,kR,<-eX];grind
 have qa:∀{es:List cS},pQ F W M N B Ns es->∀c,Qn N B (bJ F es c):=λR c=>by
  rename_i es'
  by_cases h:c∈es'.map (·.1)
  ·obtain ⟨e,he,rfl⟩:=aD.mp h;exact R.fl e he
  ·rw [oI R.rl h];exact Qn.zero _ _
 have qx:∀{es:List cS},pQ F W M N B Ns es->∀c j,Qn N B (xF F es c j):=λR c j=>by
  rename_i es'
  by_cases h:c∈es'.map (·.1)
  ·obtain ⟨e,he,rfl⟩:=aD.mp h;rw [nH R.rl he];exact R.fs e he j
  ·rw [nG h];exact Qn.zero _ _
 have mq:∀c,Qn (Ds*N) (2*B) (mA F es fs s c):=λc=>((hs.mul (qa RA c)).add (hs'.mul (qa RB c))).le Oo;have xq:∀c j,Qn (Ds*N) (2*B) (mX F es fs s c j):=λc j=>((hs.mul (qx RA c j)).add (hs'.mul (qx RB c j))).le Oo;have n0:0<Ds*N:=Nat.mul_pos ds RA.n0;have nz:2*B*(Ds*N)<2^3000:=by
  have h1:Ds*N*1<=Ds*N*Ns^M:=dM _ (Nat.pow_pos RA.s1);rw [Nat.mul_one] at h1;have h2:=Nat.mul_le_mul hb (Nat.le_of_lt (bB h1 hz));have h3:2^100*2^2000<2^3000:=Kk;omega
 have inv:∀e∈mE F W M es fs s,mR F es fs s e.1:=λe he=>(I.mem T).mp (aD.mpr ⟨e,he,rfl⟩);have apos:∀c,mR F es fs s c->0<mA F es fs s c:=λc h=>by
  have h1:=I.ann c;have h2:mA F es fs s c≠0:=h;grind
 refine ⟨I.rl T,λe he=>?_,λe he=>?_,?_,λe he h0=>?_,λe he=>?_,λe he v=>?_,n0,RA.s1,hz,hb,RA.m⟩
 ·obtain ⟨c,hc,rfl⟩:=aD.mp he;exact (uM I.f1 hc).2
 ·have hR:=inv e he;rw [show e.2=mS F W es fs s e.1 from congrArg Prod.snd (I.ent he)];have xle:∀j,j<1+W->mX F es fs s e.1 j<=mA F es fs s e.1:=λj hj=>by
   rw [<-I.xsum e.1];have h1:=vC (mX F es fs s e.1) hj;have h2:0<=fJ (1+W) (λi=>if i=j then 0 else mX F es fs s e.1 i):=zU λi _=>by
    split
    ·exact Rat.le_refl
    ·exact I.xnn _ _
   grind
  refine ⟨by unfold mS;rw [aA,bK],λf hf=>?_,?_⟩
  ·obtain ⟨j,hj,rfl⟩:=aD.mp hf;have hj:=cG.mp hj;refine ⟨bL _,?_,MZ (xq _ _) (mq _) n0 (I.xnn _ _) (xle j hj) (apos _ hR) nz⟩;have:0<=mX F es fs s e.1 j/mA F es fs s e.1:=by
    rw [Rat.div_def];exact cL (I.xnn _ _) (Rat.le_of_lt (Rat.inv_pos.mpr (apos _ hR)))
   exact Rat.num_nonneg.mpr this
  ·rw [GP,show (mS F W es fs s e.1).length=1+W by unfold mS;rw [aA,bK]];rw [eU (g:=λj=>(mA F es fs s e.1)⁻¹*mX F es fs s e.1 j) λj hj=>by rw [I.vS _ hj,Rat.div_def];grind,lS,I.xsum];have:=apos _ hR;grind
 ·unfold mE AD;rw [aA];exact aQ (iV I.f1).length_le few
 ·have:=(I.onm (inv e he)).mp (by rw [<-I.ent he];exact h0);exact T.on e.1 this
 ·rw [I.flow T];exact mq _
 ·rw [I.flow T];by_cases hv:v<1+W
  ·rw [show e.2=mS F W es fs s e.1 from congrArg Prod.snd (I.ent he),I.mul (inv e he) hv];exact xq _ _
  ·rw [show kZ e.2 v=0 from zO (by rw [show e.2=mS F W es fs s e.1 from congrArg Prod.snd (I.ent he)];unfold mS;rw [aA,bK];omega)];rw [show mA F es fs s e.1*0=0 by grind];exact Qn.zero _ _
end
abbrev XW:Stmt:=(top 12)
theorem aDy:bZ ["one","other"] ["one","other"] (bA XW):=⟨rfl,rfl,rfl,Kk,rfl,Kk,Kk⟩
abbrev RP:Stmt:=(top 39)
theorem PQ:bZ ["rule","share","parts","entry","amount","part"] ["rule","share"] (bA RP):=⟨rfl,rfl,rfl,Kk,rfl,Kk,Kk⟩
@[irreducible] def nV(K:PySem.W.Frag):Sp:=λvs H Q _=>∃(x y:V) (p q:Rat),vs=[x,y]/\gL K H (dL p) x/\gL K H (dL q) y/\0<q/\lM 4000 (dL p)/\lM 4000 (dL q)/\oT H Q (dL (p/q))
theorem vF{K:PySem.W.Frag}{H:Hp}{Q:VK}{E:XK}{x y:V}{p q:Rat}(h1:gL K H (dL p) x)(h2:gL K H (dL q) y)(h3:0<q)(z1:lM 4000 (dL p))(z2:lM 4000 (dL q))(k:oT H Q (dL (p/q))):nV K [x,y] H Q E:=by unfold nV;exact ⟨x,y,p,q,rfl,h1,h2,h3,z1,z2,k⟩
theorem aBf{q:Rat}(h:0<q):0<(dL q).1/\eM ((dL q).2,(dL q).1)/\rv ((dL q).2,(dL q).1)=q⁻¹:=by
 have low:=bL q;have hp:0<(dL q).1:=by
  have e1:=lD low.pos;rw [dG] at e1;have:(0:Rat)<(((dL q).1:Int):Rat):=by rw [<-e1];exact Rat.mul_pos h (FR low.pos)
  exact_mod_cast this
 have l2:eM ((dL q).2,(dL q).1):=⟨hp,by show Int.gcd (dL q).2 (dL q).1=1;rw [Int.gcd_comm];exact low.low⟩;refine ⟨hp,l2,?_⟩;have e1:=lD low.pos;rw [dG] at e1;have e2:=lD l2.pos;have e2:rv ((dL q).2,(dL q).1)*(((dL q).1:Int):Rat)=(((dL q).2:Int):Rat):=e2;have n1:=gU low.pos;have n2:=gU hp;grind
def mK(H:Hp)(q:Rat)(xs:List Rat)(v:V):Prop:=∃b pv L vs,v=.ref b/\H b=some (.tup [pv,.ref L])/\cO H (iT (dL q)) pv/\H L=some (.lst vs)/\bD H (xs.map λx=>iT (dL x)) vs
theorem KJ(xs:List Rat):eP (xs.map λx=>iT (dL x))=true:=by
 have:=rJ (xs.map dL)
 rwa [List.map_map] at this
theorem mK.same{H H':Hp}{q:Rat}{xs:List Rat}{v:V}(s:bC H H')(h:mK H q xs v):mK H' q xs v:=by
 obtain ⟨b,pv,L,vs,h1,h2,h3,h4,h5⟩:=h;exact ⟨b,pv,L,vs,h1,s _ _ h2,h3.same s,s _ _ h4,h5.same s⟩
theorem mK.but{H H':Hp}{p:Addr}{kvs:List (List dP × V)}{q:Rat}{xs:List Rat}{v:V}(s:aU p H H')(hp:H p=some (.dT kvs))(h:mK H q xs v):mK H' q xs v:=by
 obtain ⟨b,pv,L,vs,h1,h2,h3,h4,h5⟩:=h;have t:=aU.tT s hp;exact ⟨b,pv,L,vs,h1,t _ _ h2,h3.flat t (eT _),s.at (λz=>by rw [z,hp] at h4;cases h4) h4,bD.flat t (KJ _) h5⟩
def QP(F:Nat)(es:List cS)(W:Nat)(s:Rat)(e:cS):List Rat:=(List.range (1+W)).map λj=>bJ F es e.1*s*kZ e.2 j
def xT(H:Hp)(F W:Nat)(es ds:List cS)(s:Rat)(kvs:List (List dP × V)):Prop:=(s=0/\kvs=[])\/(s≠0/\Paired (λ(e:cS) (p:List dP × V)=>p.1=kT (ci e.1)/\mK H (bJ F es e.1*s) (QP F es W s e) p.2) ds kvs)
theorem xT.mono{H H':Hp}{F W:Nat}{es ds:List cS}{s:Rat}{kvs:List (List dP × V)}(f:∀q xs v,mK H q xs v->mK H' q xs v)(h:xT H F W es ds s kvs):xT H' F W es ds s kvs:=by
 rcases h with h | ⟨h1,h2⟩
 ·exact .inl h
 ·exact .inr ⟨h1,Paired.imp' (λe p r=>⟨r.1,f _ _ _ r.2⟩) h2⟩
@[irreducible] def nU(K:PySem.W.Frag):Sp:=λvs H Q _=>∃(r sv:V) (es:List cS) (F W M N B Ns Ds:Nat) (s:Rat),vs=[r,sv]/\uY K H es r/\pQ F W M N B Ns es/\1<=F/\F<=4/\xC K H (dL s) sv/\Qn Ds 1 s/\0<Ds/\N*Ds<2^2500/\W<=4/\∀d kvs H',H d=none->bC H H'->H' d=some (.dT kvs)->xT H' F W es es s kvs->Q (.ref d) H'
theorem vE{K:PySem.W.Frag}{H:Hp}{Q:VK}{E:XK}{r sv:V}{es:List cS}{F W M N B Ns Ds:Nat}{s:Rat}(h1:uY K H es r)(h2:pQ F W M N B Ns es)(h3:1<=F)(h4:F<=4)(h5:xC K H (dL s) sv)(h6:Qn Ds 1 s)(h7:0<Ds)(h8:N*Ds<2^2500)(h9:W<=4)(k:∀d kvs H',H d=none->bC H H'->H' d=some (.dT kvs)->xT H' F W es es s kvs->Q (.ref d) H'):nU K [r,sv] H Q E:=by unfold nU;exact ⟨r,sv,es,F,W,M,N,B,Ns,Ds,s,rfl,h1,h2,h3,h4,h5,h6,h7,h8,h9,k⟩
theorem uO{R:cS->List dP × V->Prop}:∀{ds:List cS}{kvs:List (List dP × V)},Paired (λ(e:cS) (p:List dP × V)=>p.1=kT (ci e.1)/\R e p) ds kvs->kvs.map (·.1)=ds.map λe=>kT (ci e.1)
 | _,_,.nil=>rfl
 | _,_,.cons r t=>by rw [aO,aO,uO t,r.1]
theorem vT{α β:Type}{R:α->β->Prop}:∀{l:List α}{zs:List β}{x:α}{v:β},Paired R l zs->R x v->Paired R (l++[x]) (zs++[v])
 | _,_,_,_,.nil,h=>.cons h .nil
 | _,_,_,_,.cons r t,h=>.cons r (vT t h)
theorem HX(f:Fr):SeqAt.shaped (iT f)=true:=(nE.tup (n:=1) (λd hd'=>by
 rcases aT.mp hd' with rfl | hd'
 ·exact nE.int _
 ·rw [bQ.mp hd'];exact nE.int _)).ok
theorem UI(f g:Fr):PyData.eqv (iT f) (iT g)=decide (f=g):=by
 obtain ⟨a,b⟩:=f;obtain ⟨c,d⟩:=g;show ((a == c)&&((b == d)&&true))=_;rw [Bool.eq_iff_iff];simp
section
theorem aCU(F:jA K "over" "over" XW f fd)(T:kY K mg c)(FQ43:gK dQ P w K mg base 2 "times" ["one","other"] (kK K)):dZ P w K mg base dQ 3 f fd ["one","other"] (nV K):=by
 refine F.oky aDy λvs H Q E h=>?_;unfold nV at h;obtain ⟨x,y,p,q,rfl,h1,h2,q0,z1,z2,k⟩:=h;refine ⟨rfl,λcdv A outer s hr=>?_⟩;obtain ⟨hp,l2,e2⟩:=aBf q0;obtain ⟨p2,rfl,e⟩:=h2;refine ⟨_,(aS (gE (eD nB (cH bU (aI 1) aL (λ_ _=>rfl)) aL (nomark _)) (bE QV) dY)
  (aS (gE (eD aBP (cH bU (aI 1) aL (λ_ _=>rfl)) aL (nomark _)) (bE (cF (bR FQ43 (hr.mono Dd) (aM (aI 0) (aM (dS (aM (LU EG (cH bU (aI 1) aL (λ_ _=>rfl))) (aM (LU EG (cH bU (aI 1) aL (λ_ _=>rfl))) aG))) aG))))) dY)
  (bE (cF (bR FQ43 (hr.mono Dd) (aM (aI 0) (aM (dS (aM (cH bU (aI 1) aL (λ_ _=>rfl)) (aM (cH bU (aI 1) aL (λ_ _=>rfl)) aG))) aG))))))),?_⟩
 refine ⟨_,rfl,?_⟩;refine mF e rfl ?_;refine ⟨rfl,_,rfl,?_⟩;refine oM (cJ λz=>by injection z with z;omega) ?_;refine ⟨_,rfl,?_⟩;refine mF e rfl ?_;refine ⟨_,_,rfl,rfl,_,rfl,?_⟩;refine oM (cJ Oo) ?_;refine ⟨_,rfl,_,rfl,?_⟩;refine mF e rfl ?_;refine ⟨_,rfl,?_⟩;refine mF e rfl ?_;refine pJ (by show 2<=64;decide) λp3 H3 hp3 e3 s3=>?_;refine mP (gL.same s3 h1) (gL.new (f:=((dL q).2,(dL q).1)) e3) (bL _) l2 z1 ⟨z2.2,z2.1⟩ ?_;have em:pK (dL p) ((dL q).2,(dL q).1)=dL (p/q):=fU (mC (bL _) l2) (bL _) (by rw [sF (bL _).pos l2.pos,e2,dG,dG,Rat.div_def]);rw [em];exact k.of s3
theorem aCT(F:jA K "parts_of" "parts_of" RP f fd)(T:kY K mg c)(FQ16:gK dQ P w K mg base 3 "amounts" ["rule"] (kP K))(FQ43:gK dQ P w K mg base 2 "times" ["one","other"] (kK K)):dZ P w K mg base dQ 4 f fd ["rule","share"] (nU K):=by
 refine F.oky PQ λvs H Q E h=>?_;unfold nU at h;obtain ⟨r,sv,es,F,W,M,N,B,Ns,Ds,sh,rfl,rr,RO,f1,f4,rs,sq,d0,nd,w4,k⟩:=h;refine ⟨rfl,λcdv A outer s hr=>?_⟩;obtain ⟨a,xs,rfl,ha,lx,rxs⟩:=id rr;have few:=RO.few;have nd0:0<N*Ds:=Nat.mul_pos RO.n0 d0;refine ⟨_,(aS (bS (i:=2) PQ.nd rfl (Or.inl rfl) lQ)
  (aS (gS PassesOwn.never rfl (EE true true rfl T.b_zip (aM (aI 0) (aM (bR FQ16 (hr.mono Dd) (aM (aI 0) aG)) aG))) (nJ rfl (eF (dF (i:=3) PQ.nd rfl (Or.inl rfl)) (eF (dF (i:=4) PQ.nd rfl (Or.inl rfl)) lA))) (aS (bS (i:=5) PQ.nd rfl (Or.inr rfl) (bR FQ43 (hr.mono Dd) (aM (cH bU (aI 4) aL (λ_ _=>rfl)) (aM (aI 1) aG))))
  (bE (gE (eD (AM K hr.units) (aI 5) (oY (v:=.ref c.NOUGHT) rfl T.g_NOUGHT rfl) (nomark _)) (bE (jW hr.u1 (aI 2) (cH bU (aI 3) aL (λ_ _=>rfl)) (dS (aM (aI 5) (aM (fG (eA.of (psc:=bA RP) (N:=["rule","share","parts","entry","amount","part"]) (N':=["one","part"]) (js:=[5]) Kk rfl rfl rfl) (jQ (cH bU (aI 3) aL (λ_ _=>rfl))) (λ_ _ _ _=>eQ) (λ_ _ _ _=>(bR FQ43 (hr.mono Dd) (aM (aI 1) (aM (aI 0) aG))))) aG))))) dY))))
  (bE (cF (aI 2))))),?_⟩
 intro p hp;have s0':=bC.upd (o:=.dT []) hp;have e0p:(upd H p (.dT [])) p=some (.dT []):=bH;generalize upd H p (.dT [])=H0 at s0' e0p;refine ⟨_,rfl,_,rfl,?_⟩;refine zY (rr.t s0'.t) RO f1 f4 λam ys H2 s2 e2 ly k2=>?_;have s02:=s0'.trans s2;have e2p:=s2 _ _ e0p;refine ⟨a,am,xs,ys,rfl,s02 _ _ ha,e2,?_⟩;have na:a≠p:=λz=>by rw [z,hp] at ha;cases ha
 have nam:am≠p:=λz=>by rw [z,e2p] at e2;cases e2
 refine UJ (xs:=xs) (ys:=ys) (λi σ H'=>∃(o3 o4 o5:Option V) (kvs:List (List dP × V)),σ=[some (.ref a),some sv,some (.ref p),o3,o4,o5]/\aU p H2 H'/\H' p=some (.dT kvs)/\xT H' F W es (es.take i) sh kvs) ⟨_,_,_,[],rfl,(bC.refl _).but,e2p,by by_cases z:sh=0;exact .inl ⟨z,rfl⟩;exact .inr ⟨z,.nil⟩⟩ (λi σ H' ⟨_,_,_,_,_,b',_⟩=>⟨b'.at na (s02 _ _ ha),b'.at nam e2⟩) ?_ ?_
 ·rintro i y z q3 σ H3 H4 hy hz ⟨o3,o4,o5,kvs,rfl,b3,e3,r3⟩ hq3 e4 s4;obtain ⟨e,he,re⟩:=rxs i y hy;have hee:=aZ he;have hi:i<es.length:=(aK.mp he).1;have t23:=aU.tT b3 e2p;have t24:=t23.trans s4.t;have t04:=s02.t.trans t24;obtain ⟨b,cu,v,rfl,hb,hcu,rv'⟩:=re.t t04;obtain ⟨bz,cz,va,hbz,hbz2,_,fva⟩:=k2 i e he;rw [hz] at hbz;cases hbz;have e4p:H4 p=some (.dT kvs):=s4 _ _ e3;refine ⟨q3,_,rfl,eZ.of e4,rfl,_,_,rfl,_,_,rfl,rfl,?_⟩;refine ⟨_,rfl,?_⟩;refine tU (t24 _ _ hbz2) rfl ?_;refine ⟨_,rfl,?_⟩;have dz:Ds<2^3000:=by
   have h1:1*Ds<=N*Ds:=dE _ RO.n0;rw [Nat.one_mul] at h1;exact bB h1 (aV nd (bG Dd Dd))
  refine mP (fva.t t24).v (rs.t t04).v (bL _) (bL _) (fA (RO.fl e hee) RO.n0 RO.nz RO.b2) (tH sq.fq d0 dz Nat.one_le_two_pow) λq5 H5 hq5 e5 s5=>?_;rw [aAd] at e5;have pq:Qn (N*Ds) B (bJ F es e.1*sh):=by have:=(RO.fl e hee).mul sq;rwa [Nat.mul_one] at this
  have hnz:gL K H5 (0,1) (.ref c.NOUGHT):=⟨c.NOUGHT,rfl,nQ T.o_NOUGHT⟩;refine ⟨_,rfl,?_⟩;refine reK (gL.new e5).k hnz.k (HX _) (HX _) ?_;rw [UI];refine ⟨_,rfl,?_⟩;have fpos:=RO.rl.posf hee;by_cases z:sh=0
  ·have ez:dL (bJ F es e.1*sh)=(0,1):=by rw [z,show bJ F es e.1*0=0 by grind,mG]
   rw [ez];refine oM Dd ?_;refine ⟨_,_,_,kvs,rfl,b3.trans (s4.trans s5).but,s5 _ _ e4p,?_⟩;rcases r3 with ⟨_,rfl⟩ | ⟨h,_⟩
   ·exact .inl ⟨z,rfl⟩
   ·exact absurd z h
  ·have en:¬dL (bJ F es e.1*sh)=(0,1):=λq=>by
    have h1:=congrArg rv q;rw [dG,show rv (0,1)=0 from jY] at h1;have:bJ F es e.1≠0:=by grind
    rcases Rat.mul_eq_zero.mp h1 with h | h
    ·exact this h
    ·exact z h
   rw [cJ en];refine wF Dd ?_;rcases r3 with ⟨h,_⟩ | ⟨_,r3⟩
   ·exact absurd h z
   obtain ⟨sa,sx,rfl,hsa,rsx⟩:=rv';have ls:e.2.length=1+W:=(RO.sy e hee).len;refine ⟨_,rfl,_,rfl,?_⟩;refine tU (s5 _ _ hb) rfl ?_;refine ⟨sa,rfl,⟨_,eZ.of (s5 _ _ hsa)⟩,?_⟩;refine iP (λj y H'=>cO H' (iT (dL (bJ F es e.1*sh*kZ e.2 j))) y) (λj y H1 H2 s r=>r.flat s (eT _)) (by rw [rsx.len,ls];omega) (s5 _ _ hsa) (λj x H' Q' hx s' k'=>?_) (λD zs H6 hD e6 s6 hy6 hr6=>?_)
   ·obtain ⟨g,hg,rg⟩:=rsx.at_ j x hx;obtain ⟨lg,_,zg⟩:=(RO.sy e hee).at_ g (aZ hg);refine ⟨_,rfl,_,rfl,?_⟩;refine mP (gL.new (s' _ _ e5)) ((rg.t s5.t).t s'.t).v (bL _) lg (fA pq nd0 nd RO.b2) (zg.up Dd) λq7 H7 hq7 e7 s7=>?_;refine k' _ H7 s7 (eS ?_);have em:pK (dL (bJ F es e.1*sh)) g=dL (bJ F es e.1*sh*kZ e.2 j):=fU (mC (bL _) lg) (bL _) (by rw [sF (bL _).pos lg.pos,dG,dG,EF hg]);rw [<-em];exact e7
   ·refine pJ (by show 2<=64;decide) λq7 H7 hq7 e7 s7=>?_;have s47:=(s5.trans s6).trans s7;refine ⟨_,rfl,_,rfl,?_⟩;refine tU (s47 _ _ hb) rfl ?_;have lk:kvs.length=(es.take i).length:=r3.length.symm;refine dpT (s47 _ _ e4p) (c:=ci e.1) (by rw [iY];exact s47 _ _ hcu) (by rw [lk,dC];omega) λH8 e8 b8=>?_;have keys:=uO r3;have new:dU kvs (kT (ci e.1))=none:=by
     cases q:dU kvs (kT (ci e.1)) with
     | none=>rfl
     | some u =>
      exfalso;have h1:=qI q;rw [keys] at h1;obtain ⟨e',h2,h3⟩:=aD.mp h1;have h4:e'.1=e.1:=iL (jT h3);have h5:=RO.rl.nd;rw [<-List.take_append_drop i es,bM] at h5;have h6:e.1∈(es.drop i).map (·.1):=by
       rw [List.drop_eq_getElem_cons hi,aO];have:es[i]=e:=by rw [aC hi] at he;exact eB he
       rw [this];exact aH ..
      exact (List.nodup_append.mp h5).2.2 _ (aD.mpr ⟨e',h2,h4⟩) _ h6 rfl
    rw [vR _ new] at e8;refine ⟨_,_,_,_,rfl,(b3.trans (s4.trans s47).but).trans b8,e8,.inr ⟨z,?_⟩⟩;rw [fC he];have e7p:=s47 _ _ e4p;have lst:H7 D=some (.lst zs):=s7 _ _ e6;have pt:mK H7 (bJ F es e.1*sh) (QP F es W sh e) (.ref q7):=by
     refine ⟨q7,_,D,zs,rfl,e7,eS (s7 _ _ (s6 _ _ e5)),lst,?_⟩;refine bD.ofIdx (by unfold QP;rw [hy6,aA,aA,bK,rsx.len,ls]) λj y hj=>?_;have hj':j<1+W:=by
      have:=(aK.mp hj).1;rw [hy6,rsx.len,ls] at this;exact this
     exact ⟨_,by unfold QP;rw [aE,aE,bN hj'];rfl,(hr6 j y hj).same s7⟩
    exact vT (Paired.imp' (λe p r=>⟨r.1,((r.2.same (s4.trans s47)).but b8 e7p)⟩) r3) ⟨rfl,pt.but b8 e7p⟩
 ·rintro σ H3 ⟨o3,o4,o5,kvs,rfl,b3,e3,r3⟩;refine ⟨_,rfl,?_⟩;rw [show es.take (min xs.length ys.length)=es from List.take_of_length_le Oo] at r3;exact k p kvs H3 hp (bC.thru hp s02 b3) e3 r3
end
abbrev JK:Stmt:=(top 40)
theorem aAO:bZ ["one","other","whole"] ["one","other"] (bA JK):=⟨rfl,rfl,rfl,Kk,rfl,Kk,Kk⟩
abbrev Po:=Option (Rat × List Rat)
def PtO(H:Hp)(o:Po)(v:V):Prop:=match o with
 | none=>v=.non
 | some p=>mK H p.1 p.2 v
def yA(o:Po):Rat:=(o.map (·.1)).getD 0
def xW(o:Po)(j:Nat):Rat:=(o.map λp=>p.2.getD j 0).getD 0
structure LK(m P C:Nat)(o:Po):Prop where
 pos:∀p,o=some p->0<p.1/\Qn P C p.1/\p.2.length=m/\∀x∈p.2,Qn P C x
@[irreducible] def lI(K:PySem.W.Frag)(n:Nat):Sp:=λvs H Q _=>∃(x y:V) (a b:Po) (m P C:Nat),vs=[x,y]/\PtO H a x/\PtO H b y/\1<=n/\(a≠none\/(2<=n/\b≠none))/\LK m P C a/\LK m P C b/\0<P/\P<2^2500/\C<=2^190/\m<=5/\∀v H',bC H H'->cO H' (sE ((List.range m).map λj=>dL ((xW a j+xW b j)/(yA a+yA b)))) v->Q v H'
theorem BW{K:PySem.W.Frag}{n:Nat}{H:Hp}{Q:VK}{E:XK}{x y:V}{a b:Po}{m P C:Nat}(h1:PtO H a x)(h2:PtO H b y)(h3:1<=n)(h4:a≠none\/(2<=n/\b≠none))(h5:LK m P C a)(h6:LK m P C b)(h7:0<P)(h8:P<2^2500)(h9:C<=2^190)(h10:m<=5)(k:∀v H',bC H H'->cO H' (sE ((List.range m).map λj=>dL ((xW a j+xW b j)/(yA a+yA b)))) v->Q v H'):lI K n [x,y] H Q E:=by
 unfold lI;exact ⟨x,y,a,b,m,P,C,rfl,h1,h2,h3,h4,h5,h6,h7,h8,h9,h10,k⟩
theorem wL{H:Hp}{xs:List Rat}{vs:List V}(r:bD H (xs.map λx=>iT (dL x)) vs){i:Nat}{v:V}(h:vs[i]?=some v):∃x,xs[i]?=some x/\cO H (iT (dL x)) v:=by
 have r':bD H ((xs.map dL).map iT) vs:=by rw [List.map_map];exact r
 obtain ⟨f,h1,h2⟩:=iH r' h;rw [aE] at h1;cases hx:xs[i]? with
 | none=>rw [hx] at h1;cases h1
 | some x=>rw [hx] at h1;cases h1;exact ⟨x,rfl,h2⟩
section
theorem aCx(F:jA K "says_of_parts" "says_of_parts" JK f fd)(T:kY K mg c):dZ P w K mg base dQ 4 f fd ["one","other"] (lI K 0):=by
 refine F.okw aAO (λvs H Q E h=>?_) (λcdv A outer s H vs Q E hr h=>?_)
 ·unfold lI at h;obtain ⟨x,y,a,b,m,P,C,_,_,_,h,_⟩:=h;omega
 ·unfold lI at h;obtain ⟨x,y,a,b,m,P,C,_,_,_,h,_⟩:=h;omega
theorem aCP(n:Nat)(F:jA K "says_of_parts" "says_of_parts" JK f fd)(T:kY K mg c)(FQ37:gK dQ P w K mg base 3 "over" ["one","other"] (nV K))(FQ39:gK dQ P w K mg base 2 "plus" ["one","other"] (lC K))(FQ42:gK dQ P w K mg base (4+n) "says_of_parts" ["one","other"] (lI K n)):dZ P w K mg base dQ (4+n+1) f fd ["one","other"] (lI K (n+1)):=by
 refine F.oky aAO λvs H Q E h=>?_;unfold lI at h;obtain ⟨x,y,a,b,m,Pn,C,rfl,pa,pb,n1,hor,oa,ob,p0,p1,c1,m5,k⟩:=h;refine ⟨rfl,λcdv A outer s hr=>?_⟩;refine ⟨_,(aS (gE (eD NR (aI 0) zN (nomark _)) (bE (cF (bR FQ42 (hr.mono Oo) (aM (aI 1) (aM (aI 0) aG))))) dY)
  (aS (gE (eD NR (aI 1) zN (nomark _)) (bE (cF (jC dR (by rfl) T.b_tuple Kk (aM (fG (eA.of (psc:=bA JK) (N:=["one","other","whole"]) (N':=["part","one"]) (js:=[0]) Kk rfl rfl rfl) (gZ (cH bU (aI 0) aL (λ_ _=>rfl))) (λ_ _ _ _=>eQ) (λ_ _ _ _=>(bR FQ37 (hr.mono Oo) (aM (aI 0) (aM (cH (lE K) (aI 1) aL (λ_ _=>rfl)) aG))))) aG)))) dY)
  (aS (bS (i:=2) aAO.nd rfl (Or.inr rfl) (bR FQ39 (hr.mono Oo) (aM (cH bU (aI 0) aL (λ_ _=>rfl)) (aM (cH bU (aI 1) aL (λ_ _=>rfl)) aG))))
  (bE (cF (jC dR (by rfl) T.b_tuple Kk (aM (rZ (gC.of (psc:=bA JK) (N:=["one","other","whole"]) (xs:=["first","second"]) (N':=["first","second","whole"]) (js:=[2]) Kk rfl rfl rfl) (EE false false rfl T.b_zip (aM (cH bU (aI 0) aL (λ_ _=>rfl)) (aM (cH bU (aI 1) aL (λ_ _=>rfl)) aG))) (λ_ _ _ _=>eQ) (λ_ _ _ _=>(bR FQ37 (hr.mono Oo) (aM (bR FQ39 (hr.mono Oo) (aM (aI 0) (aM (aI 1) aG))) (aM (aI 2) aG))))) aG))))))),?_⟩
 refine ⟨_,rfl,rfl,_,rfl,?_⟩;cases a with
 | none =>
  have hx:x=.non:=pa;subst hx;refine wF (bV rfl) ?_;have hb:2<=n+1/\b≠none:=hor.resolve_left λq=>q rfl;refine ⟨_,rfl,_,rfl,?_⟩;refine BW pb pa Oo (.inl hb.2) ob oa p0 p1 c1 m5 λv H' s' r'=>?_;refine k v H' s' ?_;have e1:∀j,xW b j+xW none j=xW none j+xW b j:=λj=>Rat.add_comm _ _;have e2:yA b+yA none=yA none+yA b:=Rat.add_comm _ _;rw [e2] at r';simp only [e1] at r';exact r'
 | some pr =>
  obtain ⟨q1,xs1⟩:=pr;obtain ⟨hq1,nq1,lx1,nx1⟩:=oa.pos _ rfl;have lx1:xs1.length=m:=lx1;obtain ⟨b1,pv1,L1,vs1,rfl,hb1,rp1,hL1,rv1⟩:=(show mK H q1 xs1 x from pa);refine oM (cJ λz=>by cases z) ?_;refine ⟨_,rfl,rfl,_,rfl,?_⟩;have lv1:vs1.length=m:=by have:=bD.len rv1;rw [aA] at this;omega
  cases b with
  | none =>
   have hy:y=.non:=pb;subst hy;refine wF (bV rfl) ?_;refine ⟨_,rfl,?_⟩;refine tU hb1 rfl ?_;refine ⟨L1,rfl,⟨_,fS.of hL1⟩,?_⟩;refine sS (λj y H'=>∃x,xs1[j]?=some x/\cO H' (iT (dL (x/q1))) y) (λj y H1 H2 s ⟨x,h1,h2⟩=>⟨x,h1,h2.flat s (eT _)⟩) Oo hL1 (λj v H' Q' hv s' k'=>?_) (λD zs H1 hD e1 s1 hz hr1=>?_)
   ·obtain ⟨x,hx,rx⟩:=wL rv1 hv;refine ⟨_,rfl,_,rfl,?_⟩;refine tU (s' _ _ hb1) rfl ?_;refine vF (gL.of (rx.same s')) (gL.of (rp1.same s')) hq1 (fA (nx1 x (aZ hx)) p0 p1 (aQ c1 (bG Dd Dd))) (fA nq1 p0 p1 (aQ c1 (bG Dd Dd))) λq2 H2 hq2 e2 s2=>?_;exact k' _ H2 s2 ⟨x,hx,eS e2⟩
   ·refine ⟨D,zs,rfl,.inl ⟨fS.of e1,λl hl=>?_⟩⟩;have sl:=bC.upd (o:=.tup zs) hl;refine k _ _ (s1.trans sl) (cO.tup bH (bD.ofIdx (by rw [hz,aA,aA,bK];omega) λj y hj=>?_));obtain ⟨x,hx,rx⟩:=hr1 j y hj;have hj':j<m:=by have:=(aK.mp hj).1;omega
    refine ⟨_,by rw [aE,aE,bN hj'];rfl,?_⟩;have e2:xW (some (q1,xs1)) j=x:=by show xs1.getD j 0=x;rw [aN,hx];rfl
    show cO _ (iT (dL ((xW (some (q1,xs1)) j+xW none j)/(yA (some (q1,xs1))+yA none)))) y;rw [e2,show xW none j=0 from rfl,show yA (some (q1,xs1))=q1 from rfl,show yA none=0 from rfl,show x+0=x by grind,show q1+0=q1 by grind];exact rx.same sl
  | some pr2 =>
   obtain ⟨q2,xs2⟩:=pr2;obtain ⟨hq2,nq2,lx2,nx2⟩:=ob.pos _ rfl;have lx2:xs2.length=m:=lx2;obtain ⟨b2,pv2,Lb,vs2,rfl,hb2,rp2,hL2,rv2⟩:=(show mK H q2 xs2 y from pb);have lv2:vs2.length=m:=by have:=bD.len rv2;rw [aA] at this;omega
   have c2:C<=2^200:=aQ c1 (bG Dd Dd);have c3:C+C<=2^200:=by
    have:(2:Nat)^190+2^190<=2^200:=Kk;omega
   refine oM (cJ λz=>by cases z) ?_;refine ⟨_,rfl,?_⟩;refine tU hb1 rfl ?_;refine ⟨_,rfl,?_⟩;refine tU hb2 rfl ?_;refine lV (gL.of rp1) (gL.of rp2) (bL _) (bL _) (fA nq1 p0 p1 c2) (fA nq2 p0 p1 c2) λq3 H3 hq3 e3 s3=>?_;rw [wW] at e3;have wq':Qn Pn (C+C) (q1+q2):=nq1.add nq2;have w0:0<q1+q2:=by grind
   refine ⟨_,rfl,?_⟩;refine tU (s3 _ _ hb1) rfl ?_;refine ⟨_,rfl,?_⟩;refine tU (s3 _ _ hb2) rfl ?_;refine ⟨L1,Lb,vs1,vs2,rfl,s3 _ _ hL1,s3 _ _ hL2,?_⟩;refine yT (b1:=false) (b2:=false) (xs:=vs1) (ys:=vs2) (λj y H'=>∃x1 x2,xs1[j]?=some x1/\xs2[j]?=some x2/\cO H' (iT (dL ((x1+x2)/(q1+q2)))) y) (λj y H1 H2 s ⟨x1,x2,h1,h2,h3⟩=>⟨x1,x2,h1,h2,h3.flat s (eT _)⟩) Oo (s3 _ _ hL1) (s3 _ _ hL2) Oo (λj v1 v2 H' Q' hv1 hv2 s' k'=>?_) (λD zs H4 hD e4 s4 hz hr4=>?_)
   ·obtain ⟨x1,hx1,rx1⟩:=wL rv1 hv1;obtain ⟨x2,hx2,rx2⟩:=wL rv2 hv2;have n1:=nx1 x1 (aZ hx1);have n2:=nx2 x2 (aZ hx2);have s03:=s3.trans s';refine ⟨_,rfl,_,rfl,?_⟩;refine lV (gL.of (rx1.same s03)) (gL.of (rx2.same s03)) (bL _) (bL _) (fA n1 p0 p1 c2) (fA n2 p0 p1 c2) λq5 H5 hq5 e5 s5=>?_;rw [wW] at e5;refine ⟨_,rfl,?_⟩;refine vF (gL.of (eS e5)) (gL.of (eS ((s'.trans s5) _ _ e3))) w0 (fA (n1.add n2) p0 p1 c3) (fA wq' p0 p1 c3) λq6 H6 hq6 e6 s6=>?_;exact k' _ H6 (s5.trans s6) ⟨x1,x2,hx1,hx2,eS e6⟩
   ·refine ⟨D,zs,rfl,.inl ⟨fS.of e4,λl hl=>?_⟩⟩;have sl:=bC.upd (o:=.tup zs) hl;refine k _ _ ((s3.trans s4).trans sl) (cO.tup bH (bD.ofIdx (by rw [hz,aA,aA,bK];omega) λj y hj=>?_));obtain ⟨x1,x2,hx1,hx2,rx⟩:=hr4 j y hj;have hj':j<m:=by have:=(aK.mp hj).1;omega
    refine ⟨_,by rw [aE,aE,bN hj'];rfl,?_⟩;show cO _ (iT (dL ((xW (some (q1,xs1)) j+xW (some (q2,xs2)) j)/(yA (some (q1,xs1))+yA (some (q2,xs2)))))) y;have e5:xW (some (q1,xs1)) j=x1:=by show xs1.getD j 0=x1;rw [aN,hx1];rfl
    have e6:xW (some (q2,xs2)) j=x2:=by show xs2.getD j 0=x2;rw [aN,hx2];rfl
    rw [e5,e6,show yA (some (q1,xs1))=q1 from rfl,show yA (some (q2,xs2))=q2 from rfl];exact rx.same sl
end
abbrev XZ:Stmt:=(top 38)
theorem PR:bZ ["one","other","share","one_parts","other_parts","table","counts"] ["one","other","share"] (bA XZ):=⟨rfl,rfl,rfl,Kk,rfl,Kk,Kk⟩
theorem HG{Ds:Nat}{s:Rat}(hs:Qn Ds 1 s)(ds:0<Ds)(h0:0<=s)(h1:s<=1):Qn Ds 1 (1-s):=by
 obtain ⟨X,eX,bX⟩:=hs;have dp:(0:Rat)<(Ds:Rat):=by exact_mod_cast ds
 have X0:0<=X:=by
  have:(0:Rat)<=(X:Rat):=by rw [<-eX];exact cL h0 (Rat.le_of_lt dp)
  exact_mod_cast this
 refine ⟨(Ds:Int)-X,?_,Oo⟩;rw [Rat.intCast_sub,kR,<-eX];grind
theorem NF{H:Hp}{F W:Nat}{es:List cS}{s:Rat}:∀{ds:List cS}{kvs:List (List dP × V)},Paired (λ(e:cS) (p:List dP × V)=>p.1=kT (ci e.1)/\mK H (bJ F es e.1*s) (QP F es W s e) p.2) ds kvs->(ds.map (·.1)).Nodup->∀e∈ds,∃v,dU kvs (kT (ci e.1))=some v/\mK H (bJ F es e.1*s) (QP F es W s e) v
 | _,_,.nil,_,e,he=>by cases he
 | d::ds,p::kvs,.cons r t,nd,e,he=>by
  rw [aO,List.nodup_cons] at nd;rcases aT.mp he with rfl | he
  ·exact ⟨p.2,fH (by rw [r.1]),r.2⟩
  ·obtain ⟨v,h1,h2⟩:=NF t nd.2 e he;refine ⟨v,?_,h2⟩;have:¬p.1=kT (ci e.1):=λz=>nd.1 (by
    rw [r.1] at z;rw [show d.1=e.1 from iL (jT z)];exact aD.mpr ⟨e,he,rfl⟩)
   rw [fI this];exact h1
theorem xT.po{H:Hp}{F W M N B Ns Ds:Nat}{es:List cS}{s:Rat}{kvs:List (List dP × V)}(h:xT H F W es es s kvs)(R:pQ F W M N B Ns es)(hs:Qn Ds 1 s)(s0':0<=s)(c:List Nat) :
  ∃a:Po,PtO H a ((dU kvs (kT (ci c))).getD .non)/\yA a=s*bJ F es c/\(∀j,j<1+W->xW a j=s*xF F es c j)/\LK (1+W) (N*Ds) B a/\((s≠0/\c∈es.map (·.1))->a≠none):=by
 have none_:(¬(s≠0/\c∈es.map (·.1)))->dU kvs (kT (ci c))=none->∃a:Po,PtO H a ((dU kvs (kT (ci c))).getD .non)/\yA a=s*bJ F es c/\(∀j,j<1+W->xW a j=s*xF F es c j)/\LK (1+W) (N*Ds) B a/\((s≠0/\c∈es.map (·.1))->a≠none):=λhn hv=>by
  refine ⟨none,by rw [hv];rfl,?_,λj _=>?_,⟨λp q=>by cases q⟩,λq=>absurd q hn⟩
  ·by_cases z:s=0
   ·rw [z];show (0:Rat)=_;grind
   ·rw [oI R.rl λhc=>hn ⟨z,hc⟩];show (0:Rat)=_;grind
  ·by_cases z:s=0
   ·rw [z];show (0:Rat)=_;grind
   ·rw [nG λhc=>hn ⟨z,hc⟩];show (0:Rat)=_;grind
 rcases h with ⟨z,rfl⟩ | ⟨z,h⟩
 ·exact none_ (λq=>q.1 z) rfl
 ·by_cases hc:c∈es.map (·.1)
  ·obtain ⟨e,he,rfl⟩:=aD.mp hc;obtain ⟨v,h1,h2⟩:=NF h R.rl.nd e he;refine ⟨some (bJ F es e.1*s,QP F es W s e),by rw [h1];exact h2,?_,λj hj=>?_,⟨λp q=>?_⟩,λ_ q=>by cases q⟩
   ·show bJ F es e.1*s=_;grind
   ·show (QP F es W s e).getD j 0=_;unfold QP;rw [aN,aE,bN hj,nH R.rl he];show bJ F es e.1*s*kZ e.2 j=_;grind
   ·cases q;refine ⟨Rat.mul_pos (R.rl.posf he) (by grind),?_,by unfold QP;rw [aA,bK],λx hx=>?_⟩
    ·have:=(R.fl e he).mul hs;rwa [Nat.mul_one] at this
    ·obtain ⟨j,_,rfl⟩:=aD.mp hx;have:=(R.fs e he j).mul hs;rw [Nat.mul_one] at this;rw [show bJ F es e.1*s*kZ e.2 j=bJ F es e.1*kZ e.2 j*s by grind];exact this
  ·refine none_ (λq=>hc q.2) ?_;cases q:dU kvs (kT (ci c)) with
   | none=>rfl
   | some u =>
    exfalso;have h1:=qI q;rw [uO h] at h1;obtain ⟨e,he,h3⟩:=aD.mp h1;exact hc (by rw [<-iL (jT h3)];exact aD.mpr ⟨e,he,rfl⟩)
theorem MR{K:PySem.W.Frag}{H:Hp}{gs:List Fr}{v:V}(h:cO H (sE gs) v):DX K H gs v:=by
 obtain ⟨sa,sx,rfl,hsa,r⟩:=pX h;refine ⟨sa,sx,rfl,hsa,⟨rA r,λi x hx=>?_⟩⟩;obtain ⟨f,h1,h2⟩:=iH r hx;exact ⟨f,h1,.inl h2⟩
theorem HM{H:Hp}{kvs:List (List dP × V)}{ys:List V}{cs:List (List Nat)}(h:xA H kvs ys)(e:kvs.map (·.1)=cs.map λc=>kT (ci c)){i:Nat}{v:V}(hv:ys[i]?=some v):∃c b,cs[i]?=some c/\v=.ref b/\H b=some (.tup ((ci c).map V.int)):=by
 have hi:i<kvs.length:=by rw [<-h.1];exact (aK.mp hv).1
 have hp:=aC hi;obtain ⟨b,h1,h2⟩:=h.2 i _ hp;rw [hv] at h1;cases h1;have e1:=congrArg (λl:List (List dP)=>l[i]?) e;have e1:(kvs.map (·.1))[i]?=(cs.map λc=>kT (ci c))[i]?:=e1;rw [aE,aE,hp] at e1;cases hc:cs[i]? with
 | none=>rw [hc] at e1;cases e1
 | some c =>
  rw [hc] at e1;have e2:kvs[i].1=kT (ci c):=eB e1;refine ⟨c,b,rfl,rfl,?_⟩;rw [h2,e2];congr 2;exact qA (ci c)
def QQ(s:Rat)(es:List cS):List (List Nat):=if s=0 then [] else es.map (·.1)
theorem xT.ks{H:Hp}{F W:Nat}{es:List cS}{s:Rat}{kvs:List (List dP × V)}(h:xT H F W es es s kvs):kvs.map (·.1)=(QQ s es).map λc=>kT (ci c):=by
 unfold QQ;rcases h with ⟨z,rfl⟩ | ⟨z,h⟩
 ·rw [if_pos z];rfl
 ·rw [if_neg z,uO h,List.map_map];rfl
@[irreducible] def nY(K:PySem.W.Frag):Sp:=λvs H Q _=>∃(x y sv:V) (es fs:List cS) (F W M N B Ns Ds:Nat) (s:Rat),vs=[x,y,sv]/\uY K H es x/\uY K H fs y/\xC K H (dL s) sv/\fE F W M es fs s/\pQ F W M N B Ns es/\pQ F W M N B Ns fs/\Qn Ds 1 s/\0<Ds/\N*Ds<2^2500/\W<=4/\(rise F M).length<=64/\∀v H',bC H H'->uY K H' (mE F W M es fs s) v->Q v H'
theorem kL{K:PySem.W.Frag}{H:Hp}{Q:VK}{E:XK}{x y sv:V}{es fs:List cS}{F W M N B Ns Ds:Nat}{s:Rat}(h1:uY K H es x)(h2:uY K H fs y)(h3:xC K H (dL s) sv)(h4:fE F W M es fs s)(h5:pQ F W M N B Ns es)(h6:pQ F W M N B Ns fs)(h7:Qn Ds 1 s)(h8:0<Ds)(h9:N*Ds<2^2500)(h10:W<=4)(h11:(rise F M).length<=64)(k:∀v H',bC H H'->uY K H' (mE F W M es fs s) v->Q v H'):nY K [x,y,sv] H Q E:=by
 unfold nY;exact ⟨x,y,sv,es,fs,F,W,M,N,B,Ns,Ds,s,rfl,h1,h2,h3,h4,h5,h6,h7,h8,h9,h10,h11,k⟩
section
theorem aCY(F:jA K "mixed" "mixed" XZ f fd)(T:kY K mg c)(FQ38:gK dQ P w K mg base 4 "parts_of" ["rule","share"] (nU K))(FQ31:gK dQ P w K mg base 3 "less" ["one","other"] (oC K))(FQ42:gK dQ P w K mg base 6 "says_of_parts" ["one","other"] (lI K 2))(FQ41:gK dQ P w K mg base 5 "rule_within" ["faces","table"] (nR K))(FQ40:gK dQ P w K mg base 1 "rule_faces" ["rule"] (gJ K)):dZ P w K mg base dQ 7 f fd ["one","other","share"] (nY K):=by
 refine F.oky PR λvs H Q E h=>?_;unfold nY at h;obtain ⟨x,y,sv,es,fs,F,W,M,N,B,Ns,Ds,sh,rfl,rx,ry,rs,I,RA,RB,sq,d0,nd,w4,few,k⟩:=h;refine ⟨rfl,λcdv A outer s hr=>?_⟩;have nd0:0<N*Ds:=Nat.mul_pos RA.n0 d0;have dz:Ds<2^3000:=by
  have h1:1*Ds<=N*Ds:=dE _ RA.n0;rw [Nat.one_mul] at h1;exact bB h1 (aV nd (bG Dd Dd))
 have sq':=HG sq d0 I.s0' I.s1;refine ⟨_,(aS (bS (i:=3) PR.nd rfl (Or.inl rfl) (bR FQ38 (hr.mono Dd) (aM (aI 0) (aM (aI 2) aG))))
  (aS (bS (i:=4) PR.nd rfl (Or.inl rfl) (bR FQ38 (hr.mono Dd) (aM (aI 1) (aM (bR FQ31 (hr.mono Dd) (aM (oY (v:=.ref c.ONE) rfl T.g_ONE rfl) (aM (aI 2) aG))) aG))))
  (aS (bS (i:=5) PR.nd rfl (Or.inl rfl) lQ)
  (aS (gS PassesOwn.never rfl (gZ (cN aAa (jC (DO rfl) (by rfl) T.b_list Kk (aM (aI 3) aG)) (jC (DO rfl) (by rfl) T.b_list Kk (aM (aI 4) aG)))) (dF (i:=6) PR.nd rfl (Or.inl rfl)) (bE (jW hr.u1 (aI 5) (aI 6) (bR FQ42 (hr.mono Dd) (aM (GL hr.u1 (aI 3) (aI 6)) (aM (GL hr.u1 (aI 4) (aI 6)) aG))))))
  (bE (cF (bR FQ41 (hr.mono Dd) (aM (bR FQ40 (hr.mono Dd) (aM (aI 0) aG)) (aM (aI 5) aG))))))))),?_⟩
 refine ⟨_,rfl,_,rfl,?_⟩;refine vE rx RA I.f1 I.f4 rs sq d0 nd w4 λd1 kv1 H1 hd1 s1 e1 ps1=>?_;refine ⟨_,rfl,?_⟩;have hoc:gL K H1 (1,1) (.ref c.ONE):=⟨c.ONE,rfl,nQ T.o_ONE⟩;refine ⟨_,rfl,?_⟩;refine EU hoc (rs.t s1.t).v TV (bL _) (tH (Fn.one 1) Dd Kk Nat.one_le_two_pow) (tH sq.fq d0 dz Nat.one_le_two_pow) λq2 H2 hq2 e2 s2=>?_;have ef0:oR (1,1) (FK (dL sh))=dL (1-sh):=by rw [<-AY,XN]
 rw [ef0] at e2;refine vE (ry.t (s1.trans s2).t) RB I.f1 I.f4 (.inl (eS e2)) sq' d0 nd w4 λd3 kv3 H3 hd3 s3 e3 ps3=>?_;have s13:=s2.trans s3;have ps1':=ps1.mono λ_ _ _ h=>mK.same s13 h;have S3:=s1.trans s13;have l1:kv1.length<=64:=by
  have:=congrArg List.length ps1.ks;rw [aA,aA] at this;rw [this];unfold QQ;split
  ·exact cC _
  ·rw [aA];exact RA.few
 have l3:kv3.length<=64:=by
  have:=congrArg List.length ps3.ks;rw [aA,aA] at this;rw [this];unfold QQ;split
  ·exact cC _
  ·rw [aA];exact RB.few
 intro p hp;have s4:=bC.upd (o:=.dT []) hp;have e4:(upd H3 p (.dT [])) p=some (.dT []):=bH;generalize upd H3 p (.dT [])=H4 at s4 e4;have e1':H4 d1=some (.dT kv1):=(s13.trans s4) _ _ e1;have e3':H4 d3=some (.dT kv3):=s4 _ _ e3;refine ⟨_,rfl,?_⟩;refine rlst e1' Oo λD5 ys5 H5 hD5 e5 k5 s5=>?_;refine ⟨_,rfl,?_⟩;refine rlst (s5 _ _ e3') Oo λD6 ys6 H6 hD6 e6 k6 s6=>?_;refine aDv (s6 _ _ e5) e6 (by rw [k5.1,k6.1];omega) λD7 H7 hD7 e7 s7=>?_;obtain ⟨cs,hcs⟩:∃cs,cs=QQ sh es++QQ (1-sh) fs:=⟨_,rfl⟩;have lks1:kv1.length=(QQ sh es).length:=by have:=congrArg List.length ps1.ks;rwa [aA,aA] at this
 have lks3:kv3.length=(QQ (1-sh) fs).length:=by have:=congrArg List.length ps3.ks;rwa [aA,aA] at this
 have s67:=s6.trans s7;have at_:∀(i:Nat) (v:V),(ys5++ys6)[i]?=some v->∃c b,cs[i]?=some c/\v=.ref b/\H7 b=some (.tup ((ci c).map V.int)):=λi v hv=>by
  by_cases hi:i<ys5.length
  ·rw [List.getElem?_append_left hi] at hv;obtain ⟨c,b,h1,h2,h3⟩:=HM k5 ps1.ks hv;exact ⟨c,b,by rw [hcs,List.getElem?_append_left (by rw [<-lks1,<-k5.1];exact hi)];exact h1,h2,s67 _ _ h3⟩
  ·rw [List.getElem?_append_right Oo] at hv;obtain ⟨c,b,h1,h2,h3⟩:=HM k6 ps3.ks hv;refine ⟨c,b,?_,h2,s7 _ _ h3⟩;rw [hcs,List.getElem?_append_right (by rw [<-lks1,<-k5.1];omega),<-lks1,<-k5.1];exact h1
 have lcs:cs.length=(ys5++ys6).length:=by rw [hcs,bF,bF,k5.1,k6.1,lks1,lks3]
 have lys:(ys5++ys6).length<=128:=by rw [bF,k5.1,k6.1];omega
 have S47:=(s5.trans s6).trans s7;have e7p:H7 p=some (.dT []):=S47 _ _ e4;have e7a:H7 d1=some (.dT kv1):=S47 _ _ e1';have e7b:H7 d3=some (.dT kv3):=S47 _ _ e3';have n1:d1≠p:=λz=>by rw [z] at e1;rw [(s13 _ _ e1)] at hp;cases hp
 have n3:d3≠p:=λz=>by rw [z] at e3;rw [e3] at hp;cases hp
 have nD:D7≠p:=λz=>by rw [z,(s5.trans s6) _ _ e4] at hD7;cases hD7
 have ps7:=ps1'.mono λ_ _ _ h=>mK.same (s4.trans S47) h;have ps8:=ps3.mono λ_ _ _ h=>mK.same (s4.trans S47) h;have cin:∀c∈cs,(sh≠0/\c∈es.map (·.1))\/(1-sh≠0/\c∈fs.map (·.1)):=λc hc=>by
  rw [hcs] at hc;unfold QQ at hc;rcases dB.mp hc with h | h
  ·split at h
   ·cases h
   ·rename_i z;exact .inl ⟨z,h⟩
  ·split at h
   ·cases h
   ·rename_i z;exact .inr ⟨z,h⟩
 refine ⟨D7,rfl,⟨_,fS.of e7⟩,?_⟩;refine iW (xs:=ys5++ys6) (λi σ H'=>∃(o6:Option V) (kvs:List (List dP × V)),σ=[some x,some y,some sv,some (.ref d1),some (.ref d3),some (.ref p),o6]/\aU p H7 H'/\H' p=some (.dT kvs)/\kvs.length<=i/\∀c∈cs.take i,∃v,dU kvs (kT (ci c))=some v/\DX K H' (mS F W es fs sh c) v) ⟨_,[],rfl,(bC.refl _).but,e7p,aJ _,λc hc=>by rw [List.take_zero] at hc;cases hc⟩ (λi σ H' _ ⟨_,_,_,b',_⟩=>fS.of (b'.at nD e7)) ?_ ?_
 ·rintro i v σ H8 hv ⟨o6,kvs,rfl,b8,e8,l8,hk8⟩;obtain ⟨cc,bb,hcc,rfl,hbb⟩:=at_ i v hv;have hi:i<(ys5++ys6).length:=(aK.mp hv).1;have t78:=aU.tT b8 e7p;have hbb8:=t78 _ _ hbb;have e8a:=b8.at n1 e7a;have e8b:=b8.at n3 e7b;obtain ⟨pa,pa1,pa2,pa3,pa4,pa5⟩:=(ps7.mono λ_ _ _ h=>mK.but b8 e7p h).po RA sq I.s0' cc;obtain ⟨pb,pb1,pb2,pb3,pb4,pb5⟩:=(ps8.mono λ_ _ _ h=>mK.but b8 e7p h).po RB sq' (by have:=I.s1;grind) cc;have hin:=cin cc (aZ hcc);refine ⟨_,rfl,d1,rfl,.inr ⟨kv1,.inl e8a⟩,_,rfl,_,iS.ct (c:=ci cc) e8a hbb8,?_⟩;refine ⟨_,rfl,d3,rfl,.inr ⟨kv3,.inl e8b⟩,_,rfl,_,iS.ct (c:=ci cc) e8b hbb8,?_⟩;refine BW pa1 pb1 Dd (hin.elim (λh=>.inl (pa5 h)) λh=>.inr ⟨Dd,pb5 h⟩) pa4 pb4 nd0 nd (aQ RA.b (bG Dd Dd)) Oo λv9 H9 s9 r9=>?_;have em:((List.range (1+W)).map λj=>dL ((xW pa j+xW pb j)/(yA pa+yA pb)))=mS F W es fs sh cc:=by
   unfold mS;refine dN λj hj=>?_;have hj:=cG.mp hj;rw [pa2,pb2,pa3 j hj,pb3 j hj]
   rfl
  rw [em] at r9;refine ⟨_,rfl,_,rfl,?_⟩;refine dpT (s9 _ _ e8) (c:=ci cc) (s9 _ _ hbb8) Oo λH10 e10 b10=>?_;have t10:=aU.tT b10 (s9 _ _ e8);refine ⟨_,_,rfl,(b8.trans s9.but).trans b10,e10,?_,λc' hc'=>?_⟩
  ·have:=fL kvs (kT (ci cc)) v9;omega
  ·rw [nK];by_cases q:c'=cc
   ·subst q;rw [if_pos rfl];exact ⟨v9,rfl,(MR r9).t t10⟩
   ·rw [if_neg λz=>q (iL (jT z))];rw [fC hcc] at hc';rcases dB.mp hc' with h | h
    ·obtain ⟨u,h1,h2⟩:=hk8 c' h;exact ⟨u,h1,(h2.t s9.t).t t10⟩
    ·exact absurd (bQ.mp h) q
 ·rintro σ H8 ⟨o6,kvs,rfl,b8,e8,l8,hk8⟩;rw [<-lcs,cQ] at hk8;have S8:bC H H8:=bC.thru ((S3).free hp) ((S3.trans s4).trans S47) b8;have T':=I.tg (W:=W) (aQ few Dd);obtain ⟨e0,er,ees,ez0⟩:=RA.rl.root;refine ⟨_,rfl,?_⟩;refine nA (e:=e0) (es:=er) (by rw [<-ees];exact rx.t S8.t) ?_;rw [ez0,cB];refine ⟨_,rfl,?_⟩;refine EN (R:=mR F es fs sh) (sy:=mS F W es fs sh) ⟨kvs,e8,λcc hcc=>hk8 cc ?_⟩ T' λv9 H9 s9 r9=>k v9 H9 (S8.trans s9) r9;rw [hcs];unfold QQ;rcases I.keys hcc with ⟨z,h⟩ | ⟨z,h⟩
  ·exact cX _ (by rw [if_neg z];exact h)
  ·exact aP _ (by rw [if_neg (λq=>z (by grind))];exact h)
end
abbrev LN:Nat:=144403552893600
theorem aB3:∀s,s<=35->1<=s->s ∣ LN:=Kk
theorem VZ{n:Nat}{fs:List Fr}(h:Kt.jH n fs)(hn:n<=5):∀f∈fs,Fn LN 1 f/\0<=f.1/\f.1.natAbs<=35/\f.2.natAbs<=35:=by
 obtain ⟨ns,l,h7,hp,rfl⟩:=h.ex;intro f hf;obtain ⟨x,hx,rfl⟩:=aD.mp hf;have h1:=Kt.lB h7;have h2:=h7 x hx;have hs:ns.sum.natAbs<=35:=Oo;have le:x<=ns.sum:=by
  have:∀{l:List Int},(∀y∈l,0<=y/\y<=7)->∀x∈l,x<=l.sum:=by
   intro l
   induction l with
   | nil=>intro _ x hx;cases hx
   | cons a l ih =>
    intro h x hx;have:=Kt.lB (ns:=l) λy hy=>h y (aF _ hy);have ha:=h a (aH ..);rw [List.sum_cons];rcases aT.mp hx with rfl | hx
    ·omega
    ·have:=ih (λy hy=>h y (aF _ hy)) x hx;omega
  exact this h7 x hx
 have hf:=Fn.of (n:=x) (B:=1) hp Oo;obtain ⟨n1,n2⟩:=hf.num Oo;refine ⟨hf.dvd (aB3 _ hs Oo),?_,Oo,Oo⟩;have:=Int.ediv_nonneg (a:=x) (b:=((Int.gcd x ns.sum:Nat):Int)) h2.1 (Int.natCast_nonneg _);exact this
theorem XM{n:Nat}{fs:List Fr}(h:Kt.jH n fs):sC (fs.map rv)=1:=by
 obtain ⟨ns,l,h7,hp,rfl⟩:=h.ex;have all:∀ms:List Int,sC ((ms.map λx=>lw x ns.sum).map rv)*((ns.sum:Int):Rat)=((ms.sum:Int):Rat):=by
  intro ms
  induction ms with
  | nil=>simp [qL]
  | cons a ms ih =>
   rw [aO,aO,lT,List.sum_cons,Rat.intCast_add,Rat.add_mul,ih,qW hp,Rat.div_def];have:=gU hp;grind
 have:=all ns;have hn:=gU hp;grind
theorem RE{n:Nat}{fs:List Fr}(h:Kt.jH n fs)(hn:n<=5):LJ n fs where
 len:=h.len
 at_:=λf hf=>by
  obtain ⟨h1,h2,h3,h4⟩:=VZ h hn f hf;have hb:(35:Nat)<2^3000:=Kk;exact ⟨h1.low,h2,Oo,Oo⟩
 one:=XM h
def cv(e:Kt.jB):cS:=(e.1.map Int.toNat,e.2)
theorem rP{c:List Int}(h:∀x∈c,0<=x):ci (c.map Int.toNat)=c:=by
 unfold ci;rw [List.map_map];refine (dN (g:=id) λx hx=>?_).trans (List.map_id _);have:=h x hx;show ((x.toNat:Nat):Int)=x;omega
theorem kB{c:List Int}(h:∀x∈c,0<=x):(((c.map Int.toNat).sum:Nat):Int)=c.sum:=by
 rw [<-PM,rP h]
theorem IV{c d:List Int}(h:∀x∈c,0<=x)(h':∀x∈d,0<=x)(e:c.map Int.toNat=d.map Int.toNat):c=d:=by
 rw [<-rP h,<-rP h',e]
theorem vA{c:List Int}(h:∀x∈c,0<=x){i:Nat}(hi:i<c.length):(Kt.bump c i).map Int.toNat=cW (c.map Int.toNat) i:=by
 rw [Kt.kX hi,List.map_set];unfold cW;have e1:c.getD i 0=c[i]:=by rw [aN,aC hi];rfl
 have e2:(c.map Int.toNat).getD i 0=c[i].toNat:=by rw [aN,aE,aC hi];rfl
 have:=h _ (List.getElem_mem hi);rw [e1,e2,show (c[i]+1).toNat=c[i].toNat+1 by omega]
theorem WM{n:Nat}{fs:List Fr}(h:Kt.jH (1+n) fs)(hn:n<=4):kZ fs 0≠0↔Kt.hd fs≠(0,1):=by
 obtain ⟨f,r,rfl,l,_,_,e,_⟩:=(RE h Oo).hd;rw [e];show rv f≠0↔f≠(0,1);constructor
 ·intro h1 q;exact h1 (by rw [q];exact jY)
 ·intro h1 q;exact h1 (fU l OB (by rw [q];exact jY.symm))
section
variable{F W m M:Nat}{es:List Kt.jB}
theorem TQ{c:List Int}(h:∀x∈c,0<=x)(hs:c.sum<=0):∀x∈c,x=0:=by
 induction c with
 | nil=>intro x hx;cases hx
 | cons a c ih =>
  have h1:=Kt.AO λy hy=>h y (aF _ hy);have h2:=h a (aH ..);rw [List.sum_cons] at hs;intro x hx;rcases aT.mp hx with rfl | hx
  ·omega
  ·exact ih (λy hy=>h y (aF _ hy)) Oo x hx
theorem VL:∀F:Nat,(List.replicate F (0:Int)).sum=0
 | 0=>rfl
 | n+1=>by rw [List.replicate_succ,List.sum_cons,VL n];rfl
theorem GI(F:Nat):(List.replicate F (0:Int)).map Int.toNat=List.replicate F 0:=by rw [List.map_replicate];rfl
theorem AC(R:Kt.iC F W m es)(w4:W<=4):qD F (es.map cv):=by
 have nn:∀e∈es,∀x∈e.1,0<=x:=λe he=>(R.each e he).2.1;have keys:(es.map cv).map (·.1)=(es.map (·.1)).map λc=>c.map Int.toNat:=by rw [List.map_map,List.map_map];rfl
 have kin:∀{c:List Int},c∈es.map (·.1)->c.map Int.toNat∈(es.map cv).map (·.1):=λh=>by rw [keys];exact List.mem_map_of_mem h
 refine ⟨?_,?_,?_,?_,?_,?_,?_⟩
 ·obtain ⟨e,r,he⟩:∃e r,es=e::r:=by
   cases es with
   | nil=>exact absurd rfl R.ne
   | cons e r=>exact ⟨e,r,rfl⟩
  have hz:List.replicate F (0:Int)∈es.map (·.1):=R.clo.zero.elim id λh=>by cases h
  have hem:e∈es:=by rw [he];exact aH ..
  have hle:e.1.sum<=0:=by
   obtain ⟨z,hz1,hz2⟩:=aD.mp hz;have hzs:z.1.sum=0:=by rw [hz2];exact VL F
   rw [he] at hz1;rcases aT.mp hz1 with h | h
   ·rw [<-h,hzs];exact Int.le_refl _
   ·have a:=R.asc;rw [he,aO,List.pairwise_cons] at a;have:=a.1 _ (aD.mpr ⟨z,h,rfl⟩);rw [hzs] at this;exact this
  have h0:=TQ (nn e hem) hle;refine ⟨cv e,r.map cv,by rw [he,aO],?_⟩;have:e.1=List.replicate F 0:=List.eq_replicate_iff.mpr ⟨(R.each e hem).1,h0⟩;show e.1.map Int.toNat=_;rw [this,GI]
 ·intro e he;obtain ⟨d,hd',rfl⟩:=aD.mp he;show (d.1.map Int.toNat).length=F;rw [aA];exact (R.each d hd').1
 ·rw [keys];refine Kt.hU R.nd λx hx y hy e=>?_;obtain ⟨a,ha,rfl⟩:=aD.mp hx;obtain ⟨b,hb,rfl⟩:=aD.mp hy;exact IV (nn a ha) (nn b hb) e
 ·rw [List.pairwise_map];have:=List.pairwise_map.mp R.asc;refine this.imp_of_mem λ{a b} ha hb h=>?_;have h1:=kB (nn a ha);have h2:=kB (nn b hb);show (a.1.map Int.toNat).sum<=(b.1.map Int.toNat).sum;omega
 ·intro e he h0 f hf;obtain ⟨d,hd',rfl⟩:=aD.mp he;obtain ⟨d1,d2,d3,d4⟩:=R.each d hd';have hn:Kt.hd d.2≠(0,1):=(WM d4 w4).mp h0;have hb:Kt.bump d.1 f∈Kt.nexts d.1 (Kt.hd d.2):=by
   unfold Kt.nexts;rw [if_neg hn];exact aD.mpr ⟨f,cG.mpr Oo,rfl⟩
  have:=(R.clo.fwd d hd' _ hb).elim id λh=>by cases h
  show cW (d.1.map Int.toNat) f∈_;rw [<-vA d2 Oo];exact kin this
 ·intro c hc hn;rw [keys] at hc;obtain ⟨c0,hc0,rfl⟩:=aD.mp hc;rcases R.clo.bwd c0 (.inl hc0) with rfl | ⟨d,hd',hc'⟩
  ·exact absurd (GI F) hn
  ·obtain ⟨d1,d2,d3,d4⟩:=R.each d hd';unfold Kt.nexts at hc';split at hc'
   ·cases hc'
   ·rename_i h0
    obtain ⟨f,hf,rfl⟩:=aD.mp hc';have hf:=cG.mp hf;exact ⟨cv d,aD.mpr ⟨d,hd',rfl⟩,(WM d4 w4).mpr h0,f,Oo,(vA d2 hf).symm⟩
 ·intro e he;obtain ⟨d,hd',rfl⟩:=aD.mp he;exact (RE (R.each d hd').2.2.2 Oo).nn 0
theorem aBy(R:Kt.iC F W m es)(f1:1<=F)(f4:F<=4)(w4:W<=4)(hm:m<=M)(hM:M<=4)(few:(rise F M).length<=20):pQ F W M (LN^5) (5^20) LN (es.map cv):=by
 have RL:=AC R w4;have sums:∀e∈es.map cv,e.1.sum<=M:=λe he=>by
  obtain ⟨d,hd',rfl⟩:=aD.mp he;obtain ⟨d1,d2,d3,d4⟩:=R.each d hd';have:=kB d2;show (d.1.map Int.toNat).sum<=M;omega
 have hl:(es.map cv).length<=20:=by
  refine aQ ?_ few;have:=iO RL.nd λc hc=>by
   obtain ⟨e,he,rfl⟩:=aD.mp hc;exact (rB (M:=M) f1).mpr ⟨RL.len e he,sums e he⟩
  rwa [aA] at this
 have sy:∀e∈es.map cv,Kt.jH (1+W) e.2:=λe he=>by
  obtain ⟨d,hd',rfl⟩:=aD.mp he;exact (R.each d hd').2.2.2
 have qv:∀e∈es.map cv,∀v,Qn LN 1 (kZ e.2 v):=λe he v=>by
  by_cases hv:v<e.2.length
  ·exact (VZ (sy e he) Oo _ (yN (a:=(0,1)) hv)).1.q
  ·rw [zO Oo];exact Qn.zero _ _
 have b5:∀n,n<=20->5^n<=5^20:=λn h=>bG Dd h;have fl:∀e∈es.map cv,Qn (LN^e.1.sum) (5^20) (bJ F (es.map cv) e.1):=λe he=>by
  have:=RL.qn (N:=LN) (λe he=>qv e he 0) f4 (es.map cv).length (aJ _) e.1;rw [cQ] at this;exact this.le (b5 _ hl)
 refine ⟨RL,sums,λe he=>RE (sy e he) Oo,Oo,λe he h0=>?_,λe he=>?_,λe he v=>?_,Nat.pow_pos Dd,Dd,?_,Kk,Oo⟩
 ·have:=RL.fwd e he h0 0 Oo;obtain ⟨e',he',q⟩:=aD.mp this;have h1:=sums e' he';rw [q,jO (by rw [RL.len e he];omega)] at h1;omega
 ·exact (fl e he).dvd (Nat.pow_dvd_pow _ (by have:=sums e he;omega))
 ·have:=(fl e he).mul (qv e he v);rw [Nat.mul_one,<-Nat.pow_succ] at this;exact this.dvd (Nat.pow_dvd_pow _ (by have:=sums e he;omega))
 ·have:LN^M<=LN^4:=bG Dd hM;have h2:LN^5*LN^4<2^2000:=Kk;exact bB (dM _ this) h2
theorem aBx{K:PySem.W.Frag}{H:Hp}{v:V}(R:Kt.iC F W m es)(h:cO H (Kt.xM es) v):uY K H (es.map cv) v:=by
 obtain ⟨a,xs,rfl,ha,r⟩:=EK h;refine ⟨a,xs,rfl,ha,by rw [rA r,aA],λi x hx=>?_⟩;obtain ⟨e,he,re⟩:=iH r hx;obtain ⟨d1,d2,d3,d4⟩:=R.each e (aZ he);refine ⟨cv e,by rw [aE,he];rfl,?_⟩;obtain ⟨b,us,rfl,hb,rus⟩:=EK re;obtain ⟨u,z,rfl,ru,rz⟩:=QH rus;obtain ⟨cu,rfl,hcu⟩:=Kt.kU ru;refine ⟨b,cu,z,rfl,hb,?_,MR rz⟩;rw [hcu];show some (HO.tup (e.1.map V.int))=some (.tup ((e.1.map Int.toNat).map FW));rw [<-iY,rP d2]
end
theorem pQ.mx{F W M N B Ns:Nat}{es fs:List cS}{s:Rat}(A:pQ F W M N B Ns es)(A':pQ F W M N B Ns fs)(f1:1<=F)(f4:F<=4)(m5:M<=5)(h0:0<=s)(h1:s<=1):fE F W M es fs s :=
 ⟨A.rl,A'.rl,f1,f4,m5,A.sy,A'.sy,λe he=>⟨A.sum e he,A.on e he⟩,λe he=>⟨A'.sum e he,A'.on e he⟩,h0,h1⟩
theorem NW{F W M:Nat}{es fs es' fs':List cS}{s s':Rat}(ha:∀c,mA F es fs s c=mA F es' fs' s' c)(hx:∀c j,j<1+W->mX F es fs s c j=mX F es' fs' s' c j):mE F W M es fs s=mE F W M es' fs' s':=by
 have e1:mB F es fs s=mB F es' fs' s':=funext λc=>by unfold mB;rw [hx c 0 Oo]
 have e2:mS F W es fs s=mS F W es' fs' s':=funext λc=>by
  unfold mS;exact dN λj hj=>by rw [hx c j (cG.mp hj),ha c]
 unfold mE;rw [e1,e2]
abbrev sQ8:Stmt:=(top 45)
theorem cQ8:bZ ["_law_one","_law_other"] ["_law_one","_law_other"] (bA sQ8):=⟨rfl,rfl,rfl,Kk,rfl,Kk,Kk⟩
abbrev YM:Stmt:=(top 46)
theorem aDO:bZ ["_law_one","_law_other"] ["_law_one","_law_other"] (bA YM):=⟨rfl,rfl,rfl,Kk,rfl,Kk,Kk⟩
@[irreducible] def lW(K:PySem.W.Frag):Sp:=λvs H Q _=>∃x y f g,vs=[x,y]/\gL K H f x/\gL K H g y/\eM f/\eM g/\lM 4000 f/\lM 4000 g/\oT H Q (oR f g)
theorem pW{K:PySem.W.Frag}{H:Hp}{Q:VK}{E:XK}{x y:V}{f g:Fr}(h1:gL K H f x)(h2:gL K H g y)(l1:eM f)(l2:eM g)(z1:lM 4000 f)(z2:lM 4000 g)(q:oT H Q (oR f g)):lW K [x,y] H Q E:=by unfold lW;exact ⟨x,y,f,g,rfl,h1,h2,l1,l2,z1,z2,q⟩
@[irreducible] def kE(K:PySem.W.Frag):Sp:=λvs H Q _=>∃x y f g,vs=[x,y]/\gL K H f x/\gL K H g y/\eM f/\eM g/\lM 4000 f/\lM 4000 g/\oT H Q (pK f g)
theorem nZ{K:PySem.W.Frag}{H:Hp}{Q:VK}{E:XK}{x y:V}{f g:Fr}(h1:gL K H f x)(h2:gL K H g y)(l1:eM f)(l2:eM g)(z1:lM 4000 f)(z2:lM 4000 g)(q:oT H Q (pK f g)):kE K [x,y] H Q E:=by unfold kE;exact ⟨x,y,f,g,rfl,h1,h2,l1,l2,z1,z2,q⟩
section
theorem oQ8(F:jA K "_law_plus" "_law_plus" sQ8 f fd)(T:kY K mg c)(FQ4:gK dQ P w K mg base 1 "_law_frac" ["_law_n","_law_d"] iF):dZ P w K mg base dQ 2 f fd ["_law_one","_law_other"] (lW K):=by
 refine F.oky cQ8 λvs H Q E h=>?_;unfold lW at h;obtain ⟨x,y,f,g,rfl,h1,h2,l1,l2,z1,z2,q⟩:=h;refine ⟨rfl,λcdv A outer s hr=>?_⟩;obtain ⟨p1,rfl,e1⟩:=h1;obtain ⟨p2,rfl,e2⟩:=h2;refine ⟨_,(bE (cF (bR FQ4 (hr.mono Dd) (aM (cN fZ (cN fK (cH bU (aI 0) aL (λ_ _=>rfl)) (cH bU (aI 1) aL (λ_ _=>rfl))) (cN fK (cH bU (aI 1) aL (λ_ _=>rfl)) (cH bU (aI 0) aL (λ_ _=>rfl)))) (aM (cN fK (cH bU (aI 0) aL (λ_ _=>rfl)) (cH bU (aI 1) aL (λ_ _=>rfl))) aG))))),?_⟩;refine ⟨_,rfl,?_⟩;refine mF e1 rfl ?_;refine ⟨_,rfl,?_⟩;refine mF e2 rfl ?_;refine ⟨_,_,rfl,rfl,uD z1.1 z2.2,?_⟩;refine ⟨_,rfl,?_⟩;refine mF e2 rfl ?_;refine ⟨_,rfl,?_⟩;refine mF e1 rfl ?_;refine ⟨_,_,rfl,rfl,uD z2.1 z1.2,_,_,rfl,rfl,?_⟩;refine ⟨_,rfl,?_⟩;refine mF e1 rfl ?_;refine ⟨_,rfl,?_⟩;refine mF e2 rfl ?_;refine ⟨_,_,rfl,rfl,uD z1.2 z2.2,?_⟩;refine jE (Int.mul_pos l1.pos l2.pos) (iU (vB z1.2 z2.2)) ?_;exact q
theorem aDg(F:jA K "_law_times" "_law_times" YM f fd)(T:kY K mg c)(FQ4:gK dQ P w K mg base 1 "_law_frac" ["_law_n","_law_d"] iF):dZ P w K mg base dQ 2 f fd ["_law_one","_law_other"] (kE K):=by
 refine F.oky aDO λvs H Q E h=>?_;unfold kE at h;obtain ⟨x,y,f,g,rfl,h1,h2,l1,l2,z1,z2,q⟩:=h;refine ⟨rfl,λcdv A outer s hr=>?_⟩;obtain ⟨p1,rfl,e1⟩:=h1;obtain ⟨p2,rfl,e2⟩:=h2;refine ⟨_,(bE (cF (bR FQ4 (hr.mono Dd) (aM (cN fK (cH bU (aI 0) aL (λ_ _=>rfl)) (cH bU (aI 1) aL (λ_ _=>rfl))) (aM (cN fK (cH bU (aI 0) aL (λ_ _=>rfl)) (cH bU (aI 1) aL (λ_ _=>rfl))) aG))))),?_⟩;refine ⟨_,rfl,?_⟩;refine mF e1 rfl ?_;refine ⟨_,rfl,?_⟩;refine mF e2 rfl ?_;refine ⟨_,_,rfl,rfl,uD z1.1 z2.1,?_⟩;refine ⟨_,rfl,?_⟩;refine mF e1 rfl ?_;refine ⟨_,rfl,?_⟩;refine mF e2 rfl ?_;refine ⟨_,_,rfl,rfl,uD z1.2 z2.2,?_⟩;refine jE (Int.mul_pos l1.pos l2.pos) (iU (vB z1.2 z2.2)) ?_;exact q
end
end Kw
namespace Kt
open PySem L2 Mf Kw
abbrev sQ6:Stmt:=(top 55)
theorem cQ6:bZ ["_law_tape_here","_law_kinds","_law_faces","_law_ways","_law_most","_law_one","_law_other"] ["_law_tape_here","_law_kinds"] (bA sQ6):=⟨rfl,rfl,rfl,Kk,rfl,Kk,Kk⟩
@[irreducible] def oB:Sp:=λvs H Q _=>∃(p:Addr) (n:Nat),vs=[.ref p,.int 6]/\cK H p (n+20000)/\∀v x y es fs F W m H',cK H' p n->aU p H H'->H' v=some (.tup [.int (F:Nat),.int (W:Nat),x,y])->jV F W m->cO H' (xM es) x->cO H' (xM fs) y->iC F W m es->(∃m',m'<=m/\iC F W m' fs)->Q (.ref v) H'
theorem ET{H:Hp}{Q:VK}{E:XK}{p:Addr}{n:Nat}(h1:cK H p (n+20000))(k:∀v x y es fs F W m H',cK H' p n->aU p H H'->H' v=some (.tup [.int (F:Nat),.int (W:Nat),x,y])->jV F W m->cO H' (xM es) x->cO H' (xM fs) y->iC F W m es->(∃m',m'<=m/\iC F W m' fs)->Q (.ref v) H'):oB [.ref p,.int 6] H Q E:=by
 unfold oB;exact ⟨p,n,rfl,h1,k⟩
theorem qZ:∀es:List jB,fD (xM es)=true:=λes=>by
 have all:∀es:List jB,eP (es.map DB)=true:=λes=>by
  induction es with
  | nil=>rfl
  | cons e es ih=>show (fD (DB e)&&eP (es.map DB))=true;rw [ih,CZ];rfl
 exact all es
section
theorem oQ6(F:jA K "_law_pair" "_law_pair" sQ6 f fd)(T:kY K mg c)(FQ7:gK dQ P w K mg base 1 "_law_pick" ["_law_tape_here","_law_many"] jX)(FQ13:gK dQ P w K mg base 2 "_law_sizes" ["_law_tape_here"] nT)(FQ10:gK dQ P w K mg base 4 "_law_rule" ["_law_tape_here","_law_faces","_law_ways","_law_most","_law_plain"] qO):dZ P w K mg base dQ 5 f fd ["_law_tape_here","_law_kinds"] oB:=by
 refine F.oky cQ6 λvs H Q E h=>?_;unfold oB at h;obtain ⟨p,n,rfl,T0,k⟩:=h;refine ⟨rfl,λcdv A outer s hr=>?_⟩;refine ⟨_,(aS (zM (bR FQ13 (hr.mono Dd) (aM (aI 0) aG)) (nJ rfl (eF (dF (i:=2) cQ6.nd rfl (Or.inl rfl)) (eF (dF (i:=3) cQ6.nd rfl (Or.inl rfl)) (eF (dF (i:=4) cQ6.nd rfl (Or.inl rfl)) lA)))))
  (aS (bS (i:=5) cQ6.nd rfl (Or.inl rfl) (bR FQ10 (hr.mono Dd) (aM (aI 0) (aM (aI 2) (aM (aI 3) (aM (aI 4) (aM (jR nB (bR FQ7 (hr.mono Dd) (aM (aI 0) (aM aL aG))) aL (nomark _)) aG)))))))
  (aS (bS (i:=6) cQ6.nd rfl (Or.inl rfl) (bR FQ10 (hr.mono Dd) (aM (aI 0) (aM (aI 2) (aM (aI 3) (aM (eR (yU rfl) (by rfl) T.b_max Kk (aM aL (aM (cN AL (aI 4) (bR FQ7 (hr.mono Dd) (aM (aI 0) (aM aL aG)))) aG))) (aM (jR nB (bR FQ7 (hr.mono Dd) (aM (aI 0) (aM aL aG))) aL (nomark _)) aG)))))))
  (aS (zK (gE (eD nB (bR FQ7 (hr.mono Dd) (aM (aI 0) (aM (aI 1) aG))) aL (nomark _)) (bE (bS (i:=6) cQ6.nd rfl (Or.inl rfl) (aI 5))) dY))
  (bE (cF (dS (aM (aI 2) (aM (aI 3) (aM (aI 5) (aM (aI 6) aG))))))))))),?_⟩
 refine ⟨_,rfl,?_⟩;refine EQ (n:=n+19997) (T0.less Oo) λq1 nF nW nM H1 Z T1 s1 e1=>?_;refine ⟨q1,_,rfl,eZ.of e1,rfl,?_⟩;refine ⟨_,_,rfl,_,_,rfl,_,_,rfl,rfl,?_⟩;refine ⟨_,rfl,_,rfl,_,rfl,_,rfl,_,rfl,?_⟩;refine eO (n:=n+19996) (T1.less Oo) Dd Kk λx2 H2 x20 x21 T2 s2=>?_;refine ⟨rfl,?_⟩;refine yB (n:=n+11000) (T2.less Oo) Z λv3 es H3 T3 s3 r3 R3=>?_;refine ⟨_,rfl,_,rfl,_,rfl,_,rfl,_,rfl,?_⟩;refine eO (n:=n+10999) (T3.less Oo) Dd Kk λx4 H4 x40 x41 T4 s4=>?_;refine ⟨_,_,rfl,rfl,?_⟩;refine ⟨_,_,rfl,?_⟩;obtain ⟨m',hm',em⟩:∃m':Nat,m'<=nM/\(if (nM:Int)-x4 > 0 then (nM:Int)-x4 else 0)=((m':Nat):Int):=⟨((nM:Int)-x4).toNat,Oo,by split <;> omega⟩;rw [em];refine ⟨_,rfl,?_⟩;refine eO (n:=n+10998) (T4.less Oo) Dd Kk λx5 H5 x50 x51 T5 s5=>?_;refine ⟨rfl,?_⟩;have Z':jV nF nW m':=⟨Z.w,by have:=Z.f;omega⟩;refine yB (n:=n+2000) (T5.less Oo) Z' λv6 fs H6 T6 s6 r6 R6=>?_;refine ⟨λσ H'=>∃z gs,σ=[some (.ref p),some (.int 6),some (.int (nF:Nat)),some (.int (nW:Nat)),some (.int (nM:Nat)),some v3,some z]/\cK H' p n/\aU p H H'/\cO H' (xM es) v3/\cO H' (xM gs) z/\∃m',m'<=nM/\iC nF nW m' gs,?_,?_⟩
 ·rintro σ H7 ⟨z,gs,rfl,T7,B7,rx,rz,hgs⟩;refine ⟨_,rfl,_,rfl,_,rfl,_,rfl,?_⟩;refine pJ (by show 4<=64;decide) λv H8 hv e8 s8=>?_;exact k v v3 z es gs nF nW nM H8 (T7.same s8) (B7.trans s8.but) e8 Z (rx.same s8) (rz.same s8) R3 hgs
 ·refine ⟨_,rfl,_,rfl,?_⟩;refine eO (n:=n+1999) (T6.less Oo) Dd Kk λx7 H7 x70 x71 T7 s7=>?_;have t36:dX H3 H6:=((T3.t s4).trans (T4.t s5)).trans (T5.t s6);have rx:cO H7 (xM es) v3:=r3.flat (t36.trans (T6.t s7)) (qZ es);have ry:cO H7 (xM fs) v6:=r6.flat (T6.t s7) (qZ fs);have B7:aU p H H7:=(((((s1.trans s2).trans s3).trans s4).trans s5).trans s6).trans s7;refine ⟨rfl,_,rfl,?_⟩;refine AV (λh=>?_) (λh=>?_)
  ·refine ⟨_,rfl,?_⟩;exact ⟨v3,es,rfl,T7.less Oo,B7,rx,rx,nM,aJ _,R3⟩
  ·exact ⟨v6,fs,rfl,T7.less Oo,B7,rx,ry,m',hm',R6⟩
end
abbrev sQ9:Stmt:=(top 52)
theorem cQ9:bZ ["_law_faces","_law_many","_law_found","_law_k","_law_longer","_law_row"] ["_law_faces","_law_many"] (bA sQ9):=⟨rfl,rfl,rfl,Kk,rfl,Kk,Kk⟩
abbrev sQ2:Stmt:=(top 53)
theorem cQ2:bZ ["_law_faces","_law_row"] ["_law_faces","_law_row"] (bA sQ2):=⟨rfl,rfl,rfl,Kk,rfl,Kk,Kk⟩
abbrev sQ0:Stmt:=(top 54)
theorem cQ0:bZ ["_law_rule_here","_law_faces","_law_row","_law_table","_law_found","_law_k","_law_counts_here"] ["_law_rule_here","_law_faces","_law_row"] (bA sQ0):=⟨rfl,rfl,rfl,Kk,rfl,Kk,Kk⟩
def fR(es:List jB)(c:List Int):Option (List Fr):=(es.find? λe=>decide (e.1=c)).map (·.2)
theorem FE{H:Hp}{es:List jB}{v:V}(h:cO H (xM es) v):∃a xs,v=.ref a/\H a=some (.tup xs)/\bD H (es.map DB) xs:=by
 unfold cO at h;exact h
theorem FU{H:Hp}{e:jB}{v:V}(h:cO H (DB e) v):∃a x y,v=.ref a/\H a=some (.tup [x,y])/\cO H (fW e.1) x/\cO H (sE e.2) y:=by
 unfold cO bD bD bD at h;obtain ⟨a,_,rfl,h1,x,_,rfl,r1,y,_,rfl,r2,rfl⟩:=h;exact ⟨a,x,y,rfl,h1,r1,r2⟩
theorem KQ(c:List Int):SeqAt.shaped (fW c)=true:=by
 unfold SeqAt.shaped;rw [show PyData.canLay0 (fW c)=PyData.canLayAll0 (c.map .int) from rfl,wE,Bool.true_and,decide_eq_true_eq];have:=DE c;simp only [PyData.depth];omega
abbrev EnV(H:Hp)(p:List dP × V)(e:jB):Prop:=p.1=e.1.map Sum.inl/\cO H (sE e.2) p.2
theorem AT(c:List Int):(c.map (Sum.inl:Int->dP)).map kV=c.map V.int:=by rw [List.map_map];rfl
theorem HP{a b:List Int}(h:a.map (Sum.inl:Int->dP)=b.map Sum.inl):a=b:=by
 have:=congrArg (List.map kV) h;rw [AT,AT] at this;exact tP this
theorem CI{H:Hp}:∀{es:List jB}{xs:List V},bD H (es.map DB) xs->∃kvs,Paired (wX H) xs kvs/\Paired (EnV H) kvs es
 | [],xs,r=>by
  unfold bD at r;cases (show xs=[] from r);exact ⟨[],.nil,.nil⟩
 | e::es,xs,r=>by
  rw [aO] at r;unfold bD at r;obtain ⟨x,xs',rfl,r1,r2⟩:=r;obtain ⟨kvs,h1,h2⟩:=CI r2;obtain ⟨b,u,v,rfl,hb,ru,rv⟩:=FU r1;obtain ⟨cu,rfl,hcu⟩:=kU ru;exact ⟨(e.1.map Sum.inl,v)::kvs,.cons ⟨b,cu,rfl,hb,by rw [AT];exact hcu⟩ h1,.cons ⟨rfl,rv⟩ h2⟩
theorem HL{H:Hp}:∀{kvs:List (List dP × V)}{es:List jB},Paired (EnV H) kvs es->kvs.map (·.1)=es.map λe=>e.1.map Sum.inl
 | _,_,.nil=>rfl
 | _,_,.cons h t=>by rw [aO,aO,h.1,HL t]
theorem MA{H:Hp}{c:List Int}:∀{kvs:List (List dP × V)}{es:List jB},Paired (EnV H) kvs es->(fR es c=none->dU kvs (c.map Sum.inl)=none)/\∀fs,fR es c=some fs->∃v,dU kvs (c.map Sum.inl)=some v/\cO H (sE fs) v
 | _,_,.nil=>⟨λ_=>rfl,λfs h=>by unfold fR at h;cases h⟩
 | p::kvs,e::es,.cons h t=>by
  by_cases he:e.1=c
  ·have e1:dU (p::kvs) (c.map Sum.inl)=some p.2:=fH (by rw [h.1,he]);have e2:fR (e::es) c=some e.2:=by unfold fR;rw [List.find?_cons_of_pos (by simpa using he)];rfl
   rw [e1,e2];exact ⟨(λh=>by cases h),λfs hf=>by cases hf;exact ⟨_,rfl,h.2⟩⟩
  ·have e1:dU (p::kvs) (c.map Sum.inl)=dU kvs (c.map Sum.inl):=fI (by rw [h.1];exact λz=>he (HP z));have e2:fR (e::es) c=fR es c:=by unfold fR;rw [List.find?_cons_of_neg (by simpa using he)]
   rw [e1,e2];exact MA t
theorem tO{H H':Hp}(s:bC H H'):∀{kvs:List (List dP × V)}{es:List jB},Paired (EnV H) kvs es->Paired (EnV H') kvs es
 | _,_,.nil=>.nil
 | _,_,.cons h t=>.cons ⟨h.1,h.2.same s⟩ (tO s t)
def NN:Int:=144403552893600
theorem aA0{S:Int}(h0:0<S)(h:S<=35):S ∣ NN:=by
 obtain ⟨n,rfl⟩:∃n:Nat,S=(n:Int):=⟨S.toNat,Oo⟩;have:∀k:Fin 36,0<k.val->(NN % (k.val:Int))=0:=Kk;exact Int.dvd_of_emod_eq_zero (this ⟨n,Oo⟩ (by show 0<n;omega))
def gF(f:Fr):Int:=f.1*(NN/f.2)
structure EC(f:Fr):Prop where
 low:eM f
 nn:0<=f.1
 le:f.1<=f.2
 dvd:f.2 ∣ NN
 d35:f.2<=35
theorem vZ:∀{ns:List Int},(∀x∈ns,0<=x/\x<=7)->∀x∈ns,x<=ns.sum
 | [],_,x,h=>by cases h
 | a::ns,h,x,m=>by
  have h1:=lB (ns:=ns) λx hx=>h x (aF _ hx);have h2:=h a (aH ..);rw [List.sum_cons];rcases aT.mp m with rfl | m
  ·omega
  ·have:=vZ (λx hx=>h x (aF _ hx)) x m;omega
theorem jH.each{n:Nat}{fs:List Fr}(h:jH n fs)(hn:n<=5):∀f∈fs,EC f:=λf hf=>by
 obtain ⟨ns,h1,h2,h3,rfl⟩:=h.ex;obtain ⟨x,hx,rfl⟩:=aD.mp hf;have b:=h2 x hx;have s7:=lB h2;have sx:=vZ h2 x hx;have hg:=hZ (n:=x) h3;obtain ⟨e1,e2⟩:=NZ (n:=x) (d:=ns.sum);have hle:=(NY (n:=x) h3).1;refine ⟨gA h3,?_,?_,Int.dvd_trans ⟨_,e2.symm⟩ (aA0 h3 Oo),Oo⟩
 ·exact Int.ediv_nonneg b.1 Oo
 ·refine Int.le_of_mul_le_mul_right (a:=(Int.gcd x ns.sum:Int)) ?_ hg;rw [e1,e2];exact sx
theorem EC.pos{f:Fr}(h:EC f):0<f.2:=h.low.pos
theorem EC.q{f:Fr}(h:EC f):0<NN/f.2:=Int.ediv_pos_of_pos_of_dvd Dd (by have:=h.pos;omega) h.dvd
theorem EC.gnn{f:Fr}(h:EC f):0<=gF f:=Int.mul_nonneg h.nn (by have:=h.q;omega)
theorem EC.gle{f:Fr}(h:EC f):gF f<=NN:=by
 have e:NN/f.2*f.2=NN:=Int.ediv_mul_cancel h.dvd;have hq:0<=NN/f.2:=Int.le_of_lt h.q;have:=Int.mul_le_mul_of_nonneg_right h.le hq;unfold gF;rw [Int.mul_comm f.2,e] at this;exact this
theorem EC.lw{f:Fr}(h:EC f):Mf.lw (gF f) NN=f:=TU h.low Dd h.dvd
theorem EC.zero{f:Fr}(h:EC f):gF f=0↔f=(0,1):=by
 constructor
 ·intro e;have e1:=h.lw;rw [e,TR Dd] at e1;exact e1.symm
 ·rintro rfl;rfl
theorem jH.cons{n:Nat}{fs:List Fr}(h:jH (1+n) fs):∃f r,fs=f::r:=by
 have:=h.len;cases fs with
 | nil=>simp at this;omega
 | cons f r=>exact ⟨f,r,rfl⟩
theorem jH.hd{n:Nat}{fs:List Fr}(h:jH (1+n) fs)(hn:n<=4):EC (Kt.hd fs):=by
 obtain ⟨f,r,rfl⟩:=h.cons;exact h.each Oo f (aH ..)
def gO(es:List jB)(c:List Int):Int:=match fR es c with
 | none=>0
 | some fs=>gF (hd fs)
theorem vL{es:List jB}{c:List Int}{fs:List Fr}(h:fR es c=some fs):(c,fs)∈es:=by
 unfold fR at h;obtain ⟨e,h1,h2⟩:=eE.mp h;have:=List.find?_some h1;have e1:e.1=c:=by simpa using this
 have hm:=List.mem_of_find?_eq_some h1;rw [<-e1,<-h2];exact hm
theorem yE{es:List jB}{c:List Int}:fR es c=none↔c ∉ es.map (·.1):=by
 unfold fR;rw [Option.map_eq_none_iff,List.find?_eq_none];constructor
 ·intro h m;obtain ⟨e,he,q⟩:=aD.mp m;exact h e he (by simpa using q)
 ·intro h e he q;exact h (aD.mpr ⟨e,he,by simpa using q⟩)
theorem CA{es:List jB}(nd:(es.map (·.1)).Nodup):∀{e:jB},e∈es->fR es e.1=some e.2:=by
 induction es with
 | nil=>intro e h;cases h
 | cons a es ih =>
  intro e h;rw [aO] at nd;obtain ⟨h1,h2⟩:=List.nodup_cons.mp nd;unfold fR;rcases aT.mp h with rfl | h
  ·rw [List.find?_cons_of_pos (by simp)];rfl
  ·have ne:a.1≠e.1:=λq=>h1 (by rw [q];exact aD.mpr ⟨e,h,rfl⟩);rw [List.find?_cons_of_neg (by simpa using ne)];exact ih h2 h
section
variable{F W M:Nat}{es:List jB}
theorem iC.sh(R:iC F W M es)(Z:jV F W M){c:List Int}{fs:List Fr}(h:fR es c=some fs):EC (hd fs):=(R.each _ (vL h)).2.2.2.hd (by have:=Z.w.2;omega)
theorem WN(R:iC F W M es){e:jB}(h:e∈es):gO es e.1=gF (hd e.2):=by unfold gO;rw [CA R.nd h]
theorem JX{c d:List Int}{f:Fr}(h:c∈nexts d f):f≠(0,1)/\∃j,j<d.length/\c=bp d j:=by
 unfold nexts at h;by_cases q:f=(0,1)
 ·rw [if_pos q] at h;cases h
 ·rw [if_neg q] at h;obtain ⟨j,hj,e⟩:=aD.mp h;have hj:=cG.mp hj;exact ⟨q,j,hj,by rw [<-e,kX hj];rfl⟩
theorem iC.rl(R:iC F W M es)(Z:jV F W M):Rl F (gO es) (es.map (·.1)) where
 nd:=R.nd
 len:=λc hc=>by
  obtain ⟨e,he,rfl⟩:=aD.mp hc;exact (R.each e he).1
 nn:=λc hc=>by
  obtain ⟨e,he,rfl⟩:=aD.mp hc;exact (R.each e he).2.1
 asc:=by rw [List.map_map];exact R.asc
 off:=λc hc=>by unfold gO;rw [yE.mpr hc]
 pos:=λc=>by
  unfold gO;cases q:fR es c with
  | none=>exact Int.le_refl _
  | some fs=>exact (R.sh Z q).gnn
 zero:=by
  rcases R.clo.zero with h | h
  ·exact h
  ·cases h
 fwd:=λc hc hg j hj=>by
  obtain ⟨e,he,rfl⟩:=aD.mp hc;rw [WN R he] at hg;have sh:=(R.each e he).2.2.2.hd (by have:=Z.w.2;omega);have hl:=(R.each e he).1;have hf:Kt.hd e.2≠(0,1):=λq=>hg (sh.zero.mpr q);have:bp e.1 j∈nexts e.1 (Kt.hd e.2):=by
   unfold nexts;rw [if_neg hf];exact aD.mpr ⟨j,cG.mpr Oo,kX Oo⟩
  rcases R.clo.fwd e he _ this with h | h
  ·exact h
  ·cases h
 bwd:=λc hc=>by
  rcases R.clo.bwd c (.inl hc) with h | ⟨e,he,h⟩
  ·exact .inl h
  ·obtain ⟨hf,j,hj,e1⟩:=JX h;have sh:=(R.each e he).2.2.2.hd (by have:=Z.w.2;omega);refine .inr ⟨e.1,aD.mpr ⟨e,he,rfl⟩,?_,j,by rw [<-(R.each e he).1];exact hj,e1⟩;rw [WN R he];exact λq=>hf (sh.zero.mp q)
theorem iC.gle(R:iC F W M es)(Z:jV F W M)(c:List Int):gO es c<=NN:=by
 unfold gO;cases q:fR es c with
 | none=>decide
 | some fs=>exact (R.sh Z q).gle
theorem QK(n:Nat):0<NN^n:=Int.pow_pos Dd
theorem WZ{n:Nat}(h:n<=5):(NN^n).natAbs<2^300:=by
 have:∀k:Fin 6,(NN^k.val).natAbs<2^300:=Kk;exact this ⟨n,Oo⟩
theorem WH{x d:Int}{k:Nat}(hd:0<d)(h1:x.natAbs<2^k)(h2:d.natAbs<2^k):lM k (lw x d):=by
 obtain ⟨a,b⟩:=NY (n:=x) hd;have:=(gA (n:=x) hd).pos;exact ⟨bB b h1,by have:(lw x d).2.natAbs<=d.natAbs:=Oo;exact bB this h2⟩
theorem kQ(F:Nat):∀n:Nat,(gT F n).length=F^n
 | 0=>rfl
 | n+1=>by
  show ((gT F n).flatMap λr=>(List.range F).map λj=>r++[j]).length=_;rw [List.length_flatMap];have:(gT F n).map (λr=>((List.range F).map λj=>r++[j]).length)=(gT F n).map λ_=>F:=dN λr _=>by simp
  rw [this,Nat.pow_succ,<-kQ F n];have hs:∀(l:List (List Nat)),(l.map λ_=>F).sum=l.length*F:=λl=>by
   induction l with
   | nil=>simp
   | cons a l ih=>rw [aO,List.sum_cons,ih,cM,Nat.add_mul,Nat.one_mul];omega
  exact hs _
end
abbrev rwI(r:List Nat):List Int:=r.map λn:Nat=>(n:Int)
abbrev MU(r:List Nat):PyData:=fW (rwI r)
def QF(H:Hp)(b:Addr)(rs:List (List Nat)):Prop:=∃xs,H b=some (.lst xs)/\bD H (rs.map MU) xs
theorem vM:∀rs:List (List Nat),eP (rs.map MU)=true
 | []=>rfl
 | r::rs=>by show (fD (MU r)&&eP (rs.map MU))=true;rw [vM rs,fO];rfl
theorem DJ(r:List Nat)(i:Nat):(rwI r).count (i:Int)=r.count i:=by
 induction r with
 | nil=>rfl
 | cons a r ih =>
  show List.count (i:Int) ((a:Int)::rwI r)=_;rw [List.count_cons,List.count_cons,ih];congr 1;by_cases e:a=i
  ·subst e;simp
  ·have:¬((a:Int)=(i:Int)):=Oo;simp [e,this]
theorem CF{H:Hp}:∀{ds es:List PyData}{xs ys:List V},bD H ds xs->bD H es ys->bD H (ds++es) (xs++ys)
 | [],es,xs,ys,h1,h2=>by
  have:xs=[]:=h1;subst this;exact h2
 | d::ds,es,xs,ys,h1,h2=>by
  unfold bD at h1;obtain ⟨x,xs',rfl,hx,hr⟩:=(show ∃x xs',xs=x::xs'/\cO H d x/\bD H ds xs' from h1);exact bD.cons hx (CF hr h2)
theorem tyU{K:PySem.W.Frag}{H:Hp}{l:Addr}{xs:List V}(h:H l=some (.tup xs)):tyV K "tuple" (.ref l) H:=.inr (.inl ⟨rfl,.inr ⟨xs,h⟩⟩)
@[irreducible] def oA:Sp:=λvs H Q _=>∃F n:Nat,vs=[.int (F:Int),.int (n:Int)]/\F<=4/\n<=4/\1<=F/\∀b H',bC H H'->H b=none->QF H' b (gT F n)->Q (.ref b) H'
theorem ER{H:Hp}{Q:VK}{E:XK}{F n:Nat}(h4:F<=4)(hn:n<=4)(h1:1<=F)(q:∀b H',bC H H'->H b=none->QF H' b (gT F n)->Q (.ref b) H'):oA [.int (F:Int),.int (n:Int)] H Q E:=by unfold oA;exact ⟨F,n,rfl,h4,hn,h1,q⟩
@[irreducible] def jF:Sp:=λvs H Q _=>∃(F:Nat) (x:V) (r:List Nat),vs=[.int (F:Int),x]/\cO H (MU r) x/\F<=64/\∀v H',bC H H'->cO H' (fW (cI F r)) v->Q v H'
theorem qR{H:Hp}{Q:VK}{E:XK}{F:Nat}{x:V}{r:List Nat}(h:cO H (MU r) x)(h4:F<=64)(q:∀v H',bC H H'->cO H' (fW (cI F r)) v->Q v H'):jF [.int (F:Int),x] H Q E:=by unfold jF;exact ⟨F,x,r,rfl,h,h4,q⟩
@[irreducible] def kM:Sp:=λvs H Q _=>∃(x y:V) (es:List jB) (F W M:Nat) (r:List Nat),vs=[x,.int (F:Int),y]/\cO H (xM es) x/\iC F W M es/\jV F W M/\cO H (MU r) y/\r.length<=4/\(aR F (gO es) r=0->∀H',bC H H'->Q .non H') /\
 (aR F (gO es) r≠0->∀q H',bC H H'->H' q=some (.tup [.int (lw (aR F (gO es) r) (NN^r.length)).1,.int (lw (aR F (gO es) r) (NN^r.length)).2])->Q (.ref q) H')
theorem zV{H:Hp}{Q:VK}{E:XK}{x y:V}{es:List jB}{F W M:Nat}{r:List Nat}(h1:cO H (xM es) x)(h2:iC F W M es)(h3:jV F W M)(h4:cO H (MU r) y)(h5:r.length<=4)(k0:aR F (gO es) r=0->∀H',bC H H'->Q .non H')
  (k:aR F (gO es) r≠0->∀q H',bC H H'->H' q=some (.tup [.int (lw (aR F (gO es) r) (NN^r.length)).1,.int (lw (aR F (gO es) r) (NN^r.length)).2])->Q (.ref q) H'):kM [x,.int (F:Int),y] H Q E:=by unfold kM;exact ⟨x,y,es,F,W,M,r,rfl,h1,h2,h3,h4,h5,k0,k⟩
theorem aB9{F W M:Nat}{es:List jB}(R:iC F W M es)(Z:jV F W M){r:List Nat}(h:r.length<=5):(aR F (gO es) r).natAbs<2^300:=by
 have h0:=zH F (gO es) (R.rl Z).pos r;have h1:=WU F (gO es) (R.rl Z).pos (R.gle Z) r;have h2:=WZ h;have:(aR F (gO es) r).natAbs<=(NN^r.length).natAbs:=Oo;exact bB this h2
theorem yO(f:Fr):SeqAt.shaped (iT f)=true:=by
 have:=KQ [f.1,f.2];exact this
section
theorem oQ2(F:jA K "_law_counts" "_law_counts" sQ2 f fd)(T:kY K mg c):dZ P w K mg base dQ 1 f fd ["_law_faces","_law_row"] jF:=by
 refine F.oky cQ2 λvs H Q E h=>?_;unfold jF at h;obtain ⟨F,x,r,rfl,rx,h4,q⟩:=h;refine ⟨rfl,λcdv A outer s hr=>?_⟩;obtain ⟨a,rfl,ha⟩:=kU rx;refine ⟨_,(bE (cF (jC dR (by rfl) T.b_tuple Kk (aM (fG (eA.of (psc:=bA sQ2) (N:=["_law_faces","_law_row"]) (N':=["_law_face","_law_row"]) (js:=[1]) Kk rfl rfl rfl) (fT rfl T.b_range (aM (aI 0) aG)) (λ_ _ _ _=>eQ) (λ_ _ _ _=>(XG K PySem.F.plainAttrs_tuple PySem.F.slot_tuple_count PySem.F.type_tuple_count aAe (aI 1) (aM (aI 0) aG)))) aG)))),?_⟩;refine ⟨_,rfl,_,rfl,Oo,Oo,?_⟩;refine kI (λi y _=>∃n,y=.int n/\n=((r.count i:Nat):Int)) (λ_ _ _ _ _ h=>h) Oo (λi H' Q' hi s' k'=>?_) (λD ys H1 hD hD1 s1 hy hr1=>?_)
 ·refine ⟨_,rfl,tyU (s' _ _ ha),_,rfl,?_⟩;rw [show (0:Int)+(i:Int)=(i:Int) by omega];refine aDu (s' _ _ ha) ?_;rw [DJ];exact k' _ H' (bC.refl _) ⟨_,rfl,rfl⟩
 ·obtain ⟨zs,rfl,hz⟩:=uU (P:=λi n=>n=((r.count i:Nat):Int)) hr1;have ez:zs=cI F r:=by
   rw [aA] at hy;apply List.ext_getElem?;intro i;by_cases hi:i<F
   ·have h1:zs[i]?=some zs[i]:=aC Oo;rw [h1,hz i _ h1];unfold cI;rw [aE,mZ r hi];rfl
   ·rw [bO Oo,bO (by rw [aAT];omega)]
  subst ez;refine ⟨D,_,rfl,.inl ⟨fS.of hD1,λl hl=>?_⟩⟩;exact q _ _ (s1.trans (bC.upd hl)) (sQ bH)
theorem oQ9(F:jA K "_law_rows" "_law_rows" sQ9 f fd)(T:kY K mg c):dZ P w K mg base dQ 1 f fd ["_law_faces","_law_many"] oA:=by
 refine F.oky cQ9 λvs H Q E h=>?_;unfold oA at h;obtain ⟨F,n,rfl,h4,hn,h1,q⟩:=h;refine ⟨rfl,λcdv A outer s hr=>?_⟩;refine ⟨_,(aS (bS (i:=2) cQ9.nd rfl (Or.inl rfl) (fQ (aM (dS aG) aG)))
  (aS (gS PassesOwn.never rfl (fT rfl T.b_range (aM (aI 1) aG)) (dF (i:=3) cQ9.nd rfl (Or.inl rfl)) (aS (bS (i:=4) cQ9.nd rfl (Or.inl rfl) (fQ aG))
  (aS (gS PassesOwn.never rfl (gZ (aI 2)) (dF (i:=5) cQ9.nd rfl (Or.inr rfl)) (bE (qF (BP PySem.F.plainAttrs_list PySem.F.slot_list_extend PySem.F.type_list_extend FM (aI 4) (aM (fG (eA.of (psc:=bA sQ9) (N:=["_law_faces","_law_many","_law_found","_law_k","_law_longer","_law_row"]) (N':=["_law_face","_law_row"]) (js:=[5]) Kk rfl rfl rfl) (fT rfl T.b_range (aM (aI 0) aG)) (λ_ _ _ _=>eQ) (λ_ _ _ _=>(cN (pF K) (aI 1) (dS (aM (aI 0) aG))))) aG)))))
  (bE (bS (i:=2) cQ9.nd rfl (Or.inl rfl) (aI 4))))))
  (bE (cF (aI 2))))),?_⟩
 refine pJ (by show 0<=64;decide) λp0 H0 hp0 e0 s0=>?_;refine xP (by show 1<=64;decide) λL H1 hL e1 s1=>?_;refine ⟨_,rfl,_,rfl,Oo,Oo,?_⟩;rw [show ((n:Int)).toNat=n by omega];refine pH (λi σ H'=>∃b o3 o4 o5,σ=[some (.int (F:Int)),some (.int (n:Int)),some (.ref b),o3,o4,o5]/\bC H H'/\H b=none/\QF H' b (gT F i)) ⟨L,_,_,_,rfl,s0.trans s1,s0.free hL,_,e1,bD.cons (cO.tup (s1 _ _ e0) bD.nil) bD.nil⟩ ?_ ?_
 ·rintro i σ H2 hi ⟨b,o3,o4,o5,rfl,s2,hb,xs,e2,r2⟩;have lx:xs.length=F^i:=by rw [r2.len,aA,kQ]
  have lx4:F^i*F<=256:=by
   rw [<-Nat.pow_succ];exact aQ (Nat.pow_le_pow_left h4 _) (aQ (bG Dd (show i+1<=4 by omega)) Dd)
  refine xP (by show 0<=64;decide) λL3 H3 hL3 e3 s3=>?_;refine ⟨_,rfl,b,rfl,⟨_,fS.of (s3 _ _ e2)⟩,?_⟩;refine iW (xs:=xs) (λj σ H'=>∃o5 vs,σ=[some (.int (F:Int)),some (.int (n:Int)),some (.ref b),some (.int (0+(i:Nat))),some (.ref L3),o5]/\bC H2 H'/\H' L3=some (.lst vs)/\vs.length=j*F/\bD H' ((((gT F i).take j).flatMap λr=>(List.range F).map λj=>r++[j]).map MU) vs) ⟨_,[],rfl,s3,e3,by simp,bD.nil⟩ (λj σ H' _ p=>?_) ?_ ?_
  ·obtain ⟨o5,_,_,s',_⟩:=p;exact fS.of (s' _ _ e2)
  ·rintro j x σ H4 hx ⟨o5,vs,rfl,s4,e4,lv,r4⟩;have hj:j<F^i:=by rw [<-lx];exact (aK.mp hx).1
   obtain ⟨r,hr',rr⟩:=r2.atI hx;have lr:=(kG (aZ hr')).1;obtain ⟨ar,rfl,har⟩:=kU (rr.same s4);have hjF:j*F+F<=256:=by
    have:=dE F (show j+1<=F^i from hj);rw [Nat.add_mul,Nat.one_mul] at this;omega
   refine ⟨_,rfl,tyL e4,_,rfl,_,rfl,Oo,Oo,?_⟩;refine kI (λj y H'=>cO H' (MU (r++[j])) y) (λj y H1 H2 s h=>h.flat s (fO _)) Oo (λk H' Q' hk s' k'=>?_) (λD ys H5 hD hD5 s5 hy hr5=>?_)
   ·refine ⟨_,rfl,_,rfl,?_⟩;refine pJ (by show 1<=64;decide) λp4 H5 hp4 e4 s5=>?_;refine LB (s5 _ _ (s' _ _ har)) e4 (by rw [aA,aA];show r.length+1<=1000;omega) λp5 H6 s6 e6=>?_;refine k' _ H6 (s5.trans s6) (sQ ?_);rw [e6,show (0:Int)+(k:Int)=(k:Int) by omega];unfold rwI;rw [bM,bM]
    rfl
   ·have hyF:ys.length=F:=Oo;refine aAA (s5 _ _ e4) hD5 Oo λH6 e6 b6=>?_;have t6:=b6.t (s5 _ _ e4);refine ⟨_,vs++ys,rfl,bC.thru hL3 (s4.trans s5) b6,e6,by rw [bF,lv,hyF,Nat.add_mul,Nat.one_mul],?_⟩;have ef:((gT F i).take (j+1)).flatMap (λr=>(List.range F).map λj=>r++[j])=((gT F i).take j).flatMap (λr=>(List.range F).map λj=>r++[j])++(List.range F).map λj=>r++[j]:=by
     rw [eJ,hr',List.flatMap_append];simp
    rw [ef,bM];refine CF (bD.flat t6 (vM _) (r4.same s5)) (bD.flat t6 (vM _) ?_);refine bD.ofIdx (by rw [hyF];simp) λk y hk=>?_;have hlt:k<F:=by
     obtain ⟨h1,_⟩:=aK.mp hk;omega
    exact ⟨_,by rw [aE,aE,bN hlt];rfl,hr5 k y hk⟩
  ·rintro σ H4 ⟨o5,vs,rfl,s4,e4,lv,r4⟩;rw [lx,<-kQ,cQ] at r4;exact ⟨_,rfl,L3,_,_,_,rfl,s2.trans s4,s2.free hL3,vs,e4,r4⟩
 ·rintro σ H2 ⟨b,o3,o4,o5,rfl,s2,hb,l2⟩;refine ⟨_,rfl,?_⟩;exact q b H2 s2 hb l2
end
end Kt
namespace Kw
open PySem L2 Mf
theorem lM.mono{k:Nat}{f:Fr}(h:lM k f)(hk:k<=4000:=by decide):lM 4000 f:=h.up hk
end Kw
namespace Kt
open PySem L2 Mf Kw
section
theorem oQ0(F:jA K "_law_amount_of" "_law_amount_of" sQ0 f fd)(T:kY K mg c)(FQ2:gK dQ P w K mg base 1 "_law_counts" ["_law_faces","_law_row"] jF)(FQ15:gK dQ P w K mg base 2 "_law_times" ["_law_one","_law_other"] (kE K)):dZ P w K mg base dQ 3 f fd ["_law_rule_here","_law_faces","_law_row"] kM:=by
 refine F.oky cQ0 λvs H Q E h=>?_;unfold kM at h;obtain ⟨x,y,es,F,W,M,r,rfl,rx,RO,Z,ry,h5,k0,k⟩:=h;refine ⟨rfl,λcdv A outer s hr=>?_⟩;obtain ⟨a,xs,rfl,ha,rxs⟩:=FE rx;obtain ⟨ar,rfl,har⟩:=kU ry;obtain ⟨kvs,pr,en⟩:=CI rxs;have hF:2<=F/\F<=4:=by have:=Z.f;omega
 have RL:=RO.rl Z;refine ⟨_,(aS (bS (i:=3) cQ0.nd rfl (Or.inl rfl) (jC (PL hr.units rfl) (by rfl) T.b_dict Kk (aM (aI 0) aG)))
  (aS (bS (i:=4) cQ0.nd rfl (Or.inl rfl) (dS (aM aL (aM aL aG))))
  (aS (gS PassesOwn.never rfl (fT rfl T.b_range (aM (eR jU (by rfl) T.b_len Kk (aM (aI 2) aG)) aG)) (dF (i:=5) cQ0.nd rfl (Or.inl rfl)) (aS (bS (i:=6) cQ0.nd rfl (Or.inl rfl) (bR FQ2 (hr.mono Dd) (aM (aI 1) (aM (lP (qV K) (aI 2) oW (oV (aI 5))) aG))))
  (aS (gE (oU (xD (tJ (eD (JV hr.u1) (aI 6) (aI 3) (by with_unfolding_all rfl)) (nI (eD (FJ hr.units) (cH bU (gM hr.u1 (aI 3) (aI 6)) aL (λ_ _=>rfl)) (dS (aM aL (aM aL aG))) (nomark _)))))) (bE (cF zN)) dY)
  (bE (bS (i:=4) cQ0.nd rfl (Or.inl rfl) (bR FQ15 (hr.mono Dd) (aM (aI 4) (aM (cH bU (gM hr.u1 (aI 3) (aI 6)) aL (λ_ _=>rfl)) aG))))))))
  (bE (cF (aI 4)))))),?_⟩
 refine ⟨_,rfl,?_⟩;have nd:(kvs.map (·.1)).Nodup:=by
  rw [HL en];have:=hU (f:=λc:List Int=>c.map (Sum.inl:Int->dP)) RO.nd λx _ y _ e=>HP e;rw [List.map_map] at this;exact this
 refine rdcz ha pr nd (by have:=en.length;have:=RO.len;omega) λD H1 hD hz s1=>?_;refine pJ (by show 2<=64;decide) λp2 H2 hp2 e2 s2=>?_;refine ⟨_,rfl,?_⟩;have har2:=s2 _ _ (s1 _ _ har);refine rlT har2 ?_;have lr:((rwI r).map V.int).length=r.length:=by simp
 rw [lr];refine ⟨_,rfl,Oo,Oo,?_⟩;rw [show ((r.length:Int)).toNat=r.length by omega];refine pH (λi σ H'=>∃(q:Addr) (o5 o6:Option V),σ=[some (.ref a),some (.int (F:Int)),some (.ref ar),some (.ref D),some (.ref q),o5,o6]/\bC H2 H'/\H' q=some (.tup [.int (lw (aR F (gO es) (r.take i)) (NN^i)).1,.int (lw (aR F (gO es) (r.take i)) (NN^i)).2])/\aR F (gO es) (r.take i)≠0)
  ⟨p2,_,_,rfl,bC.refl _,by rw [e2,List.take_zero,BJ,Int.pow_zero,aAh Dd],by rw [List.take_zero,BJ];decide⟩ ?_ ?_
 ·rintro i σ H3 hi ⟨q,o5,o6,rfl,s3,e3,nz⟩;have S3:=(s1.trans s2).trans s3;refine ⟨_,rfl,_,rfl,_,rfl,_,rfl,?_⟩;rw [Int.zero_add];refine EZ (s3 _ _ har2) λc4 H4 s4 e4=>?_;have r4:cO H4 (MU (r.take i)) (.ref c4):=sQ (by rw [e4,<-List.map_take,<-List.map_take]);refine qR r4 Oo λv H5 s5 r5=>?_;obtain ⟨cv,rfl,hcv⟩:=kU r5;have S5:=(S3.trans s4).trans s5;have z5:=((hz.same s2).same s3).same (s4.trans s5);have en5:=tO S5 en;obtain ⟨v1,v2⟩:=MA (c:=cI F (r.take i)) en5;refine ⟨λb H'=>bC H5 H'/\(b=true->gO es (cI F (r.take i))=0)/\(b=false->∃fs,fR es (cI F (r.take i))=some fs/\hd fs≠(0,1)),?_,?_⟩
  ·refine ⟨_,rfl,_,rfl,?_⟩;refine rind (z5.ct hcv) ?_;cases hs:fR es (cI F (r.take i)) with
   | none =>
    have e1:dU kvs (kT (cI F (r.take i)))=none:=v1 hs;rw [e1];refine ⟨_,rfl,?_⟩;exact mU ⟨bC.refl _,λ_=>by unfold gO;rw [hs],λh=>by cases h⟩
   | some fs =>
    obtain ⟨v,hv,rv⟩:=v2 fs hs;have e1:dU kvs (kT (cI F (r.take i)))=some v:=hv;rw [e1];refine ⟨_,rfl,?_⟩;refine oN ?_;refine ⟨_,rfl,_,rfl,?_⟩;refine dgZ z5 hcv e1 ?_;obtain ⟨f0,fr,ef⟩:=(RO.each _ (vL hs)).2.2.2.cons;dsimp only at ef;subst ef;have sh:=RO.sh Z hs;obtain ⟨av,ws,rfl,hav,rvs⟩:=pX rv;obtain ⟨y0,hy0,ry0⟩:=bD.atX (i:=0) rvs rfl;refine tU hav (iB hy0) ?_;refine pJ (by show 2<=64;decide) λp6 H6 hp6 e6 s6=>?_;refine reD (ry0.same s6) (eS (f:=(0,1)) e6) (yO _) (yO _) ?_;rw [OR,Bool.true_beq];refine ⟨_,rfl,s6,λh=>?_,λh=>⟨_,rfl,of_decide_eq_false h⟩⟩;unfold gO;rw [hs];exact sh.zero.mpr (of_decide_eq_true h)
  ·rintro b H6 ⟨s6,ht,hf⟩;cases b with
   | true =>
    refine mU ?_;refine k0 ?_ H6 (S5.trans s6);refine VD F (gO es) (k:=i+1) Oo ?_;rw [uW F (gO es) hi,ht rfl,Int.mul_zero]
   | false =>
    refine oN ?_;obtain ⟨fs,hs,hne⟩:=hf rfl;obtain ⟨v,hv,rv⟩:=v2 fs hs;obtain ⟨f0,fr,ef⟩:=(RO.each _ (vL hs)).2.2.2.cons;dsimp only at ef;subst ef;have sh:=RO.sh Z hs;have sh':EC f0:=sh;have gat:gO es (cI F (r.take i))=gF f0:=by unfold gO;rw [hs];rfl
    obtain ⟨av,ws,rfl,hav,rvs⟩:=pX (rv.same s6);obtain ⟨y0,hy0,ry0⟩:=bD.atX (i:=0) rvs rfl;refine ⟨_,rfl,_,rfl,_,rfl,?_⟩;refine dgZ (z5.same s6) (s6 _ _ hcv) hv ?_;refine tU hav (iB hy0) ?_;have np:=QK i;have asz:=aB9 RO Z (r:=r.take i) (by rw [dC];omega);refine nZ (gL.new (s6 _ _ (s5 _ _ (s4 _ _ e3)))) (gL.of ry0) (gA np) sh'.low (WH np asz (WZ Oo)).mono ?_ λq7 H7 hq7 e7 s7=>?_
    ·rw [<-sh'.lw];exact (WH Dd (k:=100) (bB (show (gF f0).natAbs<=144403552893600 by have:=sh'.gnn;have h2:=sh'.gle;unfold NN at h2;omega) Dd) Dd).mono
    have em:pK (lw (aR F (gO es) (r.take i)) (NN^i)) f0=lw (aR F (gO es) (r.take (i+1))) (NN^(i+1)):=by
     have h1:=aAc (a:=aR F (gO es) (r.take i)) (c:=gF f0) np (show 0<NN by decide);rw [sh'.lw] at h1;rw [h1,uW F (gO es) hi,gat,Int.pow_succ]
    rw [em] at e7;refine ⟨q7,_,_,rfl,((s3.trans s4).trans s5).trans (s6.trans s7),e7,?_⟩;rw [uW F (gO es) hi,gat];exact λz=>(Int.mul_eq_zero.mp z).elim nz λz=>hne (sh.zero.mp z)
 ·rintro σ H3 ⟨q,o5,o6,rfl,s3,e3,nz⟩;rw [cQ] at e3 nz;refine ⟨_,rfl,?_⟩;exact k nz q H3 ((s1.trans s2).trans s3) e3
end
def sA(es:List jB)(c:List Nat):Rat:=((gO es (ci c):Int):Rat)/((NN:Int):Rat)
def wR(F:Nat)(es:List jB)(r:List Nat):Rat:=((aR F (gO es) r:Int):Rat)/((NN:Int):Rat)^r.length
def gq(F:Nat)(es:List jB)(d:List Nat):Rat:=dA (gT F d.sum) λr=>if cnt F r=d then wR F es r else 0
theorem aB7(F:Nat)(r:List Nat):cI F r=ci (cnt F r):=rfl
theorem aCe:((NN:Int):Rat)≠0:=gU Dd
theorem QY(F:Nat)(es:List jB)(r:List Nat)(j:Nat):wR F es (r++[j])=wR F es r*sA es (cnt F r):=by
 unfold wR sA;rw [uX,bF,Rat.intCast_mul,<-aB7];show _/((NN:Int):Rat)^(r.length+1)=_;rw [Rat.pow_succ];have h1:=aCe;have h2:((NN:Int):Rat)^r.length≠0:=by
  have:∀n:Nat,((NN:Int):Rat)^n≠0:=λn=>by
   induction n with
   | zero=>rw [Rat.pow_zero];decide
   | succ n ih=>rw [Rat.pow_succ];grind
  exact this _
 rw [Rat.div_def,Rat.div_def,Rat.div_def];grind
section
variable{F W M:Nat}{es:List jB}
theorem YS(R:iC F W M es)(Z:jV F W M){e:cS}(he:e∈es.map cv):sA es e.1=s0 e:=by
 obtain ⟨d,hd',rfl⟩:=aD.mp he;obtain ⟨d1,d2,d3,d4⟩:=R.each d hd';have hs:=CA R.nd hd';have sh:=R.sh Z hs;have e1:ci (cv d).1=d.1:=rP d2;unfold sA;rw [e1];have e2:gO es d.1=gF (hd d.2):=by unfold gO;rw [hs]
 rw [e2];have e3:=qW (n:=gF (hd d.2)) (d:=NN) Dd;rw [sh.lw] at e3;rw [<-e3];obtain ⟨f,r,ef,_⟩:=(RE d4 (by have:=Z.w;omega)).hd;show rv (hd d.2)=kZ d.2 0;rw [ef];rfl
theorem YR(R:iC F W M es){c:List Nat}(h:c ∉ (es.map cv).map (·.1)):sA es c=0:=by
 have hn:fR es (ci c)=none:=yE.mpr λhc=>by
  obtain ⟨d,hd',hd2⟩:=aD.mp hc;refine h (aD.mpr ⟨cv d,aD.mpr ⟨d,hd',rfl⟩,?_⟩);have e1:ci (cv d).1=d.1:=rP (R.each d hd').2.1;rw [hd2] at e1;exact iL e1
 unfold sA gO;rw [hn];show ((0:Int):Rat)/_=0;rw [Rat.div_def,show ((0:Int):Rat)=0 from rfl,Rat.zero_mul]
theorem JB{α β:Type}(l:List α)(g:α->List β)(f:β->Rat):dA (l.flatMap g) f=dA l λa=>dA (g a) f:=by
 induction l with
 | nil=>rfl
 | cons a l ih =>
  rw [List.flatMap_cons,cR,<-ih];unfold dA;rw [bM,nL]
theorem EM{n:Nat}(f:Nat->Rat):dA (List.range n) f=fJ n f:=by
 induction n with
 | zero=>rfl
 | succ n ih=>rw [List.range_succ,kC,ih,dJ]
theorem PF{r:List Nat}{j:Nat}(h:j<F):cnt F (r++[j])=cW (cnt F r) j:=by
 rw [DM F r h];unfold cW;rw [aN,mZ r h];rfl
theorem aAu(R:iC F W M es)(Z:jV F W M)(d:List Nat):gq F es d=(if d=List.replicate F 0 then 1 else 0)+dA (es.map cv) λe=>gq F es e.1*s0 e*fN F e.1 d:=by
 have RL:=AC R Z.w.2;have zs:∀n:Nat,(List.replicate n (0:Nat)).sum=0:=λn=>by
  induction n with
  | zero=>rfl
  | succ n ih=>rw [List.replicate_succ,List.sum_cons,ih]
 cases hn:d.sum with
 | zero =>
  rw [cT (g:=λ_=>0) λe he=>by rw [oO (RL.len e he) Oo];grind,gI];unfold gq;rw [hn];show dA [[]] _=_;rw [cR,eG,UT];have e1:wR F es []=1:=by
   unfold wR;rw [BJ];show ((1:Int):Rat)/((NN:Int):Rat)^0=1;rw [Rat.pow_zero,show ((1:Int):Rat)=1 from rfl];grind
  rw [e1];by_cases h:d=List.replicate F 0
  ·rw [if_pos h,if_pos h.symm]
  ·rw [if_neg h,if_neg λq=>h q.symm]
 | succ n =>
  rw [if_neg λq=>by rw [q,zs] at hn;omega];have e0:gq F es d=dA (gT F n) λr=>wR F es r*sA es (cnt F r)*fN F (cnt F r) d:=by
   unfold gq;rw [hn];show dA ((gT F n).flatMap λr=>(List.range F).map λj=>r++[j]) _=_;rw [JB];refine cT λr _=>?_;have e1:dA ((List.range F).map λj=>r++[j]) (λr=>if cnt F r=d then wR F es r else 0)=dA (List.range F) λj=>if cnt F (r++[j])=d then wR F es (r++[j]) else 0:=by unfold dA;rw [List.map_map];rfl
   rw [e1,EM];unfold fN;rw [<-lS];refine eU λj hj=>?_;rw [PF hj,QY];by_cases h:cW (cnt F r) j=d
   ·rw [if_pos h,if_pos h];grind
   ·rw [if_neg h,if_neg h];grind
  rw [e0];have e2:∀e∈es.map cv,gq F es e.1*s0 e*fN F e.1 d=dA (gT F n) λr=>wR F es r*((if cnt F r=e.1 then 1 else 0)*(sA es e.1*fN F e.1 d)):=λe he=>by
   by_cases h:e.1.sum=n
   ·unfold gq;rw [h,YS R Z he,Rat.mul_assoc,Rat.mul_comm,<-nN];refine cT λr _=>?_;by_cases q:cnt F r=e.1
    ·rw [if_pos q,if_pos q];grind
    ·rw [if_neg q,if_neg q];grind
   ·rw [oO (RL.len e he) Oo,cT (g:=λ_=>0) λr _=>by grind,gI];grind
  rw [cT e2];have sw:∀(l:List cS) (h:cS->List Nat->Rat),dA l (λe=>dA (gT F n) (h e))=dA (gT F n) λr=>dA l λe=>h e r:=λl h=>by
   induction l with
   | nil=>rw [eG,cT (g:=λ_=>0) λr _=>eG _,gI]
   | cons a l ih=>rw [cR,ih,<-vD];exact cT λr _=>by rw [cR]
  rw [sw,Rat.zero_add];refine cT λr _=>?_;rw [nN];by_cases hk:cnt F r∈(es.map cv).map (·.1)
  ·rw [iN RL.nd hk λc=>sA es c*fN F c d];grind
  ·rw [YR R hk,cT (g:=λ_=>0) λe he=>by rw [if_neg λq=>hk (by rw [q];exact aD.mpr ⟨e,he,rfl⟩)];grind,gI];grind
theorem yF(R:iC F W M es)(Z:jV F W M)(d:List Nat):bJ F (es.map cv) d=gq F es d:=yP (AC R Z.w.2) (aAu R Z) _ d (aJ _)
end
abbrev sQ1:Stmt:=(top 56)
theorem cQ1:bZ ["_law_rule_here","_law_faces","_law_found","_law_many","_law_row","_law_amount","_law_counts_here"] ["_law_rule_here","_law_faces"] (bA sQ1):=⟨rfl,rfl,rfl,Kk,rfl,Kk,Kk⟩
def gP(F:Nat)(es:List jB)(i j:Nat)(d:List Nat):Rat:=(if d.sum<i then gq F es d else 0)+dA ((gT F i).take j) λr=>if cnt F r=d then wR F es r else 0
theorem aAx{F:Nat}{es:List jB}{i j:Nat}(hj:(gT F i).length<=j)(d:List Nat):gP F es i j d=gP F es (i+1) 0 d:=by
 unfold gP;rw [List.take_of_length_le hj,List.take_zero,eG];by_cases h:d.sum=i
 ·rw [if_neg Oo,if_pos Oo];unfold gq;rw [h];grind
 ·rw [cT (g:=λ_=>0) λr hr=>if_neg λq=>h (by rw [<-q,IF r (kG hr).2];exact (kG hr).1),gI];by_cases h2:d.sum<i
  ·rw [if_pos h2,if_pos Oo]
  ·rw [if_neg h2,if_neg Oo]
@[irreducible] def oD(K:PySem.W.Frag):Sp:=λvs H Q _=>∃(x:V) (es:List jB) (F W M:Nat),vs=[x,.int (F:Int)]/\cO H (xM es) x/\iC F W M es/\jV F W M/\∀D kvs H',H D=none->bC H H'->H' D=some (.dT kvs)->DQ K H' kvs (bJ F (es.map cv))->Q (.ref D) H'
theorem EV{K:PySem.W.Frag}{H:Hp}{Q:VK}{E:XK}{x:V}{es:List jB}{F W M:Nat}(h1:cO H (xM es) x)(h2:iC F W M es)(h3:jV F W M)(k:∀D kvs H',H D=none->bC H H'->H' D=some (.dT kvs)->DQ K H' kvs (bJ F (es.map cv))->Q (.ref D) H'):oD K [x,.int (F:Int)] H Q E:=by
 unfold oD;exact ⟨x,es,F,W,M,rfl,h1,h2,h3,k⟩
theorem HW{F:Nat}{es:List jB}{i j:Nat}{r:List Nat}(h:(gT F i)[j]?=some r)(d:List Nat):gP F es i (j+1) d=gP F es i j d+if cnt F r=d then wR F es r else 0:=by
 unfold gP;rw [fC h,kC];grind
theorem VN{F W M:Nat}{es:List jB}(R:iC F W M es)(Z:jV F W M){r:List Nat}(h:r.length<=4):lw (aR F (gO es) r) (NN^r.length)=dL (wR F es r)/\Qn (LN^4) 1 (wR F es r):=by
 have np:=QK r.length;have ep:((NN^r.length:Int):Rat)=((NN:Int):Rat)^r.length:=Rat.intCast_pow ..;have e1:rv (lw (aR F (gO es) r) (NN^r.length))=wR F es r:=by rw [qW np,ep];rfl
 refine ⟨fU (gA np) (bL _) (by rw [e1,dG]),?_⟩;have h0:=zH F (gO es) (R.rl Z).pos r;have h1:=WU F (gO es) (R.rl Z).pos (R.gle Z) r;have hf:Fn (NN^r.length).natAbs 1 (lw (aR F (gO es) r) (NN^r.length)):=Fn.of np Oo;have:=hf.q;rw [e1] at this;refine this.dvd ?_;have en:(NN^r.length).natAbs=LN^r.length:=by rw [Int.natAbs_pow];rfl
 rw [en];exact Nat.pow_dvd_pow _ h
section
theorem oQ1(F:jA K "_law_amounts" "_law_amounts" sQ1 f fd)(T:kY K mg c)(FQ9:gK dQ P w K mg base 1 "_law_rows" ["_law_faces","_law_many"] oA)(FQ0:gK dQ P w K mg base 3 "_law_amount_of" ["_law_rule_here","_law_faces","_law_row"] kM)(FQ2:gK dQ P w K mg base 1 "_law_counts" ["_law_faces","_law_row"] jF)(FQ8:gK dQ P w K mg base 2 "_law_plus" ["_law_one","_law_other"] (lW K)):dZ P w K mg base dQ 4 f fd ["_law_rule_here","_law_faces"] (oD K):=by
 refine F.oky cQ1 λvs H Q E h=>?_;unfold oD at h;obtain ⟨x,es,F,W,M,rfl,rx,R,Z,k⟩:=h;refine ⟨rfl,λcdv A outer s hr=>?_⟩;obtain ⟨a,xs,rfl,ha,rxs⟩:=FE rx;have hF:2<=F/\F<=4/\M<=4:=by have:=Z.f;omega
 have RL:=AC R Z.w.2;refine ⟨_,(aS (bS (i:=2) cQ1.nd rfl (Or.inl rfl) lQ)
  (aS (gS PassesOwn.never rfl (fT rfl T.b_range (aM (cN fZ (eR (UX K rfl) (by rfl) T.b_max Kk (aM (rZ (gC.of (psc:=bA sQ1) (N:=["_law_rule_here","_law_faces","_law_found","_law_many","_law_row","_law_amount","_law_counts_here"]) (xs:=["_law_counts_here","_law_says_here"]) (N':=["_law_counts_here","_law_says_here"]) (js:=[]) Kk rfl rfl rfl) (jQ (aI 0)) (λ_ _ _ _=>eQ) (λ_ _ _ _=>(eR (BC K rfl) (by rfl) T.b_sum Kk (aM (aI 0) aG)))) aG)) aL) aG)) (dF (i:=3) cQ1.nd rfl (Or.inl rfl)) (bE (gS PassesOwn.never rfl (gZ (bR FQ9 (hr.mono Dd) (aM (aI 1) (aM (aI 3) aG)))) (dF (i:=4) cQ1.nd rfl (Or.inl rfl)) (aS (bS (i:=5) cQ1.nd rfl (Or.inl rfl) (bR FQ0 (hr.mono Dd) (aM (aI 0) (aM (aI 1) (aM (aI 4) aG)))))
  (bE (gE (eD TL (aI 5) zN (nomark _)) (aS (bS (i:=6) cQ1.nd rfl (Or.inl rfl) (bR FQ2 (hr.mono Dd) (aM (aI 1) (aM (aI 4) aG))))
  (bE (jW hr.u1 (aI 2) (aI 6) (bR FQ8 (hr.mono Dd) (aM (uI hr.u1 (aI 2) (aI 6) (dS (aM aL (aM aL aG)))) (aM (aI 5) aG)))))) dY))))))
  (bE (cF (aI 2))))),?_⟩
 intro p hp;have s0':=bC.upd (o:=.dT []) hp;have e0p:(upd H p (.dT [])) p=some (.dT []):=bH;generalize upd H p (.dT [])=H0 at s0' e0p;refine ⟨_,rfl,a,rfl,⟨_,eZ.of (s0' _ _ ha)⟩,?_⟩;refine KW (as:=es) (λ_=>true) (λe v=>cO H0 (DB e) v) (λe v _=>v=.int e.1.sum) (λ_ _ _ _ _ h=>h) (by have:=R.len;omega) (s0' _ _ ha) (Paired.ofRepL (rxs.same s0')) (λv e H' he re s'=>?_) (λD ys H1 hD e1 s1 pr=>?_)
 ·obtain ⟨b,u,z,rfl,hb,ru,rz⟩:=FU (re.same s');obtain ⟨cu,rfl,hcu⟩:=kU ru;refine ⟨b,[.ref cu,z],rfl,eZ.of hb,rfl,λQ' h=>h H' (bC.refl _),λH5 Q' s5 _ k'=>?_⟩;refine ⟨_,rfl,?_⟩;refine rsT (ns:=e.1) (eZ.of (s5 _ _ hcu)) ?_;exact k' _ H5 (bC.refl _) rfl
 ·rw [FT] at pr;have eys:ys=(es.map λe=>e.1.sum).map V.int:=by
   have all:∀{l:List jB} {zs:List V},Paired (λ(e:jB) v=>v=V.int e.1.sum) l zs->zs=(l.map λe=>e.1.sum).map V.int:=λh=>by
    induction h with
    | nil=>rfl
    | cons r _ ih=>rw [aO,aO,ih,r]
   exact all pr
  subst eys;refine rmxl (fS.of e1) (by rw [aA];exact List.length_pos_iff.mpr R.ne) λmx hm hmx=>?_;obtain ⟨em,hem,rfl⟩:=aD.mp hm;obtain ⟨m1,m2,m3,m4⟩:=R.each em hem;have mnn:=AO m2;obtain ⟨L,hL⟩:∃L:Nat,em.1.sum=(L:Int):=⟨em.1.sum.toNat,Oo⟩;rw [hL] at hmx m3 ⊢;have hL4:L<=4:=Oo;have S1:=s0'.trans s1;have e1p:=s1 _ _ e0p;refine ⟨_,_,rfl,rfl,_,rfl,Oo,Oo,?_⟩;rw [show ((L:Int)+1).toNat=L+1 by omega];refine pH (λi σ H'=>∃(o3 o4 o5 o6:Option V) (kvs:List (List dP × V)),σ=[some (.ref a),some (.int (F:Int)),some (.ref p),o3,o4,o5,o6]/\aU p H1 H'/\H' p=some (.dT kvs)/\kvs.length<=256*i/\DQ K H' kvs (gP F es i 0)) ⟨_,_,_,_,[],rfl,(bC.refl _).but,e1p,by simp,⟨λd=>.inl ⟨rfl,by unfold gP;rw [if_neg Oo,List.take_zero,eG];grind⟩⟩⟩ ?_ ?_
  ·rintro i σ H2 hi ⟨o3,o4,o5,o6,kvs,rfl,b2,e2,l2,D2⟩;rw [show (0:Int)+(i:Int)=(i:Int) by omega];refine ⟨_,rfl,_,rfl,?_⟩;refine ER hF.2.1 Oo Oo λb H3 s3 hb ⟨x3,e3,r3⟩=>?_;have nb:b≠p:=λz=>by rw [z,e2] at hb;cases hb
   have lx:x3.length=F^i:=by rw [r3.len,aA,kQ]
   have lx4:F^i<=256:=aQ (Nat.pow_le_pow_left hF.2.1 _) (aQ (bG Dd (show i<=4 by omega)) Dd);refine ⟨b,rfl,⟨_,fS.of e3⟩,?_⟩;refine iW (xs:=x3) (λj σ H'=>∃(o4 o5 o6:Option V) (kvs:List (List dP × V)),σ=[some (.ref a),some (.int (F:Int)),some (.ref p),some (.int (i:Int)),o4,o5,o6]/\aU p H3 H'/\H' p=some (.dT kvs)/\kvs.length<=256*i+j/\DQ K H' kvs (gP F es i j)) ⟨_,_,_,kvs,rfl,(bC.refl _).but,s3 _ _ e2,Oo,D2.t s3.t⟩ (λj σ H' _ q=>?_) ?_ ?_
   ·obtain ⟨_,_,_,_,_,b',_⟩:=q;exact fS.of (b'.at nb e3)
   ·rintro j u σ H4 hu ⟨o4,o5,o6,kv4,rfl,b4,e4,l4,D4⟩;have hj:j<F^i:=by rw [<-lx];exact (aK.mp hu).1
    obtain ⟨r,hr',rr⟩:=r3.atI hu;obtain ⟨lr,rF⟩:=kG (aZ hr');have t34:dX H3 H4:=Kw.aU.tT b4 (s3 _ _ e2);have t14:dX H1 H4:=((Kw.aU.tT b2 e1p).trans s3.t).trans t34;have rr4:=rr.flat t34 (fO _);have ru4:cO H4 (xM es) (.ref a):=rx.flat (S1.t.trans t14) (qZ es);obtain ⟨w1,w2⟩:=VN R Z (r:=r) Oo;refine ⟨_,rfl,_,rfl,_,rfl,?_⟩;refine zV ru4 R Z rr4 Oo (λh0 H9 s9=>?_) λh0 q9 H9 s9 e9=>?_
    ·refine ⟨_,rfl,rfl,_,rfl,?_⟩;refine oM (by simp) ?_;refine ⟨_,_,_,kv4,rfl,b4.trans s9.but,s9 _ _ e4,Oo,(D4.t s9.t).eq λd=>?_⟩;have wz:wR F es r=0:=by
      unfold wR;rw [h0,Rat.div_def,show ((0:Int):Rat)=0 from rfl,Rat.zero_mul]
     rw [HW hr',wz];split <;> grind
    ·rw [w1] at e9;refine ⟨_,rfl,rfl,_,rfl,?_⟩;refine wF (by simp) ?_;refine ⟨_,rfl,_,rfl,?_⟩;refine qR (rr4.same s9) Oo λv H10 s10 r10=>?_;obtain ⟨cc,rfl,hcc⟩:=kU r10;have e10:=s10 _ _ (s9 _ _ e4);refine ⟨_,rfl,p,rfl,.inr ⟨kv4,.inl e10⟩,_,rfl,?_⟩;refine pJ (by show 2<=64;decide) λp11 H11 hp11 e11 s11=>?_;have e11d:=s11 _ _ e10;have hcc11:H11 cc=some (.tup ((ci (cnt F r)).map V.int)):=s11 _ _ hcc;refine ⟨_,iS.ct (c:=ci (cnt F r)) e11d hcc11,?_⟩;refine ⟨_,rfl,?_⟩;have s411:=(s9.trans s10).trans s11;have D11:=D4.t s411.t;have hg:=D11.get (cnt F r) (gL.new (f:=(0,1)) e11);have qg:Qn (LN^4) 256 (gP F es i j (cnt F r)):=by
      unfold gP;rw [if_neg (by rw [IF r rF];omega),Rat.zero_add];have:=Qn.sumL (N:=LN^4) (B:=1) (l:=(gT F i).take j) (f:=λr'=>if cnt F r'=cnt F r then wR F es r' else 0) λr' hr2=>by
       split
       ·exact (VN R Z (by rw [(kG (List.mem_of_mem_take hr2)).1];omega)).2
       ·exact Qn.zero _ _
      refine this.le ?_;rw [dC];omega
     have n4:0<LN^4:=Nat.pow_pos Dd;have n5:LN^4<2^2500:=Kk;refine pW hg (gL.new ((s10.trans s11) _ _ e9)) (bL _) (bL _) (fA qg n4 n5 Kk) (fA w2 n4 n5 Kk) λq12 H12 hq12 e12 s12=>?_;rw [wW] at e12;refine ⟨_,rfl,_,rfl,?_⟩;have e12d:=s12 _ _ e11d;refine dpT e12d (c:=ci (cnt F r)) (s12 _ _ hcc11) Oo λH13 e13 b13=>?_;have t13:dX H12 H13:=Kw.aU.tT b13 e12d;refine ⟨_,_,_,_,rfl,(b4.trans (s411.trans s12).but).trans b13,e13,?_,?_⟩
     ·have:=fL kv4 (kT (ci (cnt F r))) (V.ref q12);omega
     ·exact (((D11.t s12.t).put (c:=cnt F r) (v:=.ref q12) (y:=wR F es r) (.inl (eS e12))).t t13).eq λd=>HW hr' d
   ·rintro σ H4 ⟨o4,o5,o6,kv4,rfl,b4,e4,l4,D4⟩;refine ⟨_,_,_,_,kv4,rfl,(b2.trans s3.but).trans b4,e4,Oo,D4.eq λd=>?_⟩;exact (aAx (by rw [kQ,lx];exact aJ _) d).symm
  ·rintro σ H2 ⟨o3,o4,o5,o6,kvs,rfl,b2,e2,l2,D2⟩;refine ⟨_,rfl,?_⟩;refine k p kvs H2 hp (bC.thru hp S1 b2) e2 (D2.eq λd=>?_);rw [yF R Z d];unfold gP;rw [List.take_zero,eG];by_cases h:d.sum<L+1
   ·rw [if_pos h];grind
   ·rw [if_neg h,<-yF R Z d,oI RL λhd'=>?_]
    ·grind
    ·obtain ⟨e,he,rfl⟩:=aD.mp hd';obtain ⟨e',he',rfl⟩:=aD.mp he;have h1:=hmx _ (aD.mpr ⟨e',he',rfl⟩);have h2:=kB (R.each e' he').2.1;have h3:¬(e'.1.map Int.toNat).sum<L+1:=h;omega
end
end Kt
namespace L2
open PySem PySem.Spec PySem.W PyProof.Rows HT
abbrev UA(k:List Int):PyData:=.tuple [.int (k.headD 0),cD k.tail]
theorem aBU{H:Hp}{k:List Int}{v:V}(h:cO H (UA k) v):∃a d,v=.ref a/\H a=some (.tup [.int (k.headD 0),.ref d])/\H d=some (.tup (k.tail.map V.int))/\cO H (cD k.tail) (.ref d):=by
 unfold cO at h;obtain ⟨a,xs,rfl,h1,h2⟩:=h;unfold bD at h2;obtain ⟨x,xs',rfl,h3,h4⟩:=h2;unfold bD at h4;obtain ⟨y,ys',rfl,h5,h6⟩:=h4;unfold bD at h6;cases (show ys'=[] from h6);cases (show x=V.int (k.headD 0) from h3);obtain ⟨d,rfl,hd⟩:=PU h5;exact ⟨a,d,rfl,h1,hd,h5⟩
def GG(h:Heap)(v:Value)(k:List Int):Prop:=∃b d t its,v=.ref b/\IsTup h b #[.int (k.headD 0) t,.ref d]/\IsTup h d (List.toArray its)/\IntsAre its k.tail/\(∃as,Reads h (.ref d) (cD k.tail) as)/\k≠[]
theorem FQ{h:Heap}:∀{vs:List Value}{kz:List (List Int)}{i:Nat},Paired (GG h) vs kz->i<vs.length->GG h (vs.getD i Value.none) (kz.getD i [])
 | _,_,_,.nil,hi=>by simp at hi
 | _,_,0,.cons t r,hi=>t
 | v::vs,c::cs,i+1,.cons t r,hi=>by
  have:=FQ (i:=i) r (by simpa using hi);simpa using this
theorem yH{h:Heap}:∀{vs:List Value}{kz:List (List Int)},Paired (GG h) vs kz->∃fs,KatTups h vs fs/\fs.length=vs.length/\∀v∈fs,∃i t,v=Value.int i t
 | _,_,.nil=>⟨[],KatTups.nil,rfl,λv hv=>by cases hv⟩
 | v::vs,k::kz,.cons t r=>by
  obtain ⟨fs,h1,h2,h3⟩:=yH r;obtain ⟨b,d,t,its,rfl,⟨o,ho,hc,n,hd⟩,_⟩:=t;exact ⟨.int (k.headD 0) t::fs,KatTups.cons ho hc hd (by simp) h1,by simp [h2],λv hv=>by
   rcases aT.mp hv with rfl | hv
   ·exact ⟨_,_,rfl⟩
   ·exact h3 v hv⟩
theorem CT:∀a b:List Int,mD a b=hV a b
 | [],[]=>rfl
 | [],y::b=>(uT y b).symm
 | x::a,[]=>(rE _).symm
 | x::a,y::b=>by rw [wD,pG,CT a b]
section
variable{prog:Program}{w:World}{A:Around}{E:Value->Shared->Prop}{s:Shared}
theorem aBT{x y:Value}{k l:List Int}{Q:Bool->Shared->Prop}(hu:A.units+64<cLine)(hx:GG s.heap x k)(hy:GG s.heap y l)(q:Q (hV k l) s):wpAny (model prog w) A (keyLt' (tuples' true) x y) Q E s:=by
 obtain ⟨b,d,t,its,rfl,⟨o,ho,hc,n,hd⟩,td,ti,⟨as,ra⟩,kn⟩:=hx;obtain ⟨b2,d2,t2,its2,rfl,⟨o2,ho2,hc2,n2,hd2⟩,td2,ti2,⟨bs,rb⟩,ln⟩:=hy;refine kat_lt ho hd ho2 hd2 ?_;have ek:k=k.headD 0::k.tail:=by
  cases k with
  | nil=>exact absurd rfl kn
  | cons _ _=>rfl
 have el:l=l.headD 0::l.tail:=by
  cases l with
  | nil=>exact absurd rfl ln
  | cons _ _=>rfl
 rw [ek,el,pG] at q;generalize k.headD 0=m at *;generalize l.headD 0=m2 at *;show KatLex prog w A true _ Q [(.int m t,.int m2 t2),(.ref d,.ref d2)] 0 s;refine kat_cons (wpAny_eqBool_int ?_);by_cases e:m=m2
 ·rw [if_pos e] at q;rw [show (m == m2)=true by simp [e]];refine kat_yes (kat_cons ?_);have eqv:=SeqAt.eqAt_reads (cD k.tail) (cD l.tail) A s _ _ as bs ra rb (wE _) (wE _) (by
   have h1:(cD k.tail).depth<=2:=by
    have:=DE k.tail;simp only [PyData.depth];omega
   omega)
  refine eqv prog w _ _ ?_;rw [aB1];by_cases e2:k.tail=l.tail
  ·rw [bV e2];refine kat_yes (kat_nil ?_);rw [e2,uS] at q;simpa using q
  ·rw [cJ e2];refine kat_no (kat_one _ _ ?_);refine FO td td2 (by simpa using ti) (by simpa using ti2) Oo ?_;rw [CT];exact q
 ·rw [if_neg e] at q;rw [show (m == m2)=false by simp [e]];refine kat_no ?_;exact oneLt_int q
theorem GQ{a kS:Addr}{st:SortSt}{ks out:List Value}{e e1:Nat}{P:PySem.Fin->Shared->Prop}(hout:(arrOf st).map (·.2)=List.toArray out)(hz:out.length<64)(hkz:ks.length<64)(hf:failedOf st=none)
  (hk:s.heap.get? kS=some (seqObj "list" (List.toArray ks) e)) (ha:s.heap.get? a=some (seqObj "list" #[] e1)) (ne:a≠kS)
  (h:P (.done (.ret .none)) { s with heap:=(s.heap.update kS (Obj.mapSeq λ_=>#[])).update a (Obj.mapSeq λ_=>List.toArray out) }):wpAny (model prog w) A (ksk_tail a false e1 (.ref kS) st) P E s:=by
 unfold ksk_tail;dsimp only;rw [hout];refine wpAny_bind (listUpdate_at hk rfl ?_ (by rw [aW,sizeLine_eq];omega) (cC _));refine wpAny_bind (wpAny_letGo ?_);have ha2:(s.heap.update kS (Obj.mapSeq λ_=>(#[]:Array Value))).get? a=some (seqObj "list" #[] e1):=by rw [cZ _ _ _ _ ne];exact ha
 refine wpAny_bind (seqEpoch_at ha2 rfl ?_);refine wpAny_bind (listUpdate_at ha2 rfl ?_ (cC _) (by
  simp only [Bool.false_eq_true,if_false];rw [aW,sizeLine_eq];omega))
 rw [hf];simp only [bne_self_eq_false,Bool.false_eq_true,if_false];exact wpAny_pure h
theorem XQ{a kS:Addr}{vs ks:List Value}{kz:List (List Int)}{e e1:Nat}{P:PySem.Fin->Shared->Prop}(hl:ks.length=vs.length)(h64:vs.length<64)(hu:A.units+64<cLine)(hp:Paired (GG s.heap) ks kz)
  (hk:s.heap.get? kS=some (seqObj "list" (List.toArray ks) e)) (ha:s.heap.get? a=some (seqObj "list" #[] e1)) (ne:a≠kS)
  (h:∀p:Array Nat,fB vs.length p->(wZ vs.length (rW kz)->rX (rW kz) p vs.length)->P (.done (.ret .none)) { s with heap:=(s.heap.update kS (Obj.mapSeq λ_=>#[])).update a (Obj.mapSeq λ_=>List.toArray (p.toList.map λi=>vs.getD i Value.none)) }) :
  wpAny (model prog w) A (ksk_end a false vs.toArray e1 (.ref kS) (List.toArray ks)) P E s:=by
 unfold ksk_end;dsimp only;by_cases h2:vs.toArray.size<2
 ·simp only [Bool.false_eq_true,if_false,if_pos h2];refine wpAny_bind (wpAny_pure ?_);rw [StateT.run_pure];refine wpAny_bind (wpAny_pure ?_);dsimp only;have ea:=kat_snds (ks:=ks) (vs:=vs) (st:=SortSt.mk' general' ((List.toArray ks).zip vs.toArray) #[] 7 none) (p:=List.toArray (List.range vs.length)) hl (by
   have e:=kas_range ((List.toArray ks).zip vs.toArray);rw [show ((List.toArray ks).zip vs.toArray).size=vs.length by simp [hl]] at e;exact e.symm)
  exact GQ ea (by rw [aA,bK];exact h64) Oo rfl hk ha ne (h _ (Array.Perm.refl _) λ_ a b h1 h3=>by rw [aW] at h2;omega)
 ·simp only [Bool.false_eq_true,if_false,if_neg h2];have hl2:2<=vs.length:=by rw [aW] at h2;omega
  obtain ⟨fs,k1,k2,k3⟩:=yH hp;refine wpAny_bind (kat_kind (T:=.type "int") k1 Oo (λv hv=>?_) rfl ?_)
  ·obtain ⟨i,t,rfl⟩:=k3 v hv;exact .now
  refine wpAny_bind (wpAny_mono (kat_run (ks:=ks) (vs:=vs) (G:=λp s'=>s'=s/\fB vs.length p/\(wZ vs.length (rW kz)->rX (rW kz) p vs.length))
   (Q:=λst' s'=>s'=s/\failedOf st'=none/\∃p:Array Nat,p.size=vs.length/\(fB vs.length p/\(wZ vs.length (rW kz)->rX (rW kz) p vs.length))/\arrOf st'=p.map (kas_item ((List.toArray ks).zip vs.toArray)))
   hl hl2 h64 (λp' st' s' a1 a2 a3 a4=>⟨a4.1,a3,p',a1,a4.2,a2⟩)
   (dI.wp (n:=vs.length) (lt:=rW kz) (R:=λp=>fB vs.length p/\(wZ vs.length (rW kz)->rX (rW kz) p vs.length)) (λi j C hi hj hC=>?_) (λp hp=>⟨rfl,hp⟩) (BZ hl2))) ?_ λ_ _ e=>e)
  ·unfold kas_ask;exact aBT hu (FQ hp Oo) (FQ hp Oo) hC
  rintro ⟨⟨⟩,st'⟩ s' ⟨rfl,hf,p,hps,hg,har⟩;dsimp only;exact GQ (kat_snds hl har) (by rw [aA,Array.length_toList,hps];exact h64) Oo hf hk ha ne (h p hg.1 hg.2)
end
section
variable{X:Cx}{pins:List (Addr × Obj)}{σ:St}{H:Hp}{s:Shared}
theorem OE(I:cE X pins σ H s):∀{kz:List (List Int)}{ys:List V}{us:List Value},bD H (kz.map UA) ys->(∀k∈kz,k≠[])->cV ys us->Paired (GG s.heap) us kz
 | [],ys,us,r,hc,v=>by
  unfold bD at r;cases (show ys=[] from r);cases v;exact .nil
 | c::cs,ys,us,r,hc,v=>by
  rw [aO] at r;unfold bD at r;obtain ⟨y,ys',rfl,r1,r2⟩:=r;obtain ⟨u,us',rfl,rv,v'⟩:=qH v;refine .cons ?_ (OE I r2 (λc h=>hc c (aF _ h)) v');obtain ⟨a,d,rfl,h1,h2,h3⟩:=aBU r1;cases rv;obtain ⟨its,rr,pl,_⟩:=I.tuple (eZ.of h1);obtain ⟨u1,us1,rfl,⟨t,rfl⟩,ra⟩:=qH rr;obtain ⟨u2,us2,rfl,ru2,rb⟩:=qH ra;cases rb;cases ru2;obtain ⟨jts,r2,pl2,_⟩:=I.tuple (eZ.of h2);exact ⟨a,d,t,jts,rfl,pl,pl2,mV r2,h3.reads I rfl,hc c (aH ..)⟩
def GH(sp:Sp)(H:Hp)(ys:List V)(kz:List (List Int)):Prop:=kz.length=ys.length/\(∀k∈kz,k≠[])/\∀(i:Nat) (y:V) (k:List Int) (H':Hp),ys[i]?=some y->kz[i]?=some k->bC H H'->sp [y] H' (λv H''=>bC H' H''/\cO H'' (UA k) v) E0
theorem OF(k:List Int):fD (UA k)=true:=by
 have:∀c:List Int,eP (c.map PyData.int)=true:=λc=>by
  induction c with
  | nil=>rfl
  | cons x c ih=>show (fD (.int x)&&eP (c.map PyData.int))=true;rw [ih];rfl
 show (fD (.int (k.headD 0))&&(fD (cD k.tail)&&true))=true;rw [show fD (cD k.tail)=true from this _];rfl
theorem CV:∀kz:List (List Int),eP (kz.map UA)=true
 | []=>rfl
 | k::kz=>by show (fD (UA k)&&eP (kz.map UA))=true;rw [CV kz,OF];rfl
theorem cV.snoc'{xs:List V}{us:List Value}{x:V}{u:Value}(h:cV xs us)(r:dH x u):cV (xs++[x]) (us++[u]):=h.append (.cons r .nil)
end
theorem QC{kz:List (List Int)}{n:Nat}{pm:Array Nat}(hg:fB n pm)(ha:rX (rW kz) pm n):(pm.toList.map λi=>kz.getD i []).Pairwise λa b=>hV a b=true:=by
 have hsz:=hg.size;rw [List.pairwise_map,List.pairwise_iff_getElem];intro i j hi hj hij;have hi':i<pm.size:=by simpa using hi
 have hj':j<pm.size:=by simpa using hj
 have e1:pm.toList[i]=pm.getD i 0:=by rw [Array.getElem_toList];exact (by simp [Array.getD,hi']:pm.getD i 0=pm[i]).symm
 have e2:pm.toList[j]=pm.getD j 0:=by rw [Array.getElem_toList];exact (by simp [Array.getD,hj']:pm.getD j 0=pm[j]).symm
 rw [e1,e2];exact ha i j hij Oo
section
variable{X:Cx}{pins:List (Addr × Obj)}{σ:St}{H:Hp}{s:Shared}
end
def sT(c:Addr)(q:Str):HO:=.ext λh=>h.CodeRec (.ref c) q
theorem KZ{P:Program}{w:World}{H:Hp}{h:Heap}{c:Addr}{q:Str}(hr:h.CodeRec (.ref c) q):eI P w H h c (sT c q):=by
 obtain ⟨c₂,oc,vs,t,e2,hoc,hd,hv⟩:=id hr;cases e2;refine ⟨hr,⟨oc,hoc⟩,λh1 h2 ⟨c3,o3,v3,t3,e3,ho3,hd3,hv3⟩ k=>?_⟩;cases e3;exact ⟨c,o3,v3,t3,rfl,k _ ho3,hd3,hv3⟩
structure iZ(H:Hp)(P:Addr)(q:Str)(pos:Pos):Prop where
 ex:H P=some (.tbl #[])\/∃c',H P=some (.tbl #[rawInt pos.line,rawInt pos.col,.ref c'])/\H c'=some (sT c' q)
def KI(K:Frag)(c P:Addr):Bool:=match K.lookup c with
 | some ⟨.type t,_,.fields vs,_⟩=>(match (vs[11]?:Option Value),vs.getD 11 .none,vs.getD 18 .none,vs.getD 7 .none,vs.getD 9 .none,vs.getD 10 .none with
   | some (.ref p),.ref p',.str _ _,.int _ _,.bool _,.int _ _=>t == "code" && p == P&&p' == P && !(c == P)
   | _,_,_,_,_,_=>false)
 | _=>false
theorem aBZ{K:Frag}{h:Heap}{c P:Addr}(X:K.In h)(e:KI K c P=true):CodeHd h c P:=by
 unfold KI at e;split at e
 ·rename_i t od vs sl ho
  split at e
  ·rename_i p p' f1 f2 i1 i2 b1 j1 j2 q1 q2 q3 q4 q5 q6
   simp only [cY,Bool.not_eq_true',beq_iff_eq,beq_eq_false_iff_ne] at e;obtain ⟨⟨⟨e1,e2⟩,e3⟩,e4⟩:=e;subst e1 e2 e3;exact ⟨_,vs,_,_,_,_,_,_,_,X _ _ ho,rfl,rfl,q1,q2,q3,q4,q5,q6,e4⟩
  ·cases e
 ·cases e
def BM(mg:Str->Option Value)(h:Heap):Prop:=∃bm ob,mg "__builtins__" = some (.ref bm)/\bm≠builtinsNs/\h.get? bm=some ob/\ob.cls=.type "module" /\ ob.dict=some builtinsNs/\ob.data=.plain
section
variable{X:Cx}{pins:List (Addr × Obj)}{σ:St}{H:Hp}{s:Shared}
theorem aAf{P c:Addr}{params:Arguments}{body:Expr}{scope:Scope}{pos:Pos}{Q':Value->Shared->Prop}(I:cE X pins σ H s)(hcode:X.env.code=.ref c)(hh:KI X.K c P=true)(hbm:BM X.mg X.base)(hcl:closureFor scope X.env=pure [])
  (hdef:defaultsOf params X.env=([],[])) (TO:iZ H P (X.env.qual ++ "<lambda>") pos)
  (h:∀(f c':Addr) (pm ctv:Value) (H':Hp) (s':Shared),iZ H' P (X.env.qual ++ "<lambda>") pos->H' c'=some (sT c' (X.env.qual ++ "<lambda>"))->aU P H H'->s'.heap.objs.size=f+1 ->
   cE X ((f,kla_obj "<lambda>" (X.env.qual ++ "<lambda>") params body scope [] pm c' ctv)::pins) σ H' s'->Q' (.ref f) s') :
  wpAny (model X.prog X.w) X.A (eval (.Lambda params body scope pos) X.env) Q' X.xe s:=by
 refine kla_eval hdef ?_;have hg:=I.mod.glob.keeps I.bk;have C:=aBZ I.kIn hh;obtain ⟨bm,ob,b1,b2,b3,b4,b5,b6⟩:=hbm;have nP:∀b o,X.base.get? b=some o->∀u,H P=some u->b≠P:=λb o e u hu z=>by
  have:=(I.bs b o e).2;rw [z,hu] at this;cases this
 obtain ⟨og,eg⟩:∃o,X.base.get? mainGlobals=some o:=let ⟨o,_,_,e,_⟩:=I.mod.glob;⟨o,e⟩;have hbG:bm≠mainGlobals:=λq=>by
  obtain ⟨o,es,ep,e,hd,_⟩:=I.mod.glob;rw [q,e] at b3;cases b3;rw [hd] at b6;cases b6
 rcases TO.ex with hP | ⟨c',hP,hc'⟩
 ·have hPt:s.heap.get? P=some (tabObj #[]):=I.hok P _ hP;refine kla_makeFunction (mg:=X.mg) hcl I.ok.glob hg hcode C hPt trivial rfl (nP _ _ eg _ hP) ⟨bm,ob,b1,b2,hbG,nP _ _ b3 _ hP,I.bk _ _ b3,b4,b5,b6⟩ λc' ctv h' tk hx hge hlt hrec htb=>?_;generalize hq:X.env.qual++Str.ofString "<lambda>" = q at *;have hf:H c'=none:=I.hok.fresh hge;have Pc:P≠c':=λz=>by rw [z,hf] at hP;cases hP
  have kp:∀(x:Obj) b o,b≠P->s.heap.get? b=some o->(h'.push x).get? b=some o:=λx b o n e=>aB _ (hx b o n e);have szh:s.heap.objs.size<=h'.objs.size:=aQ hge (Nat.le_of_lt hlt);have nc:∀b u,H b=some u->b≠c':=λb u e z=>by rw [z,hf] at e;cases e
  have I1:cE X pins σ (upd (upd H P (.tbl #[rawInt pos.line,rawInt pos.col,.ref c'])) c' (sT c' q)) { s with heap:=h'.push (kla_obj "<lambda>" q params body scope [] ((X.mg "__name__").getD .none) c' ctv),toks:=tk }:=by
   refine I.un ⟨λb o e n _ _=>kp _ b o (λz=>by rw [z,hP] at n;cases n) e,λb o e n _ _=>⟨o.slots,kp _ b o (λz=>by rw [z,hP] at n;cases n) e⟩,λb o e n _=>?_,λb o e _=>?_,λb xs e=>?_,λb o u e=>?_,λb ps e=>?_⟩ λb u e=>?_
   ·rw [bT (bW (aV (aX e) hge)),bT (λz=>by rw [z,hP] at n;cases n)];exact n
   ·by_cases z:b=P
    ·exact ⟨_,by rw [z];exact aB _ htb⟩
    ·exact ⟨o,kp _ b o z e⟩
   ·rw [bT (nc b _ e),bT (λz=>by rw [z,hP] at e;cases e)];exact e
   ·rw [bT (nc b _ e),bT (λz=>by rw [z,hP] at e;cases e)];exact e
   ·by_cases z:b=P
    ·subst z;rw [hP] at e;cases e;exact ⟨#[rawInt pos.line,rawInt pos.col,.ref c'],by rw [bT Pc,bH];rfl⟩
    ·exact ⟨#[],by rw [bT (nc b _ e),bT z,e];simp⟩
   ·by_cases z:b=c'
    ·subst z;rw [bH] at e;cases e;exact KZ (hrec.keeps λb o e=>aB _ e)
    ·rw [bT z] at e;by_cases z2:b=P
     ·subst z2;rw [bH] at e;cases e;exact aB _ htb
     ·rw [bT z2] at e;refine (I.hok b u e).stay (λd v hd' r=>kp _ d v ?_ r) (λd r=>?_) λd xs r=>?_
      ·rcases hd' with rfl | hd'
       ·exact z2
       ·intro z3;rw [z3,hP] at hd';cases hd'
      ·rw [bT (nc d _ r),bT (λz=>by rw [z,hP] at r;cases r)];exact r
      ·rw [bT (nc d _ r),bT (λz=>by rw [z,hP] at r;cases r)];exact r
  refine h h'.objs.size c' ((X.mg "__name__").getD .none) ctv _ _ ⟨.inr ⟨c',by rw [bT Pc,bH],bH⟩⟩ bH (λb o e=>?_) (gB ..) (I1.pins_of λp hp=>?_)
  ·have n:=fF.ne e;rw [fF.at n] at e;refine fF.of n ?_;rw [bT (nc b _ e),bT n];exact e
  ·rcases aT.mp hp with rfl | hp
   ·exact ⟨aY _ rfl,by
     rw [bT (Nat.ne_of_gt hlt),bT (Nat.ne_of_gt (aV (I.hok.lt hP) szh))];exact I.hok.fresh szh,Nat.ne_of_gt (aV I.lt szh),I.nofs szh,λv z=>by cases z⟩
   ·exact I1.pin p (aP _ hp)
 ·have hPt:s.heap.get? P=some (tabObj #[rawInt pos.line,rawInt pos.col,.ref c']):=I.hok P _ hP;refine kla_makeFunctionHit (mg:=X.mg) (cv:=.ref c') hcl I.ok.glob hg hcode C hPt trivial (codeAmong_snoc [] trivial rfl) ⟨bm,ob,b1,b2,hbG,nP _ _ b3 _ hP,I.bk _ _ b3,b4,b5,b6⟩ λctv h' tk hx szh=>?_;generalize hq:X.env.qual++Str.ofString "<lambda>" = q at *;have I1:cE X pins σ H { s with heap:=h'.push (kla_obj "<lambda>" q params body scope [] ((X.mg "__name__").getD .none) c' ctv),toks:=tk }:=I.kept λb o e=>aB _ (hx b o e);refine h h'.objs.size c' ((X.mg "__name__").getD .none) ctv H _ TO hc' (λb o e=>e) (gB ..) (I1.pins_of λp hp=>?_);rcases aT.mp hp with rfl | hp
  ·exact ⟨aY _ rfl,I.hok.fresh szh,Nat.ne_of_gt (aV I.lt szh),I.nofs szh,λv z=>by cases z⟩
  ·exact I1.pin p (aP _ hp)
end
def KC(base h:Heap)(f:Addr):Heap:=wI h λb=>if base.get? b=none/\b≠f then some (.own 0) else none
theorem OD{base h:Heap}{f:Addr}(k:∀b o,base.get? b=some o->h.get? b=some o){b:Addr}{o:Obj}(e:base.get? b=some o):(KC base h f).get? b=some o :=
 wH (k b o e) (if_neg λz=>by rw [e] at z;cases z.1)
theorem KB{base h:Heap}{f:Addr}{o:Obj}(e:h.get? f=some o):(KC base h f).get? f=some o:=wH e (if_neg λz=>z.2 rfl)
theorem TY{base h:Heap}{f:Addr}(k:∀b o,base.get? b=some o->h.get? b=some o){b:Addr}{o:Obj}(e:(KC base h f).get? b=some o):base.get? b=some o\/b=f:=by
 obtain ⟨e1,n⟩:=HH e;by_cases z:b=f
 ·exact .inr z
 ·cases q:base.get? b with
  | none =>
   rw [if_pos ⟨q,z⟩] at n;cases n
  | some o' =>
   rw [k b o' q] at e1;cases e1;exact .inl rfl
theorem LO.more{K:Frag}{mg:Str->Option Value}{b b':Heap}(m:LO K mg b)(k:∀c o,b.get? c=some o->b'.get? c=some o):LO K mg b' :=
 ⟨m.kin.keeps k,m.glob.keeps k,let ⟨mb,h1,h2⟩:=m.blt;⟨mb,h1.keeps k,h2⟩,m.nolimit.keeps k⟩
theorem tV{h base B:Heap}:∀{l:List Env},h.FunFrames base l->(∀b∈frs l,B.get? b=none)->h.FunFrames B l
 | [],_,_=>trivial
 | env::rest,⟨hk,⟨L,o,hf,hn,ho,hd⟩,hr⟩,k=>⟨hk,⟨L,o,hf,k L (by unfold frs;rw [List.filterMap_cons,hf];exact aH ..),ho,hd⟩,tV hr λb hb=>k b (by unfold frs;rw [List.filterMap_cons,hf];exact aF _ hb)⟩
section
variable{X:Cx}{pins:List (Addr × Obj)}{σ:St}{H:Hp}{s:Shared}
theorem cE.envB(I:cE X pins σ H s){B:Heap}{f:Addr}{of:Obj}(hp:(f,of)∈pins)(hm:LO X.K X.mg B)(hB:∀b o,B.get? b=some o->X.base.get? b=some o\/b=f)(hf:B.get? f=some of)(hz:B.objs.size<=s.heap.objs.size):DZ X.prog X.w X.K X.mg B X.A X.stack s H:=by
 have e:=I.env0;obtain ⟨p1,p2,p3,p4,_⟩:=I.pin (f,of) (aP _ hp);refine ⟨e.frames,hm,λb o q=>?_,hz,tV e.funs λb hb=>?_,e.frf,e.hok,e.bare⟩
 ·rcases hB b o q with z | rfl
  ·exact I.bs b o z
  ·rw [hf] at q;cases q;exact ⟨p1,p2⟩
 ·cases q:B.get? b with
  | none=>rfl
  | some o =>
   exfalso;rcases hB b o q with z | rfl
   ·have:=(e.funs.mem hb).1;rw [z] at this;cases this
   ·rcases aT.mp (I.stkSub b hb) with z | z
    ·exact p3 z
    ·exact p4 z
end
theorem aAj{P:Program}{w:World}{K:Frag}{mg:Str->Option Value}{B:Heap}{k:Nat}{f c':Addr}{qual:Str}{params:Arguments}{body:Expr}{scope:Scope}{pm ctv:Value}{N ps:List Str}{sp:Sp}
  (hfb:B.get? f=some (kla_obj "<lambda>" qual params body scope [] pm c' ctv)) (S:bZ N ps scope) (len:∀vs H Q E,sp vs H Q E->vs.length=ps.length) (hc:∀vs H Q E,sp vs H Q E->H c'=some (sT c' qual))
  (hbody:∀(A:Around) (outer:List Env) (s:Shared) (H:Hp) (vs:List V) (Q:VK) (E:XK),iD k (A.deeper (envOfC qual scope s.heap.objs.size f (.ref c')))->sp vs H Q E ->
   ∃t:TE,fY (uF dQ P w K mg B N qual scope f (.ref c') A outer s H E).nox body t/\t (start N vs) H Q) :
  dZ P w K mg B dQ (k+1) f (kla_fn "<lambda>" qual params body scope [] pm (.ref c') ctv) ps sp:=by
 refine ⟨len,λA outer s H args us vs Q E hr e0 hb r hsp=>?_⟩;have hl:=len _ _ _ _ hsp;have lim:s.heap.NoLimit:=e0.mod.nolimit.keeps λb o e=>(e0.bs b o e).1;have hcd:s.heap.CodeRec (.ref c') qual:=(e0.hok c' _ (hc _ _ _ _ hsp)).1;have hkind:∀y∈ps.zip us,scope.names.lookup y.1=some .local\/(scope.names.lookup y.1=some .cell/\((cellsFrom (s.heap.objs.size+1) scope.names []).lookup y.1).isSome=true):=λ⟨n,v⟩ hy=>by
  rcases S.par n (List.of_mem_zip hy).1 with q | q
  ·exact .inl q
  ·exact .inr ⟨q,PySem.W.cellsFrom_some _ _ _ (.inl q)⟩
 refine kla_callFunE hr.depth (e0.bs _ _ hfb).1 rfl S.co S.gen rfl hcd (hb _ _ _ _ ?_);refine wpAny_newFunctionEnv_cells S.kind hkind λenv he s1 x=>?_;subst he;refine ⟨lim.keeps x.toInCall.keep,kla_codeExpr ?_⟩;obtain ⟨t,ht,hq⟩:=hbody A outer s H vs Q E (hr.deeper _) hsp;have I:cE (uF dQ P w K mg B N qual scope f (.ref c') A outer s H E) [] (start N vs) H s1:=yK S hr.hd e0 hl r x;refine wpAny_mono (ht.p.nox [] s1 (start N vs) H _ I hq) (λu s' hs=>?_) λe s' hs=>hs;obtain ⟨v,H',J,rv,q⟩:=hs;exact ⟨v,H',J.os,J.bare,J.base,J.hok,rv,q⟩
section
variable{X:Cx}{pins:List (Addr × Obj)}{σ:St}{H:Hp}{s:Shared}
theorem MO{k:Nat}{f:Addr}{fd:FuncData}{ps:List Str}{sp:Sp}{B:Heap}{of:Obj}(hpf:(f,of)∈pins)(hm:LO X.K X.mg B)(hB:∀b o,B.get? b=some o->X.base.get? b=some o\/b=f)(hfB:B.get? f=some of)(hz':B.objs.size<=f+1)(F:dZ X.prog X.w X.K X.mg B dQ k f fd ps sp)(hb:pR X.K fd ps [])(hr:iD (k+2) X.A){a kS:Addr}{ys:List V}{vs:List Value}{kz:List (List Int)}{e1:Nat}
  {P:PySem.Fin->Shared->Prop} {E:Value->Shared->Prop} (I:cE X ((kS,seqObj "list" #[] 0)::(a,seqObj "list" #[] e1)::pins) σ H s) (nk:X.s₀.heap.objs.size<=kS) (np:∀p∈X.pn++((a,seqObj "list" #[] e1)::pins),p.1≠kS)
  (rv:cV ys vs) (h64:vs.length<64) (kb:GH sp H ys kz)
  (h:∀(p:Array Nat) (ks:List Value) (e:Nat) (H':Hp) (s':Shared),bC H H'->cE X ((kS,seqObj "list" (List.toArray ks) e)::(a,seqObj "list" #[] e1)::pins) σ H' s'->fB vs.length p->(wZ vs.length (rW kz)->rX (rW kz) p vs.length) ->
   P (.done (.ret .none)) { s' with heap:=(s'.heap.update kS (Obj.mapSeq λ_=>#[])).update a (Obj.mapSeq λ_=>List.toArray (p.toList.map λi=>vs.getD i Value.none)) }) :
  wpAny (model X.prog X.w) X.A.in1.in1 (ksk_rest a (.ref f) false vs.toArray e1 (.ref kS)) P E s:=by
 obtain ⟨kl,kn,kc⟩:=kb;have lv:=rv.length;have ne:a≠kS:=np (a,seqObj "list" #[] e1) (aP _ (aH ..));unfold ksk_rest;refine wpAny_bind (wpAny_rule ?_);rw [List.forIn_toArray];refine wpAny_bind (ksk_fold (λi s'=>∃(H':Hp) (ks:List Value) (kv:List V) (e:Nat),cE X ((kS,seqObj "list" (List.toArray ks) e)::(a,seqObj "list" #[] e1)::pins) σ H' s'/\bC H H'/\cV kv ks/\bD H' ((kz.take i).map UA) kv) vs 0 s
  ⟨H,[],[],0,I,bC.refl _,.nil,bD.nil⟩ (λj x s' hx hI=>?_) λs' hI=>?_)
 ·obtain ⟨H',ks,kv,e,I',sH,rk,rr⟩:=hI;rw [Nat.zero_add] at rr ⊢;have hj:j<vs.length:=(aK.mp hx).1;obtain ⟨y,hy,ry⟩:∃y,ys[j]?=some y/\dH y x:=by
   obtain ⟨u,hu,ru⟩:=rv.get (i:=j) (x:=ys[j]'Oo) (by simp [show j<ys.length by omega]);rw [hx] at hu;cases hu;exact ⟨_,aC Oo,ru⟩
  obtain ⟨kk,hkk⟩:∃kk,kz[j]?=some kk:=⟨_,aC Oo⟩;have lk:ks.length=min j kz.length:=by rw [<-rk.length,rr.len,aA,dC]
  have spec:=kc j y kk H' hy hkk sH;have hl:([x]++([]:List Value)).length=ps.length:=by rw [<-F.len _ _ _ _ spec];rfl
  have run:=F.run X.A.in1.in1 X.stack s' H' ⟨[x],[]⟩ [x] [y] _ E0 hr.in1.in1 (I'.envB (aF _ (aF _ hpf)) hm hB hfB (aQ hz' (aX (I'.pin (f,of) (aP _ (aF _ (aF _ hpf)))).1))).in1.in1 (hb s' [x] I'.kIn hl) (.cons ry .nil) spec;refine wpAny_bind (wpAny_attempt (wpAny_call (codeAny_mono run λr s2 hq=>?_)));cases r with
  | error e=>exact False.elim hq
  | ok fl =>
   cases fl with
   | next=>exact False.elim hq
   | brk=>exact False.elim hq
   | cont=>exact False.elim hq
   | ret u =>
    obtain ⟨v,H2,I2,rvu,s2',rkey⟩:=I'.after hq;dsimp only;have pk:=I2.pin (kS,seqObj "list" (List.toArray ks) e) (aP _ (aH ..));have ea:(List.toArray ks).push u=List.toArray (ks++[u]):=by simp
    obtain ⟨c2,hc2⟩:∃c2,(s2.heap.update kS (Obj.mapSeq (·.push u))).get? kS=some (seqObj "list" (List.toArray (ks++[u])) c2):=⟨_,by rw [<-ea];exact get?_update_seq pk.1 (·.push u)⟩;refine wpAny_bind (listUpdate_at pk.1 rfl ?_ (by rw [aW,sizeLine_eq];omega) (aQ (Nat.le_of_eq (Array.size_push ..)) (by rw [aW,sizeLine_eq];omega)));have I3:cE X ((a,seqObj "list" #[] e1)::pins) σ H2 s2:=I2.pins_of λp hp=>I2.pin p (aP _ (aF _ hp));have I4:=I3.turned (it:=kS) (h':=s2.heap.update kS (Obj.mapSeq (·.push u))) (t':=s2.toks) (λb o nb hb=>by rw [cZ _ _ _ _ nb];exact hb) pk.2.1 pk.2.2.1 (.inr nk) (λx c hc z=>by
     obtain ⟨v,o,ho,hd⟩:=I3.cell x c hc;rw [z,pk.1] at ho;cases ho;exact pk.2.2.2.2 v hd) np
    refine wpAny_pure ⟨rfl,H2,ks++[u],kv++[v],c2,?_,sH.trans s2',rk.snoc' rvu,?_⟩
    ·refine I4.pins_of λp hp=>?_;rcases aT.mp hp with rfl | hp
     ·exact ⟨hc2,pk.2.1,pk.2.2.1,pk.2.2.2.1,λv=>by intro z;cases z⟩
     ·exact I4.pin p (aP _ hp)
    ·rw [eJ,hkk,bM];exact bD.snoc (rr.flat s2'.t (CV _)) rkey
 ·obtain ⟨H',ks,kv,e,I',sH,rk,rr⟩:=hI;rw [Nat.zero_add,List.take_of_length_le Oo] at rr;have pk:=I'.pin (kS,seqObj "list" (List.toArray ks) e) (aP _ (aH ..));have pa:=I'.pin (a,seqObj "list" #[] e1) (aP _ (aF _ (aH ..)));refine wpAny_bind (listItems_at pk.1 rfl ?_);have lk:ks.length=vs.length:=by rw [<-rk.length,rr.len,aA];omega
  refine XQ (kz:=kz) lk h64 hr.in1.in1.units (OE I' rr kn rk) pk.1 pa.1 ne λp g1 g2=>?_;exact h p ks e H' s' sH I' g1 g2
end
section
variable{X:Cx}{pins:List (Addr × Obj)}{σ:St}{H:Hp}{s:Shared}
end
def spL(N:List Str)(c':Addr)(q:Str)(te:TE):Sp:=λvs H Q _=>vs.length=1/\H c'=some (sT c' q)/\te (start N vs) H Q
theorem iZ.same{H H':Hp}{P:Addr}{q:Str}{pos:Pos}(t:iZ H P q pos)(s:bC H H'):iZ H' P q pos:=⟨t.ex.elim (λh=>.inl (s _ _ h)) λ⟨c',h1,h2⟩=>.inr ⟨c',s _ _ h1,s _ _ h2⟩⟩
theorem iZ.at_{H:Hp}{P:Addr}{q:Str}{pos:Pos}(t:iZ H P q pos):∃ps,H P=some (.tbl ps):=t.ex.elim (λh=>⟨_,h⟩) λ⟨c',h1,_⟩=>⟨_,h1⟩
theorem fS.butT{K:Frag}{H H':Hp}{P p:Addr}{xs:List V}{ps:Array Value}(b:aU P H H')(hP:H P=some (.tbl ps))(h:fS K H p xs):fS K H' p xs:=by
 rcases h with (h | ⟨o,h⟩) | h
 ·exact .inl (.inl (b.at (λz=>by rw [z,hP] at h;cases h) h))
 ·exact .inl (.inr ⟨o,b.at (λz=>by rw [z,hP] at h;cases h) h⟩)
 ·exact .inr h
theorem aU.same{P:Addr}{H H1 H2:Hp}(b:aU P H H1)(s:bC H1 H2):aU P H H2:=λc o e=>by
 have n:=fF.ne e;rw [fF.at n] at e;exact fF.of n (s _ _ (b.at n e))
section
variable{X:Cx}
end
section
variable{X:Cx}{pins:List (Addr × Obj)}{σ:St}{H:Hp}{s:Shared}
theorem FB{k:Nat}{f:Addr}{fd:FuncData}{ps:List Str}{sp:Sp}{B:Heap}{of:Obj}(hpf:(f,of)∈pins)(hm:LO X.K X.mg B)(hB:∀b o,B.get? b=some o->X.base.get? b=some o\/b=f)(hfB:B.get? f=some of)(hz':B.objs.size<=f+1)(F:dZ X.prog X.w X.K X.mg B dQ k f fd ps sp)(hb:pR X.K fd ps [])(hr:iD (k+2) X.A){u:Value}{Q:VK}
  (hcol:∀Qc:List Value->Shared->Prop,(∀(s1:Shared) (vs:List Value) (ys:List V) (kz:List (List Int)),cE X pins σ H s1->cV ys vs->ys.length<64->GH sp H ys kz->(∀(D:Addr) (ix:List Nat) (H':Hp),ix.Perm (List.range ys.length)->(kz.Nodup->(ix.map λi=>kz.getD i []).Pairwise λa b=>hV a b=true)->H D=none->H' D=some (.lst (ix.map λi=>ys.getD i .non))->bC H H'->Q (.ref D) H')->Qc vs s1)->wpAny (model X.prog X.w) X.A.in1 (collect u) Qc X.xe s) :
  wpAny (model X.prog X.w) X.A (call (.builtin "sorted") [u] [(Str.ofString "key",.ref f)]) (EP X pins σ Q) X.xe s:=by
 refine call_function_entry_kw kind_sorted plain_sorted entry_sorted (ksk_s1 _ _) ?_;unfold Builtin.«sorted»;refine wpAny_bind (m:=checkCount _ _ _ _) (wpAny_pure ?_);refine wpAny_bind (hcol _ λs vs ys kz I rv hz kb q=>?_);have lv:=rv.length;have h64:vs.length<64:=Oo;have hzz:ys.length<=sizeLine:=by rw [sizeLine_eq];omega
 have sz0:s.heap.objs.size<=s.heap.objs.size:=aJ _;have kp0:∀b o,s.heap.get? b=some o->s.heap.get? b=some o:=λb o h=>h;obtain ⟨h1,eh1⟩:∃h1,h1=s.heap:=⟨_,rfl⟩;rw [<-eh1] at kp0;have sz0:s.heap.objs.size<=h1.objs.size:=by rw [eh1];exact aJ _
 have kp0:∀b o,s.heap.get? b=some o->h1.get? b=some o:=λb o h=>by rw [eh1];exact h
 have es:s={ s with heap:=h1 }:=by rw [eh1]
 suffices hh:∀s':Shared,s'={ s with heap:=h1 }->wpAny _ _ _ _ _ s' from hh s es
 intro s' es';subst es';clear es eh1;refine wpAny_bind (wpAny_newList ?_ (by rw [sizeLine_eq];omega));have gD:(h1.push (seqObj "list" vs.toArray 0)).get? h1.objs.size=some (seqObj "list" vs.toArray 0):=aY _ rfl;have sz1:(h1.push (seqObj "list" vs.toArray 0)).objs.size=h1.objs.size+1:=size_push' ..;have kp1:∀b o,s.heap.get? b=some o->(h1.push (seqObj "list" vs.toArray 0)).get? b=some o:=λb o hb=>aB _ (kp0 b o hb);show wpAny _ _ _ _ _ { s with heap:=h1.push (seqObj "list" vs.toArray 0) };generalize hD:h1.objs.size=D at *;generalize h1.push (seqObj "list" vs.toArray 0)=h2 at gD sz1 kp1 ⊢;refine wpAny_bind (wpAny_holding (wpAny_call_entry_kw slot_list_sort ⟨_,gD,rfl⟩ entry_list_sort ?_ (ksk_l1 _ _)));show wpAny (model X.prog X.w) X.A.in1.in1 (Builtin.«list.sort» ⟨[.ref D],[(Str.ofString "key",.ref f)]⟩) _ _ _;rw [ksk_t1];unfold ksk_tree;refine wpAny_bind (listItems_at gD rfl ?_);refine wpAny_bind (listUpdate_at gD rfl ?_ (by rw [aW,sizeLine_eq];omega) (cC _));obtain ⟨e1,g1⟩:∃e1,(h2.update D (Obj.mapSeq λ_=>(#[]:Array Value))).get? D=some (seqObj "list" #[] e1):=⟨_,get?_update_seq gD λ_=>#[]⟩;have sz2:(h2.update D (Obj.mapSeq λ_=>(#[]:Array Value))).objs.size=D+1:=by rw [Heap.size_update];exact sz1
 have kp2:∀b o,s.heap.get? b=some o->(h2.update D (Obj.mapSeq λ_=>(#[]:Array Value))).get? b=some o:=λb o hb=>by
  have lt:b<s.heap.objs.size:=aX hb;rw [cZ _ _ _ _ (bW (aV lt sz0))];exact kp1 b o hb
 show wpAny _ _ _ _ _ { s with heap:=h2.update D (Obj.mapSeq λ_=>(#[]:Array Value)) };generalize h2.update D (Obj.mapSeq λ_=>(#[]:Array Value))=h3 at g1 sz2 kp2 ⊢;refine wpAny_bind (seqEpoch_at g1 rfl ?_);refine wpAny_bind (wpAny_newTuple ?_ (by show vs.length<=_;rw [sizeLine_eq];omega));refine wpAny_bind (wpAny_newList ?_ (cC _));refine wpAny_holding ?_;have g2:((h3.push (seqObj "tuple" vs.toArray 0)).push (seqObj "list" #[] 0)).get? D=some (seqObj "list" #[] e1):=aB _ (aB _ g1);have g3:((h3.push (seqObj "tuple" vs.toArray 0)).push (seqObj "list" #[] 0)).get? (h3.push (seqObj "tuple" vs.toArray 0)).objs.size=some (seqObj "list" #[] 0):=aY _ rfl;have sz3:(h3.push (seqObj "tuple" vs.toArray 0)).objs.size=D+2:=by rw [size_push',sz2]
 have kp3:∀b o,s.heap.get? b=some o->((h3.push (seqObj "tuple" vs.toArray 0)).push (seqObj "list" #[] 0)).get? b=some o:=λb o hb=>aB _ (aB _ (kp2 b o hb));show wpAny _ _ (ksk_rest D (.ref f) false vs.toArray e1 (.ref (h3.push (seqObj "tuple" vs.toArray 0)).objs.size)) _ _ { s with heap:=(h3.push (seqObj "tuple" vs.toArray 0)).push (seqObj "list" #[] 0) };rw [sz3] at g3 ⊢;generalize (h3.push (seqObj "tuple" vs.toArray 0)).push (seqObj "list" #[] 0)=h4 at g2 g3 kp3 ⊢;have I0:cE X pins σ H { s with heap:=h4 }:=I.kept (t':=s.toks) kp3;have dD:s.heap.objs.size<=D:=sz0;have dD2:s.heap.objs.size<=D+2:=aQ sz0 (Nat.le_add_right _ _);have nDD:D≠D+2:=bW (Nat.lt_add_of_pos_right Dd);have lL:=I.lt;have hpin:∀p∈X.pn++pins,p.1<s.heap.objs.size:=λp hp=>aX (I.pin p hp).1;have I1:cE X ((D+2,seqObj "list" #[] 0)::(D,seqObj "list" #[] e1)::pins) σ H { s with heap:=h4 }:=I0.pins_of λp hp=>by
  rcases aT.mp hp with rfl | hp
  ·exact ⟨g3,I.hok.fresh dD2,Nat.ne_of_gt (aV lL dD2),I.nofs dD2,λv z=>by cases z⟩
  rcases aT.mp hp with rfl | hp
  ·exact ⟨g2,I.hok.fresh dD,Nat.ne_of_gt (aV lL dD),I.nofs dD,λv z=>by cases z⟩
  exact I0.pin p (aP _ hp)
 have sz00:=I.sz;refine MO hpf hm hB hfB hz' F hb hr I1 (aQ sz00 dD2) (λp hp=>?_) rv h64 kb λp ks e H' s' sH I' hg ha=>?_
 ·rcases dB.mp hp with hp | hp
  ·exact bW (aV (hpin p (cX _ hp)) dD2)
  rcases aT.mp hp with rfl | hp
  ·exact nDD
  ·exact bW (aV (hpin p (aP _ hp)) dD2)
 have pk:=I'.pin (D+2,seqObj "list" (List.toArray ks) e) (aP _ (aH ..));have pa:=I'.pin (D,seqObj "list" #[] e1) (aP _ (aF _ (aH ..)));have Ip:cE X pins σ H' s':=I'.pins_of λp hp=>I'.pin p (aP _ (aF _ (aF _ hp)));have hperm:p.toList.Perm (List.range ys.length):=by
  have:=(Array.perm_iff_toList_perm.mp hg);rw [lv];simpa using this
 have hlt:∀i∈p.toList,i<ys.length:=λi hi=>by
  have:=hperm.mem_iff.mp hi;simpa using this
 have hl2:(p.toList.map λi=>ys.getD i .non).length=ys.length:=by rw [aA,hperm.length_eq,bK]
 have hDn:H' D=none:=pa.2.1;have gfin:((s'.heap.update (D+2) (Obj.mapSeq λ_=>(#[]:Array Value))).update D (Obj.mapSeq λ_=>List.toArray (p.toList.map λi=>vs.getD i Value.none))).get? D=some (seqObj "list" (List.toArray (p.toList.map λi=>vs.getD i Value.none)) _) :=
  get?_update_seq (show (s'.heap.update (D+2) (Obj.mapSeq λ_=>(#[]:Array Value))).get? D=some (seqObj "list" #[] e1) by rw [cZ _ _ _ _ nDD];exact pa.1) λ_=>List.toArray (p.toList.map λi=>vs.getD i Value.none)
 have kfin:∀b o,b≠D->b≠D+2->s'.heap.get? b=some o->((s'.heap.update (D+2) (Obj.mapSeq λ_=>(#[]:Array Value))).update D (Obj.mapSeq λ_=>List.toArray (p.toList.map λi=>vs.getD i Value.none))).get? b=some o:=λb o n1 n2 hb=>by
  rw [cZ _ _ _ _ n1,cZ _ _ _ _ n2];exact hb
 generalize (s'.heap.update (D+2) (Obj.mapSeq λ_=>(#[]:Array Value))).update D (Obj.mapSeq λ_=>List.toArray (p.toList.map λi=>vs.getD i Value.none))=h5 at gfin kfin ⊢;refine ⟨_,rfl,wpAny_pure ⟨_,rfl,?_⟩⟩;have nn:∀b u,H' b=some u->b≠D/\b≠D+2:=λb u hb=>⟨(λz=>by rw [z,hDn] at hb;exact nomatch hb),(λz=>by rw [z,pk.2.1] at hb;exact nomatch hb)⟩;have ncell:∀x c,X.env.cells.lookup x=some c->c≠D/\c≠D+2:=λx c hc=>by
  obtain ⟨v,o,ho,hd⟩:=Ip.cell x c hc;refine ⟨λz=>?_,λz=>?_⟩
  ·rw [z,pa.1] at ho;cases ho;exact pa.2.2.2.2 v hd
  ·rw [z,pk.1] at ho;cases ho;exact pk.2.2.2.2 v hd
 have mem2:∀b,b ∉ [D,D+2]->b≠D/\b≠D+2:=λb hb=>⟨λz=>hb (by simp [z]),λz=>hb (by simp [z])⟩;refine ⟨.ref D,upd H' D (.lst (p.toList.map λi=>ys.getD i .non)),Ip.step (g':=s'.gens) (d':=s'.drawn) (t':=s'.toks) (ch:=[D,D+2]) (λb hb=>?_) (λb o _ _ hc g _=>kfin b o (mem2 b hc).1 (mem2 b hc).2 g) (λb o _ _ hc g _=>⟨o.slots,kfin b o (mem2 b hc).1 (mem2 b hc).2 g⟩)
  (λb o hc g n=>by rw [bT (mem2 b hc).1];exact n) (λb o hc g=>⟨o,kfin b o (mem2 b hc).1 (mem2 b hc).2 g⟩) (λb xs g=>by rw [bT (nn b _ g).1];exact g) (λb o u g=>by rw [bT (nn b _ g).1];exact g) (λb ps g=>⟨#[],by rw [bT (nn b _ g).1,g];simp⟩)
  (λm hm=>?_) (λb u g=>?_) Ip.bare,rfl,?_⟩
 ·rcases aT.mp hb with rfl | hb
  ·exact ⟨.inr (aQ sz00 dD),pa.2.2.1,λx c hc=>(ncell x c hc).1,λp hp=>bW (aV (hpin p hp) dD)⟩
  ·rw [bQ.mp hb];exact ⟨.inr (aQ sz00 dD2),pk.2.2.1,λx c hc=>(ncell x c hc).2,λp hp=>bW (aV (hpin p hp) dD2)⟩
 ·obtain ⟨o,es,ep,ho,r⟩:=hm;exact ⟨o,es,ep,kfin _ o (Ne.symm pa.2.2.1) (Ne.symm pk.2.2.1) ho,r⟩
 ·by_cases hbD:b=D
  ·subst hbD;rw [bH] at g;cases g;exact ⟨by rw [hl2];exact hzz,_,_,uJ rv _ hlt,gfin⟩
  ·rw [bT hbD] at g;refine (Ip.hok b u g).stay (λc v hc r=>?_) (λc r=>by rw [bT (nn c _ r).1];exact r) λc xs r=>by rw [bT (nn c _ r).1];exact r
   have nc:c≠D/\c≠D+2:=by
    rcases hc with rfl | hc
    ·exact nn c u g
    ·exact nn c _ hc
   exact kfin c v nc.1 nc.2 r
 ·refine q D p.toList _ hperm (λnd=>?_) (I.hok.fresh dD) bH (λb o g=>?_)
  ·have:=kb.1;exact QC hg (ha (by have:=FI nd;rwa [kb.1,lv] at this))
  ·have g':=sH b o g;rw [bT (nn b o g').1];exact g'
def BK(H:Hp)(cs:List (List Int))(ys:List V):Prop:=ys.length=cs.length/\∀(i:Nat) (y:V) (c:List Int),ys[i]?=some y->cs[i]?=some c->∃b,y=.ref b/\H b=some (.tup (c.map V.int))
@[irreducible] def AH(sp:Sp)(x:V)(H:Hp)(Q:VK):Prop:=∃(d:Addr) (kvs:List (List dP × V)) (cs kz:List (List Int)),x=.ref d/\H d=some (.dT kvs)/\kvs.map (·.1)=cs.map TZ/\cs.length<64 /\
 ∀ys,BK H cs ys->GH sp H ys kz/\∀(D:Addr) (ix:List Nat) (H':Hp),ix.Perm (List.range ys.length)->(kz.Nodup->(ix.map λi=>kz.getD i []).Pairwise λa b=>hV a b=true)->H D=none->H' D=some (.lst (ix.map λi=>ys.getD i .non))->bC H H'->Q (.ref D) H'
theorem FA(hc:X.calm=true){k:Nat}{f:Addr}{fd:FuncData}{ps:List Str}{sp:Sp}{B:Heap}{of:Obj}(hpf:(f,of)∈pins)(hm:LO X.K X.mg B)(hB:∀b o,B.get? b=some o->X.base.get? b=some o\/b=f)(hfB:B.get? f=some of)(hz':B.objs.size<=f+1)(F:dZ X.prog X.w X.K X.mg B dQ k f fd ps sp)(hb:pR X.K fd ps [])(hr:iD (k+2) X.A){x:V}{u:Value}{Q:VK}(I:cE X pins σ H s)(rx:dH x u)(q:AH sp x H Q) :
  wpAny (model X.prog X.w) X.A (call (.builtin "sorted") [u] [(Str.ofString "key",.ref f)]) (EP X pins σ Q) X.xe s:=by
 unfold AH at q;obtain ⟨d,kvs,cs,kz,rfl,hq,hk,hz,q⟩:=q;cases (show u=Value.ref d from rx);refine FB (H:=H) hpf hm hB hfB hz' F hb hr λQc kc=>?_;obtain ⟨hmm,hnd,o,hod,hex,es,ep,hdd,hsz,hat⟩:=OY I hq;have lk:kvs.length=cs.length:=by have:=congrArg List.length hk;simpa using this
 refine uC (AU hmm hex hdd) (show X.A.in1.handled=none from I.ok.hd hc) hod (by rw [sizeLine_eq];omega) λh1 tk acc kp hacc=>?_;obtain ⟨la,hacc⟩:=hacc;have I1:cE X pins σ H { s with heap:=h1,toks:=tk }:=I.kept kp;have key:∀(n:Nat) (l:List Value),l.length=n->∀(m:List (List Int)),m.length=n->(∀(i:Nat) v c,l[i]?=some v->m[i]?=some c->∃b,v=.ref b/\H b=some (.tup (c.map V.int)))->∃ys:List V,cV ys l/\BK H m ys:=by
  intro n
  induction n with
  | zero =>
   intro l hl m hm _;cases l with
   | nil=>cases m with
    | nil=>exact ⟨[],.nil,rfl,λi y c h=>by simp at h⟩
    | cons _ _=>simp at hm
   | cons _ _=>simp at hl
  | succ n ih =>
   intro l hl m hm hk;cases l with
   | nil=>simp at hl
   | cons v l=>cases m with
    | nil=>simp at hm
    | cons c m =>
     obtain ⟨b,rfl,hb⟩:=hk 0 v c rfl rfl;obtain ⟨ys,hv,hy⟩:=ih l (by simpa using hl) m (by simpa using hm) λi v p h1 h2=>hk (i+1) v p (by simpa using h1) (by simpa using h2);refine ⟨.ref b::ys,.cons rfl hv,by rw [cM,cM,hy.1],λi y c' h1 h2=>?_⟩;cases i with
     | zero =>
      cases (show V.ref b=y by simpa using h1);cases (show c=c' by simpa using h2);exact ⟨b,rfl,hb⟩
     | succ i=>exact hy.2 i y c' (by simpa using h1) (by simpa using h2)
 have lacc:acc.toList.length=cs.length:=by rw [Array.length_toList,la,hsz,lk]
 obtain ⟨ys,hv,hy⟩:=key cs.length acc.toList lacc cs rfl λi v c e1 e2=>by
  obtain ⟨hi,e⟩:=hacc i v (by rw [<-Array.getElem?_toList];exact e1);have hp:∃p,kvs[i]?=some p/\p.1=TZ c:=by
   have:(kvs.map (·.1))[i]?=some (TZ c):=by rw [hk,aE,e2];rfl
   rw [aE] at this;obtain ⟨p,h1,h2⟩:=eE.mp this;exact ⟨p,h1,h2⟩
  obtain ⟨p,hp1,hp2⟩:=hp;obtain ⟨b,k1,k2⟩:=hat i hi p hp1;rw [hp2,kyV] at k2;exact ⟨b,by rw [e,k1],k2⟩
 obtain ⟨kb,kq⟩:=q ys hy;exact kc _ _ ys kz I1 hv (by rw [hy.1];exact hz) kb kq
end
@[irreducible] def FF(P:Addr)(qn:Str)(pos:Pos)(N:List Str)(te:TE)(x:V)(H:Hp)(Q:VK):Prop:=∃(d:Addr) (kvs:List (List dP × V)) (cs kz:List (List Int)),x=.ref d/\H d=some (.dT kvs)/\kvs.map (·.1)=cs.map TZ/\cs.length<64/\iZ H P qn pos/\kz.length=cs.length/\(∀k∈kz,k≠[]) /\
 (∀(i:Nat) (b:Addr) (c k:List Int) (H':Hp),cs[i]?=some c->kz[i]?=some k->aU P H H'->H' b=some (.tup (c.map V.int))->te (start N [.ref b]) H' λv H''=>bC H' H''/\cO H'' (UA k) v) /\
 ∀(D:Addr) (ix:List Nat) (ys:List V) (H':Hp),BK H' cs ys->ix.Perm (List.range ys.length)->(kz.Nodup->(ix.map λi=>kz.getD i []).Pairwise λa b=>hV a b=true)->H D=none->H' D=some (.lst (ix.map λi=>ys.getD i .non))->aU P H H'->iZ H' P qn pos->Q (.ref D) H'
def XJ(P:Addr)(qn:Str)(pos:Pos)(N:List Str)(te ta:TE):TE:=λσ H Q=>ta σ H λx H1=>FF P qn pos N te x H1 Q
section
variable{X:Cx}
theorem LW{P c:Addr}{N:List Str}{z:Str}{params:Arguments}{body:Expr}{scope:Scope}{lpos:Pos}{te:TE}{k:Nat}{a:Expr}{ta:TE}{p pos kp:Pos}{qn:Str}(hcode:X.env.code=.ref c)(hh:KI X.K c P=true)(hbm:BM X.mg X.base)
  (S:bZ N [z] scope) (hbi:∀(pm ctv:Value) (c':Addr) (u:Value),bindArgs (kla_fn "<lambda>" (X.env.qual ++ "<lambda>") params body scope [] pm (.ref c') ctv) ⟨[u],[]⟩=pure [(z,u)])
  (hbody:∀(B:Heap) (f c':Addr) (A:Around) (outer:List Env) (s:Shared) (H:Hp) (E:XK),iD k (A.deeper (envOfC (X.env.qual ++ "<lambda>") scope s.heap.objs.size f (.ref c'))) ->
   fY (uF dQ X.prog X.w X.K X.mg B N (X.env.qual ++ "<lambda>") scope f (.ref c') A outer s H E).nox body te)
  (hr:iD (k+1+2) X.A) (hg:Gl X "sorted") (hmg:X.mg "sorted" = none) (ha:fY X a ta) (hqn:X.env.qual ++ "<lambda>" = qn) (hcl:closureFor scope X.env=pure []:=by rfl) (hdef:defaultsOf params X.env=([],[]):=by rfl) (hcm:X.calm=true:=by rfl)
  (he:eval (.Call (.Name "sorted" p) [a] [⟨some "key",.Lambda params body scope lpos,kp⟩] pos) X.env=(do callWith pos (<-eval (.Name "sorted" p) X.env) [] (backTo pos (starEach [a] X.env)) (backToKw pos (keywordEach [⟨some "key",.Lambda params body scope lpos,kp⟩] X.env))):=by rfl)
  (hs:starEach [a] X.env=[(false,eval a X.env)]:=by first | exact gQ | exact gR | exact dO | rfl) :
  fY X (.Call (.Name "sorted" p) [a] [⟨some "key",.Lambda params body scope lpos,kp⟩] pos) (XJ P qn lpos N te ta):=⟨by
 intro pins s σ H Q I h;rw [he];refine wpAny_bind (sN I hg hmg DT ?_);have hbk:backTo pos (starEach [a] X.env)=[(false,eval a X.env)]:=by rw [hs];rfl
 refine PyProof.Rows.callWith_kw ?_ (by rw [hbk];rfl) (by rw [hbk];rfl) rfl rfl;rw [hbk];refine Calls.spliced_cons (thn (ha.p pins s σ H _ I h) λu s1 ⟨x,H1,I1,rx,q1⟩=>Calls.spliced_nil ?_);unfold FF at q1;obtain ⟨d,kvs,cs,kz,rfl,hq,hk,hz,TO,kl,kn,kc,q⟩:=q1;subst hqn;obtain ⟨ps0,hP⟩:=TO.at_;refine kws_cons (aAf I1 hcode hh hbm hcl hdef TO λf c' pm ctv H2 s2 T2 hc2 b2 sz I2=>?_);refine kws_nil ?_;have k2:∀b o,X.base.get? b=some o->s2.heap.get? b=some o:=I2.bk;have pf:=I2.pin (f,kla_obj "<lambda>" (X.env.qual ++ "<lambda>") params body scope [] pm c' ctv) (aP _ (aH ..));have hfB:=KB (base:=X.base) pf.1;have mB:LO X.K X.mg (KC X.base s2.heap f):=I2.mod.more λb o e=>OD k2 e;have FL:dZ X.prog X.w X.K X.mg (KC X.base s2.heap f) dQ (k+1) f (kla_fn "<lambda>" (X.env.qual ++ "<lambda>") params body scope [] pm (.ref c') ctv) [z] (spL N c' (X.env.qual ++ "<lambda>") te) :=
  aAj hfB S (λvs H Q E h=>h.1) (λvs H Q E h=>h.2.1) λA outer s H vs Q E hr h=>⟨te,hbody _ f c' A outer s H E hr,h.2.2⟩
 have q2:AH (spL N c' (X.env.qual ++ "<lambda>") te) (.ref d) H2 Q:=by
  unfold AH;have nP:d≠P:=λz=>by rw [z,hP] at hq;cases hq
  refine ⟨d,kvs,cs,kz,rfl,b2.at nP hq,hk,hz,λys ky=>⟨⟨by rw [kl,ky.1],kn,λi y kk H' h1 h2 s'=>?_⟩,λD ix H' p1 p2 p3 p4 p5=>q D ix ys H' ?_ p1 p2 ?_ p4 (b2.same p5) (T2.same p5)⟩⟩
  ·obtain ⟨cc,hcc⟩:∃cc,cs[i]?=some cc:=⟨_,aC (by rw [<-kl];exact (aK.mp h2).1)⟩;obtain ⟨b,rfl,hb⟩:=ky.2 i y cc h1 hcc;exact ⟨rfl,s' _ _ hc2,kc i b cc kk H' hcc h2 (b2.same s') (s' _ _ hb)⟩
  ·exact ⟨ky.1,λi y cc h1 h2=>by
    obtain ⟨b,e,hb⟩:=ky.2 i y cc h1 h2;exact ⟨b,e,p5 _ _ hb⟩⟩
  cases e:H1 D with
  | none=>rfl
  | some o =>
   by_cases zz:D=P
   ·obtain ⟨ps2,hP2⟩:=T2.at_;rw [zz,hP2] at p3;cases p3
   ·rw [b2.at zz e] at p3;cases p3
 refine wpAny_mono (FA hcm (aH ..) mB (λb o e=>TY k2 e) hfB (Nat.le_of_eq (by unfold KC;rw [yM];exact sz)) FL (.all λus hl=>?_) hr I2 rx q2) (λv s' ⟨y,H',J,r1,r2⟩=>⟨y,H',J.pins_of λp hp=>J.pin p (aP _ (aF _ hp)),r1,r2⟩) λ_ _ e=>e;obtain ⟨u',rfl⟩:∃u',us=[u']:=by
  cases us with
  | nil=>simp at hl
  | cons u' r =>
   cases r with
   | nil=>exact ⟨u',rfl⟩
   | cons _ _=>simp at hl
 exact hbi pm ctv c' u'⟩
end
end L2
namespace L2
open PySem PySem.Spec PySem.W PyProof.Rows
structure IO(tabs:List (Addr × Addr))(H:Hp):Prop where
 all:∀b,H b=none\/(∃o xs,H b=some (.frz o (.lst xs)))\/(H b=some (.tbl #[])/\b∈tabs.map (·.2))
 tab:∀q∈tabs,H q.2=some (.tbl #[])
theorem KA{P:Program}{w:World}{K:PySem.W.Frag}{mg mb:Str->Option Value}{CX:LP}{k:Nat}{fa a:Addr}{fd:FuncData}{x:Str}{sp:Sp}{s₁:Shared}{vs:List Value}{ns:List Int}{tabs:List (Addr × Addr)}
  (KX:K.In s₁.heap) (hns:s₁.heap.Ns mainGlobals mg) (hb:s₁.heap.Ns builtinsNs mb) (hbb:∀x:Str,x ≠ "__name__" -> mb x=bootBuiltins x) (hlim:s₁.heap.NoLimit) (hg:s₁.gens=#[])
  (ha:s₁.heap.get? a=some { cls:=.type "list",data:=.seq vs.toArray }) (hi:IntsAre vs ns) (hl:ns.length<=sizeLine) (hr:iD k callerA) (hT:∀q∈tabs,CodeHd s₁.heap q.1 q.2/\s₁.heap.get? q.2=some (tabObj #[])) (hTK:∀q∈tabs,K.lookup q.2=none) (hbm:BM mg s₁.heap)
  (F:∀base:Heap,K.In base->base.Ns mainGlobals mg->BM mg base->dZ P w K mg base CX k fa fd [x] sp) (hbind:∀(s:Shared) (u:Value),BindsTo s fd ⟨[u],[]⟩ [(x,u)])
  (hsp:∀H:Hp,IO tabs H->fS K H a (ns.map V.int)->sp [.ref a] H (λv _=>v=.bl true) λ_ _ _=>False)
  (hCX:∀H e s',CX [] H s₁ (λ_ _ _=>False) e s'->False) :
  codeAny (model P w) callerA (.call (.ref fa) ⟨[.ref a],[]⟩) (λr s'=>r=.ok (.ret (.bool true))/\OldK s₁.heap s'.heap/\s'.os=s₁.os/\AllBare s'.gens) s₁:=by
 have rv:=xU hi;have lenV:=hi.length;have tabAt:∀b∈tabs.map (·.2),s₁.heap.get? b=some (tabObj #[])/\K.lookup b=none/\isCodeTable s₁.heap b:=λb hb=>by
  obtain ⟨q,hq,rfl⟩:=aD.mp hb;exact ⟨(hT q hq).2,hTK q hq,((hT q hq).1.tab (hT q hq).2).isCodeTable⟩
 have naT:a ∉ tabs.map (·.2):=λz=>by
  have:=(tabAt a z).1;rw [ha] at this;cases this
 have core:∀H:Hp,IO tabs H->fS K H a (ns.map V.int)->nC P w H s₁.heap->(∀b,H b≠none->b=a\/b∈tabs.map (·.2))->(H a≠none->K.lookup a=none) ->
   codeAny (model P w) callerA (.call (.ref fa) ⟨[.ref a],[]⟩) (λr s'=>r=.ok (.ret (.bool true))/\OldK s₁.heap s'.heap/\s'.os=s₁.os/\AllBare s'.gens) s₁:=by
  intro H hO hS hok hA hK;have base_of:∀{b:Addr} {o:Obj},s₁.heap.get? b=some o->H b=none->(wI s₁.heap H).get? b=some o:=λe n=>wH e n;have untr:∀{b:Addr} {o:Obj},s₁.heap.get? b=some o->o ≠ { cls:=.type "list",data:=.seq vs.toArray }->o≠tabObj #[]->H b=none:=λ{b o} e n1 n2=>by
   cases q:H b with
   | none=>rfl
   | some u =>
    exfalso;rcases hA b (by rw [q];simp) with rfl | z
    ·rw [ha] at e;cases e;exact n1 rfl
    ·rw [(tabAt b z).1] at e;cases e;exact n2 rfl
  have noA:∀{b:Addr} {o:Obj} {es:Array DictEntry} {ep:Nat},s₁.heap.get? b=some o->o.data=.dict es ep->H b=none:=λ{b o es ep} e d =>
   untr e (λz=>by rw [z] at d;cases d) (λz=>by rw [z] at d;cases d)
  have nsK:∀{b:Addr} {m:Str->Option Value},s₁.heap.Ns b m->(wI s₁.heap H).Ns b m:=λ{b m} ⟨o,es,ep,e,d,r⟩=>⟨o,es,ep,base_of e (noA e d),d,r⟩;have hKb:K.In (wI s₁.heap H):=λb o e=>base_of (KX b o e) (by
   cases q:H b with
   | none=>rfl
   | some u =>
    exfalso;rcases hA b (by rw [q];simp) with rfl | z
    ·rw [hK (by rw [q];simp)] at e;cases e
    ·rw [(tabAt b z).2.1] at e;cases e)
  have hbmB:BM mg (wI s₁.heap H):=by
   obtain ⟨bm,ob,h1,h2,h3,h4,h5,h6⟩:=hbm;exact ⟨bm,ob,h1,h2,base_of h3 (untr h3 (λz=>by rw [z] at h6;cases h6) (λz=>by rw [z] at h6;cases h6)),h4,h5,h6⟩
  have hM:LO K mg (wI s₁.heap H):=⟨hKb,nsK hns,⟨mb,nsK hb,hbb⟩,let ⟨mc,h1,h2⟩:=hlim;⟨mc,nsK h1,h2⟩⟩;have e0:DZ P w K mg (wI s₁.heap H) callerA [] s₁ H:=⟨rfl,hM,λb o e=>HH e,Nat.le_of_eq (yM _ _),trivial,λb hb=>absurd (show b∈([]:List Addr) from hb) (by simp),hok,.of_eq hg⟩;refine codeAny_mono ((F _ hKb (nsK hns) hbmB).run callerA [] s₁ H ⟨[.ref a],[]⟩ [.ref a] [.ref a] _ _ hr e0 (hbind s₁ (.ref a)) (.cons rfl .nil) (hsp H hO hS)) λr s' h=>?_;cases r with
  | error e=>exact (hCX H e s' h).elim
  | ok fl =>
   cases fl with
   | next=>exact False.elim h
   | brk=>exact False.elim h
   | cont=>exact False.elim h
   | ret u =>
    obtain ⟨v,H',os,bare,un,hok',r',q⟩:=h;have q':v=.bl true:=q;subst q';obtain rfl:u=Value.bool true:=r';have key:∀b o,s₁.heap.get? b=some o->s'.heap.get? b=some o\/(isCodeTable s₁.heap b/\o=tabObj #[]/\∃ps,s'.heap.get? b=some (tabObj ps)):=λb o e=>by
     rcases hO.all b with z | ⟨ob,xs,z⟩ | ⟨z,hm⟩
     ·exact .inl (un.keep b o e z (by intro z;exact absurd (show b∈([]:List Addr) from z) (by simp)) (by simp))
     ·have z2:=un.frzs b ob _ z;obtain ⟨e1,_⟩:=hok b _ z;obtain ⟨e2,_⟩:=hok' b _ z2;rw [e] at e1;cases e1;exact .inl e2
     ·obtain ⟨more,z2⟩:=un.tbls b _ z;have e1:=(tabAt b hm).1;rw [e] at e1;cases e1;exact .inr ⟨(tabAt b hm).2.2,rfl,_,hok' b _ z2⟩
    refine ⟨rfl,⟨λb o e=>?_,λb o e=>?_⟩,os,bare⟩
    ·rcases key b o e with z | ⟨ht,rfl,ps,z⟩
     ·exact .inl z
     ·exact .inr (.inl ⟨ht,rfl,#[],ps,rfl,by rw [Array.empty_append];exact z⟩)
    ·rcases key b o e with z | ⟨_,_,ps,z⟩
     ·exact ⟨o,z⟩
     ·exact ⟨_,z⟩
 cases hk:K.lookup a with
 | some o =>
  have e:=KX a o hk;rw [ha] at e;cases e;refine core (λb=>if b∈tabs.map (·.2) then some (.tbl #[]) else none) ⟨λb=>?_,λq hq=>if_pos (List.mem_map_of_mem hq)⟩ (.inr ⟨_,vs.toArray,_,hk,rfl,rfl,rfl,by rw [aW,lenV];exact hl,by simpa using rv⟩) (λb u z=>?_) (λb z=>?_) λz=>absurd (if_neg naT) z
  ·by_cases hb:b∈tabs.map (·.2)
   ·exact .inr (.inr ⟨if_pos hb,hb⟩)
   ·exact .inl (if_neg hb)
  ·by_cases hb:b∈tabs.map (·.2)
   ·have z':=(if_pos hb).symm.trans z;cases z';exact (tabAt b hb).1
   ·have z':=(if_neg hb).symm.trans z;cases z'
  ·by_cases hb:b∈tabs.map (·.2)
   ·exact .inr hb
   ·exact absurd (if_neg hb) z
 | none =>
  refine core (λb=>if b=a then some (.frz { cls:=.type "list",data:=.seq vs.toArray } (.lst (ns.map V.int))) else if b∈tabs.map (·.2) then some (.tbl #[]) else none) ⟨λb=>?_,λq hq=>?_⟩ (.inl (.inr ⟨{ cls:=.type "list",data:=.seq vs.toArray },if_pos rfl⟩)) (λb u z=>?_) (λb z=>?_) λ_=>hk
  ·by_cases hb:b=a
   ·exact .inr (.inl ⟨_,_,if_pos hb⟩)
   ·by_cases hb2:b∈tabs.map (·.2)
    ·exact .inr (.inr ⟨(if_neg hb).trans (if_pos hb2),hb2⟩)
    ·exact .inl ((if_neg hb).trans (if_neg hb2))
  ·have hm:q.2∈tabs.map (·.2):=List.mem_map_of_mem hq;exact (if_neg (show ¬q.2=a from λz=>naT (z ▸ hm))).trans (if_pos hm)
  ·by_cases hb:b=a
   ·have z':=(if_pos hb).symm.trans z;cases z';subst hb;exact ⟨ha,by rw [aA];exact hl,vs,_,rv,ha⟩
   ·have z1:=(if_neg hb).symm.trans z;by_cases hb2:b∈tabs.map (·.2)
    ·have z':=(if_pos hb2).symm.trans z1;cases z';exact (tabAt b hb2).1
    ·have z':=(if_neg hb2).symm.trans z1;cases z'
  ·by_cases hb:b=a
   ·exact .inl hb
   ·by_cases hb2:b∈tabs.map (·.2)
    ·exact .inr hb2
    ·exact absurd ((if_neg hb).trans (if_neg hb2)) z
theorem LZ{l:PySem.W.OpenLaw}{n k:Nat}{q:Program}{loose:List Str}{XP:(Str->Option Value)->Heap->Prop}{YP:World->Heap->Prop}{d:DefRec}{K:Params->PySem.W.Frag}{CX:LP}{tabs:Params->List (Addr × Addr)}{sp:PySem.W.Frag->List (Addr × Addr)->Sp}{x:Str}(nms:List Str)
  (hn:l.most=some n) (hn2:n<=sizeLine) (hdf:d.params.defaults=[]) (hr:iD k callerA)
  (hY:∀(w:World) (h:Heap),YP w h->(K w.params).In h)
  (hrec:∀y∈nms,∃e,(recsOf q).find? (λe=>e.name == y)=some e) (htab:∀w:World,nms.map (tabIn (K w.params))=(tabs w.params).map some) (hTK:∀(w:World),∀t∈tabs w.params,(K w.params).lookup t.2=none)
  (F:∀(w:World) (mg:Str->Option Value) (fa:Addr) (h:Heap),(K w.params).In h->h.Ns mainGlobals mg->mg d.name=some (.ref fa) ->
   ∃fd:FuncData,(∀(s:Shared) (u:Value),BindsTo s fd ⟨[u],[]⟩ [(x,u)]) /\
    ∀base:Heap,(K w.params).In base->base.Ns mainGlobals mg->BM mg base->dZ l.prog w (K w.params) mg base CX k fa fd [x] (sp (K w.params) (tabs w.params)))
  (hsp:∀(K:PySem.W.Frag) (tabs:List (Addr × Addr)) (H:Hp) (a:Addr) (ns:List Int),ns.length<=n->IO tabs H->fS K H a (ns.map V.int)->sp K tabs [.ref a] H (λv _=>v=.bl true) λ_ _ _=>False)
  (hCX:∀(H:Hp) (s:Shared) (e:Value) (s':Shared),CX [] H s (λ_ _ _=>False) e s'->False) :
  PySem.W.WalkO q loose XP YP l.row.toRowW d [] (λf vs=>PySem.call f vs):=by
 refine Att.DV hn hdf λw s₀ s₁ mg mb fa o pm cd doc a vs ns G Y ho hd hcd hmg hobj hints hlen hg=>?_;have KX:=hY w _ Y;obtain ⟨fd,hb,hF⟩:=F w mg fa _ KX G.T.g hmg;have hT:∀t∈tabs w.params,CodeHd s₁.heap t.1 t.2/\s₁.heap.get? t.2=some (tabObj #[]):=λt ht=>by
  have hm:some t∈nms.map (tabIn (K w.params)):=by rw [htab w];exact List.mem_map_of_mem ht
  obtain ⟨y,hy,e⟩:=aD.mp hm;obtain ⟨dr,hdr⟩:=hrec y hy;exact tab_of G.T KX hdr e
 exact KA KX G.T.g G.T.b G.T.builtins G.T.nolimit hg hobj hints (aQ hlen hn2) hr hT (hTK w) G.T.bmain hF hb (λH hO hS=>hsp _ _ H a ns hlen hO hS) λH e s'=>hCX H s₁ e s'
theorem jA.okwL{P:Program}{w:World}{K:PySem.W.Frag}{mg:Str->Option Value}{base:Heap}{x qual:Str}{st:Stmt}{f cA:Addr}{fd:FuncData}{N ps:List Str}{k:Nat}{sp:Sp}(F:jA K x qual st f fd)(hc:fd.code=.ref cA)(S:bZ N ps (bA st))(len:∀vs H Q E,sp vs H Q E->vs.length=ps.length)
  (hbody:∀(A:Around) (outer:List Env) (s:Shared) (H:Hp) (vs:List V) (Q:VK) (E:XK),iD k (A.deeper (envOfC qual (bA st) s.heap.objs.size f (.ref cA)))->sp vs H Q E ->
   ∃t,wY (uF dQ P w K mg base N qual (bA st) f (.ref cA) A outer s H E).nox (iX st) t/\t { nx:=λ_ H'=>Q .non H',rt:=Q } (start N vs) H):dZ P w K mg base dQ (k+1) f fd ps sp:=by
 obtain ⟨oc,od,kV,doc,pm,an,cdv,ct,osl,rfl,lk,hcd⟩:=F.ex;obtain rfl:cdv=.ref cA:=hc;refine WO lk hcd S len λA outer s H vs Q E hr hsp=>?_;obtain ⟨t,h,q⟩:=hbody A outer s H vs Q E hr hsp;exact ⟨t,h.p.nox,q⟩
end L2
namespace Kt
open PySem L2 Mf Kw
abbrev RV:Stmt:=(top 57)
theorem EA:bZ ["_law_faces","_law_parts","_law_sums","_law_says_of","_law_rule_here","_law_by","_law_sizes_here","_law_counts_here","_law_says_here","_law_part","_law_old","_law_more","_law_found","_law_n","_law_d"] ["_law_faces","_law_parts"] (bA RV):=⟨rfl,rfl,rfl,Kk,rfl,Kk,Kk⟩
abbrev KL:Pos:=⟨236,50,236,92⟩
abbrev KK:Str := "_law_due" ++ ".<locals>." ++ "<lambda>"
abbrev enC(e:cS):PyData:=.tuple [Kw.fW e.1,sE e.2]
abbrev YW(es:List cS):PyData:=.tuple (es.map enC)
theorem OU(e:cS):fD (enC e)=true:=by
 show (fD (Kw.fW e.1)&&(fD (sE e.2)&&true))=true;rw [Kw.fO,oH];rfl
theorem yR:∀es:List cS,eP (es.map enC)=true
 | []=>rfl
 | e::es=>by show (fD (enC e)&&eP (es.map enC))=true;rw [yR es,OU];rfl
structure DU(K:PySem.W.Frag)(F W M P B k:Nat)(H:Hp)(kv kw:List (List dP × V))(g:List Nat->Rat)(x:List Nat->Nat->Rat):Prop where
 ks:∃ks:List (List Int),kv.map (·.1)=ks.map kT/\ks.Nodup/\∀d∈ks,∃c,d=ci c/\c∈rise F M
 at_:∀c:List Nat,(dU kv (kT (ci c))=none/\dU kw (kT (ci c))=none/\g c=0/\∀j,x c j=0)\/∃v w,dU kv (kT (ci c))=some v/\dU kw (kT (ci c))=some w/\cO H (iT (dL (g c))) v/\cO H (sE ((List.range (1+W)).map λj=>dL (x c j))) w
 gq:∀c,Qn P (B*k) (g c)
 xq:∀c j,Qn P (B*k) (x c j)
 lv:kv.length<=k
 lw:kw.length<=k
section
variable{K:PySem.W.Frag}{F W M P B k:Nat}{H H':Hp}{kv kw:List (List dP × V)}{g g':List Nat->Rat}{x x':List Nat->Nat->Rat}
theorem DU.t(s:dX H H')(h:DU K F W M P B k H kv kw g x):DU K F W M P B k H' kv kw g x:=⟨h.ks,λc=>by
 rcases h.at_ c with h | ⟨v,w,h1,h2,h3,h4⟩
 ·exact .inl h
 ·exact .inr ⟨v,w,h1,h2,h3.flat s (eT _),h4.flat s (oH _)⟩,h.gq,h.xq,h.lv,h.lw⟩
theorem DU.eq(h:DU K F W M P B k H kv kw g x)(e:∀d,g' d=g d)(e2:∀d j,x' d j=x d j):DU K F W M P B k H kv kw g' x':=by
 have:g'=g:=funext e;have:x'=x:=funext λd=>funext λj=>e2 d j
 subst_vars;exact h
theorem DU.put(h:DU K F W M P B k H kv kw g x){c:List Nat}{v w:V}{y:Rat}{z:Nat->Rat}(hc:c∈rise F M)(rv:cO H (iT (dL (g c+y))) v)(rw':cO H (sE ((List.range (1+W)).map λj=>dL (x c j+z j))) w)(qy:Qn P B y)(qz:∀j,Qn P B (z j)) :
  DU K F W M P B (k+1) H (iQ kv (kT (ci c)) v) (iQ kw (kT (ci c)) w) (λd=>g d+if c=d then y else 0) (λd j=>x d j+if c=d then z j else 0):=by
 obtain ⟨ks,k1,k2,k3⟩:=h.ks;obtain ⟨ks2,j1,j2,j3⟩:=OG (v:=v) (ci c) k1 k2;have e1:B*(k+1)=B*k+B:=by rw [Nat.mul_add,Nat.mul_one]
 refine ⟨⟨ks2,j1,j2,λd hd=>?_⟩,λd=>?_,λd=>?_,λd j=>?_,?_,?_⟩
 ·rcases (j3 d).mp hd with h | rfl
  ·exact k3 d h
  ·exact ⟨c,rfl,hc⟩
 ·rw [nK,nK];by_cases e:c=d
  ·subst e;rw [if_pos rfl,if_pos rfl,if_pos rfl];refine .inr ⟨v,w,rfl,rfl,rv,?_⟩;simpa using rw'
  ·rw [if_neg λq=>e (iL (jT q)).symm,if_neg λq=>e (iL (jT q)).symm,if_neg e,show g d+0=g d by grind];rcases h.at_ d with ⟨h1,h2,h3,h4⟩ | ⟨a,b,h1,h2,h3,h4⟩
   ·exact .inl ⟨h1,h2,h3,λj=>by rw [if_neg e,h4 j];grind⟩
   ·refine .inr ⟨a,b,h1,h2,h3,?_⟩;rw [show ((List.range (1+W)).map λj=>dL (x d j+if c=d then z j else 0))=(List.range (1+W)).map λj=>dL (x d j) from dN λj _=>by rw [if_neg e,show x d j+0=x d j by grind]];exact h4
 ·rw [e1];refine (h.gq d).add ?_;split
  ·exact qy
  ·exact Qn.zero _ _
 ·rw [e1];refine (h.xq d j).add ?_;split
  ·exact qz j
  ·exact Qn.zero _ _
 ·have:=fL kv (kT (ci c)) v;have:=h.lv;omega
 ·have:=fL kw (kT (ci c)) w;have:=h.lw;omega
end
theorem iN{h:cS->Rat}:∀{es:List cS}(_:(es.map (·.1)).Nodup) (d:List Nat),dA es (λe=>if e.1=d then h e else 0)=((OC es d).map h).getD 0
 | [],_,d=>by rw [eG];rfl
 | e::es,nd,d=>by
  rw [aO,List.nodup_cons] at nd;rw [cR];by_cases q:e.1=d
  ·rw [if_pos q];have h1:OC (e::es) d=some e:=by unfold OC;rw [List.find?_cons_of_pos (by simpa using q)]
   rw [h1,cT (g:=λ_=>0) λa ha=>if_neg λz=>nd.1 (by rw [q,<-z];exact aD.mpr ⟨a,ha,rfl⟩),gI];show h e+0=h e;grind
  ·rw [if_neg q,iN nd.2 d];have h1:OC (e::es) d=OC es d:=by unfold OC;rw [List.find?_cons_of_neg (by simpa using q)]
   rw [h1];grind
theorem JR{F:Nat}{es:List cS}(R:qD F es)(s:Rat)(d:List Nat):dA es (λe=>if e.1=d then s*bJ F es e.1 else 0)=s*bJ F es d:=by
 rw [iN (h:=λe=>s*bJ F es e.1) R.nd];by_cases q:d∈es.map (·.1)
 ·obtain ⟨e,he,rfl⟩:=aD.mp q;rw [FP R.nd he];rfl
 ·rw [AR q,oI R q];show (0:Rat)=s*0;grind
theorem ZJ{F:Nat}{es:List cS}(R:qD F es)(s:Rat)(d:List Nat)(j:Nat):dA es (λe=>if e.1=d then s*bJ F es e.1*kZ e.2 j else 0)=s*xF F es d j:=by
 rw [iN (h:=λe=>s*bJ F es e.1*kZ e.2 j) R.nd];by_cases q:d∈es.map (·.1)
 ·obtain ⟨e,he,rfl⟩:=aD.mp q;rw [FP R.nd he,nH R he];show s*bJ F es e.1*kZ e.2 j=_;grind
 ·rw [AR q,nG q];show (0:Rat)=s*0;grind
theorem OQ{q:Rat}(h:0<=q):0<(dL q).1↔q≠0:=by
 have low:=bL q;have e:=lD low.pos;have e3:=gU low.pos;rw [dG] at e;have n0:0<=(dL q).1:=Rat.num_nonneg.mpr h;constructor
 ·intro hp z;rw [z,mG] at hp;exact absurd hp Dd
 ·intro hn;refine bP λz=>hn ?_;have z1:(dL q).1=0:=Oo;rw [z1] at e;grind
theorem aAi{x a:Rat}(h:0<(dL a).1):lw ((dL x).1*(dL a).2) ((dL x).2*(dL a).1)=dL (x/a):=by
 have lx:=bL x;have la:=bL a;have hp:0<(dL x).2*(dL a).1:=Int.mul_pos lx.pos h;refine fU (gA hp) (bL _) ?_;rw [qW hp,dG];have e1:=lD lx.pos;have e2:=lD la.pos;rw [dG] at e1 e2;have n1:=gU lx.pos;have n2:=gU la.pos;have n3:=gU h;rw [Rat.intCast_mul,Rat.intCast_mul,Rat.div_def,Rat.div_def];have na:a≠0:=λz=>by
  rw [z] at e2;apply n3;grind
 grind
theorem CD:∀F,F<=4->∀M,M<=4->((rise F M).map λc=>((c.sum:Nat):Int)::ci c).Pairwise (λa b=>hV a b=true):=Kk
@[irreducible] def pA(K:PySem.W.Frag)(tA:Addr):Sp:=λvs H Q _=>∃(L:Addr) (xs:List V) (F W M Ds:Nat) (pE:Nat->List jB) (pS:Nat->Rat),vs=[.int (F:Int),.ref L]/\H L=some (.lst xs)/\xs.length=2/\jV F W M/\(rise F M).length<64/\(∀(r:Nat) (v:V),xs[r]?=some v->∃b y sv m,v=.ref b/\H b=some (.tup [y,sv])/\cO H (xM (pE r)) y/\cO H (iT (dL (pS r))) sv/\m<=M/\iC F W m (pE r)/\pQ F W M (LN^5) (5^20) LN ((pE r).map cv)/\Qn Ds 1 (pS r))/\0<Ds/\Ds<=1000 /\
 pS 1=1-pS 0/\fE F W M ((pE 0).map cv) ((pE 1).map cv) (pS 0)/\iZ H tA KK KL/\∀v H',aU tA H H'->iZ H' tA KK KL->cO H' (YW (mE F W M ((pE 0).map cv) ((pE 1).map cv) (pS 0))) v->Q v H'
theorem JF{K:PySem.W.Frag}{tA:Addr}{H:Hp}{Q:VK}{E:XK}{L:Addr}{xs:List V}{F W M Ds:Nat}{pE:Nat->List jB}{pS:Nat->Rat}(h1:H L=some (.lst xs))(h2:xs.length=2)(h3:jV F W M)(h4:(rise F M).length<64)(h5:∀(r:Nat) (v:V),xs[r]?=some v->∃b y sv m,v=.ref b/\H b=some (.tup [y,sv])/\cO H (xM (pE r)) y/\cO H (iT (dL (pS r))) sv/\m<=M/\iC F W m (pE r)/\pQ F W M (LN^5) (5^20) LN ((pE r).map cv)/\Qn Ds 1 (pS r))(h6:0<Ds)(h7:Ds<=1000)(h8:pS 1=1-pS 0)(h9:fE F W M ((pE 0).map cv) ((pE 1).map cv) (pS 0))(h10:iZ H tA KK KL)(k:∀v H',aU tA H H'->iZ H' tA KK KL->cO H' (YW (mE F W M ((pE 0).map cv) ((pE 1).map cv) (pS 0))) v->Q v H'):pA K tA [.int (F:Int),.ref L] H Q E:=by
 unfold pA;exact ⟨L,xs,F,W,M,Ds,pE,pS,rfl,h1,h2,h3,h4,h5,h6,h7,h8,h9,h10,k⟩
theorem LA{F M:Nat}{ks:List (List Int)}(h:∀d∈ks,∃c,d=ci c/\c∈rise F M):∃cs:List (List Nat),ks=cs.map ci/\∀c∈cs,c∈rise F M:=by
 induction ks with
 | nil=>exact ⟨[],rfl,λc h=>by cases h⟩
 | cons d ks ih =>
  obtain ⟨c,rfl,hc⟩:=h d (aH ..);obtain ⟨cs,rfl,h2⟩:=ih λd hd=>h d (aF _ hd);refine ⟨c::cs,rfl,λe he=>?_⟩;rcases aT.mp he with rfl | he
  ·exact hc
  ·exact h2 e he
theorem pY{α β:Type}{f:α->β}(h:∀a b,f a=f b->a=b):∀{l m:List α},l.map f=m.map f->l=m
 | [],[],_=>rfl
 | [],b::m,e=>by cases e
 | a::l,[],e=>by cases e
 | a::l,b::m,e=>by
  rw [aO,aO] at e;injection e with e1 e2;rw [h a b e1,pY h e2]
theorem iZ.butL{H H':Hp}{l P:Addr}{q:Str}{pos:Pos}{xs:List V}(b:aU l H H')(hl:H l=some (.lst xs))(t:iZ H P q pos):iZ H' P q pos:=⟨t.ex.elim (λh=>.inl (b.at (λz=>by rw [z,hl] at h;cases h) h)) λ⟨c',h1,h2⟩=>.inr ⟨c',b.at (λz=>by rw [z,hl] at h1;cases h1) h1,b.at (λz=>by rw [z,hl] at h2;cases h2) h2⟩⟩
section
theorem oQ3{f cA tA:Addr}{fd:FuncData}(F:jA K "_law_due" "_law_due" RV f fd)(T:kY K mg c)(hcd:fd.code=.ref cA)(hh:KI K cA tA=true)(hbm:BM mg base)(FQ1:gK dQ P w K mg base 4 "_law_amounts" ["_law_rule_here","_law_faces"] (oD K))(FQ15:gK dQ P w K mg base 2 "_law_times" ["_law_one","_law_other"] (kE K))(FQ8:gK dQ P w K mg base 2 "_law_plus" ["_law_one","_law_other"] (lW K))(FQ4:gK dQ P w K mg base 1 "_law_frac" ["_law_n","_law_d"] iF):dZ P w K mg base dQ 8 f fd ["_law_faces","_law_parts"] (pA K tA):=by
 refine F.okwL hcd EA (λvs H Q E h=>?_) (λA outer s H vs Q E hr h=>?_)
 ·unfold pA at h;obtain ⟨L,xs,F,W,M,Ds,pE,pS,rfl,_⟩:=h
  rfl
 ·unfold pA at h;obtain ⟨L,xs,F,W,M,Ds,pE,pS,rfl,hL,lxs,Z,few,ps,d0,d1,ep,MI,TO,k⟩:=h;have hF:2<=F/\F<=4/\M<=4:=by have:=Z.f;omega
  have hW:=Z.w;obtain ⟨P0,hP0⟩:∃P0,P0=LN^5*Ds:=⟨_,rfl⟩;have p0:0<P0:=by rw [hP0];exact Nat.mul_pos (Nat.pow_pos Dd) d0
  have p1:P0<2^2500:=by
   have h1:LN^5*Ds<=LN^5*1000:=dM _ d1;have h2:LN^5*1000<2^2500:=Kk;omega
  refine ⟨_,(aS (bS (i:=2) EA.nd rfl (Or.inl rfl) lQ)
   (aS (bS (i:=3) EA.nd rfl (Or.inl rfl) lQ)
   (aS (gS PassesOwn.never rfl (gZ (aI 1)) (nJ rfl (eF (dF (i:=4) EA.nd rfl (Or.inl rfl)) (eF (dF (i:=5) EA.nd rfl (Or.inl rfl)) lA))) (aS (bS (i:=6) EA.nd rfl (Or.inl rfl) (bR FQ1 (hr.mono Dd) (aM (aI 4) (aM (aI 0) aG))))
   (bE (gS PassesOwn.never rfl (jQ (aI 4)) (nJ rfl (eF (dF (i:=7) EA.nd rfl (Or.inl rfl)) (eF (dF (i:=8) EA.nd rfl (Or.inl rfl)) lA))) (aS (bS (i:=9) EA.nd rfl (Or.inr rfl) (bR FQ15 (hr.mono Dd) (aM (aI 5) (aM (gM hr.u1 (aI 6) (aI 7)) aG))))
   (aS (jW hr.u1 (aI 2) (aI 7) (bR FQ8 (hr.mono Dd) (aM (uI hr.u1 (aI 2) (aI 7) (dS (aM aL (aM aL aG)))) (aM (aI 9) aG))))
   (aS (bS (i:=10) EA.nd rfl (Or.inl rfl) (uI hr.u1 (aI 3) (aI 7) (cN HF (dS (aM (dS (aM aL (aM aL aG))) aG)) (eR jU (by rfl) T.b_len Kk (aM (aI 8) aG)))))
   (aS (ED (i:=11) (eA.of (psc:=bA RV) (N:=["_law_faces","_law_parts","_law_sums","_law_says_of","_law_rule_here","_law_by","_law_sizes_here","_law_counts_here","_law_says_here","_law_part","_law_old","_law_more","_law_found","_law_n","_law_d"]) (N':=["_law_share","_law_part"]) (js:=[9]) Kk rfl rfl rfl) EA.nd rfl rfl (jQ (aI 8)) (λ_ _ _ _=>eQ) (λ_ _ _ _=>(bR FQ15 (hr.mono Dd) (aM (aI 1) (aM (aI 0) aG)))))
   (bE (jW hr.u1 (aI 3) (aI 7) (jC dR (by rfl) T.b_tuple Kk (aM (rZ (gC.of (psc:=bA RV) (N:=["_law_faces","_law_parts","_law_sums","_law_says_of","_law_rule_here","_law_by","_law_sizes_here","_law_counts_here","_law_says_here","_law_part","_law_old","_law_more","_law_found","_law_n","_law_d"]) (xs:=["_law_first","_law_second"]) (N':=["_law_first","_law_second"]) (js:=[]) Kk rfl rfl rfl) (EE true false rfl T.b_zip (aM (aI 10) (aM (aI 11) aG))) (λ_ _ _ _=>eQ) (λ_ _ _ _=>(bR FQ8 (hr.mono Dd) (aM (aI 0) (aM (aI 1) aG))))) aG))))))))))))
   (aS (bS (i:=12) EA.nd rfl (Or.inl rfl) (fQ aG))
   (aS (gS PassesOwn.never rfl (gZ (LW (k:=4) (N:=["_law_one"]) (z := "_law_one") rfl hh hbm ⟨rfl,rfl,rfl,Kk,rfl,Kk,Kk⟩ (λ_ _ _ _=>rfl) (λB f c1 A outer s H E hr=>(dS (aM (eR (BC K rfl) (by rfl) T.b_sum Kk (aM (aI 0) aG)) (aM (aI 0) aG)))) (hr.mono Dd) (by rfl) T.b_sorted (aI 2) rfl)) (dF (i:=7) EA.nd rfl (Or.inl rfl)) (aS (zM (gM hr.u1 (aI 2) (aI 7)) (nJ rfl (eF (dF (i:=13) EA.nd rfl (Or.inr rfl)) (eF (dF (i:=14) EA.nd rfl (Or.inr rfl)) lA))))
   (bE (gE (eD vV (aI 13) aL (nomark _)) (aS (bS (i:=8) EA.nd rfl (Or.inl rfl) (jC dR (by rfl) T.b_tuple Kk (aM (fG (eA.of (psc:=bA RV) (N:=["_law_faces","_law_parts","_law_sums","_law_says_of","_law_rule_here","_law_by","_law_sizes_here","_law_counts_here","_law_says_here","_law_part","_law_old","_law_more","_law_found","_law_n","_law_d"]) (N':=["_law_one","_law_n","_law_d"]) (js:=[13,14]) Kk rfl rfl rfl) (jQ (gM hr.u1 (aI 3) (aI 7))) (λ_ _ _ _=>eQ) (λ_ _ _ _=>(bR FQ4 (hr.mono Dd) (aM (cN fK (cH (lE K) (aI 0) aL (λ_ _=>rfl)) (aI 2)) (aM (cN fK (cH (lE K) (aI 0) aL (λ_ _=>rfl)) (aI 1)) aG))))) aG)))
   (bE (qF (BP PySem.F.plainAttrs_list PySem.F.slot_list_append PySem.F.type_list_append NU (aI 12) (aM (dS (aM (aI 7) (aM (aI 8) aG))) aG))))) dY))))
   (bE (cF (jC dR (by rfl) T.b_tuple Kk (aM (aI 12) aG))))))))),?_⟩
  intro p hp;have s1:=bC.upd (o:=.dT []) hp;have e1:(upd H p (.dT [])) p=some (.dT []):=bH;generalize upd H p (.dT [])=H1 at s1 e1 ⊢;intro q hq;have s2:=bC.upd (o:=.dT []) hq;have e2:(upd H1 q (.dT [])) q=some (.dT []):=bH;generalize upd H1 q (.dT [])=H2 at s2 e2 ⊢;have e2p:=s2 _ _ e1;have npq:p≠q:=λz=>by rw [z] at e1;rw [e1] at hq;cases hq
  have S2:=s1.trans s2;refine ⟨_,rfl,L,rfl,⟨_,fS.of (S2 _ _ hL)⟩,?_⟩;refine iW (xs:=xs) (λr σ H'=>∃(o4 o5 o6 o7 o8 o9 o10 o11:Option V) (kv kw:List (List dP × V)) (n:Nat),σ=[some (.int (F:Int)),some (.ref L),some (.ref p),some (.ref q),o4,o5,o6,o7,o8,o9,o10,o11,none,none,none]/\bC H H'/\H' p=some (.dT kv)/\H' q=some (.dT kw)/\n<=64*r/\DU K F W M P0 (5^20) n H' kv kw (λd=>fJ r λi=>pS i*bJ F ((pE i).map cv) d) (λd j=>fJ r λi=>pS i*xF F ((pE i).map cv) d j))
   ⟨_,_,_,_,_,_,_,_,[],[],0,rfl,S2,e2p,e2,cC _,⟨⟨[],rfl,List.nodup_nil,λd h=>by cases h⟩,λc=>.inl ⟨rfl,rfl,eN _,λj=>eN _⟩,λc=>by rw [eN];exact Qn.zero _ _,λc j=>by rw [eN];exact Qn.zero _ _,aJ _,aJ _⟩⟩ (λr σ H' _ z=>?_) ?_ ?_
  ·obtain ⟨_,_,_,_,_,_,_,_,_,_,_,_,S',_⟩:=z;exact fS.of (S' _ _ hL)
  ·rintro r v σ H3 hv ⟨o4,o5,o6,o7,o8,o9,o10,o11,kv,kw,n,rfl,S3,e3,e3q,ln,D3⟩;obtain ⟨b,y,sv,m,rfl,hb,ry,rsv,hm,RO,RG,qs⟩:=ps r v hv;have hr2:r<2:=by have:=(aK.mp hv).1;omega
   have Z':jV F W m:=⟨Z.w,by have:=Z.f;omega⟩;refine ⟨b,[y,sv],rfl,eZ.of (S3 _ _ hb),rfl,y,[sv],rfl,sv,[],rfl,rfl,?_⟩;refine ⟨_,rfl,_,rfl,?_⟩;have ry3:=ry.same S3;refine EV ry3 RO Z' λda ka H4 hda s4 e4a DA=>?_;obtain ⟨a,ys,rfl,ha,rys⟩:=FE ry;have S4:=S3.trans s4;have e4:=s4 _ _ e3;have e4q:=s4 _ _ e3q;have nap:da≠p:=λz=>by rw [z,e3] at hda;cases hda
   have naq:da≠q:=λz=>by rw [z,e3q] at hda;cases hda
   have RL:=RG.rl;have lys:ys.length=(pE r).length:=by rw [rys.len,aA]
   have few':(pE r).length<=64:=by have:=RG.few;rwa [aA] at this
   refine ⟨_,rfl,a,rfl,⟨_,eZ.of (S4 _ _ ha)⟩,?_⟩;refine AZ (xs:=ys) (λi σ H'=>∃(o7 o8 o9 o10 o11:Option V) (kv kw:List (List dP × V)) (n:Nat),σ=[some (.int (F:Int)),some (.ref L),some (.ref p),some (.ref q),some (.ref a),some sv,some (.ref da),o7,o8,o9,o10,o11,none,none,none]/\bC H H'/\H' p=some (.dT kv)/\H' q=some (.dT kw)/\H' da=some (.dT ka)/\DQ K H' ka (bJ F ((pE r).map cv))/\n<=64*r+i/\DU K F W M P0 (5^20) n H' kv kw (λd=>(fJ r λi=>pS i*bJ F ((pE i).map cv) d)+dA (((pE r).map cv).take i) λe=>if e.1=d then pS r*bJ F ((pE r).map cv) e.1 else 0) (λd j=>(fJ r λi=>pS i*xF F ((pE i).map cv) d j)+dA (((pE r).map cv).take i) λe=>if e.1=d then pS r*bJ F ((pE r).map cv) e.1*kZ e.2 j else 0))
    ⟨_,_,_,_,_,kv,kw,n,rfl,S4,e4,e4q,e4a,DA,Oo,(D3.t s4.t).eq (λd=>by rw [List.take_zero,eG];grind) (λd j=>by rw [List.take_zero,eG];grind)⟩ (λi σ H' _ z=>?_) ?_ ?_
   ·obtain ⟨_,_,_,_,_,_,_,_,_,S',_⟩:=z;exact eZ.of (S' _ _ ha)
   ·rintro i u σ H5 hu ⟨o7,o8,o9,o10,o11,kv5,kw5,n5,rfl,S5,e5,e5q,e5a,DA5,ln5,D5⟩;obtain ⟨e,he,re⟩:=rys.atI hu;have hi:i<(pE r).length:=(aK.mp he).1;have hem:=aZ he;obtain ⟨m1,m2,m3,m4⟩:=RO.each e hem;have hce:((pE r).map cv)[i]?=some (cv e):=by rw [aE,he];rfl
    have hcm:=aZ hce;have cie:ci (cv e).1=e.1:=rP m2;have fpos:=RL.posf hcm;obtain ⟨eb,x1,x2,rfl,heb,rx1,rx2⟩:=FU (re.same S5);obtain ⟨cu,rfl,hcu⟩:=kU rx1;obtain ⟨sa,sx,rfl,hsa,rsx⟩:=pX rx2;have lsx:sx.length=1+W:=by rw [rsx.len,aA];exact m4.len
    refine ⟨eb,[.ref cu,.ref sa],rfl,eZ.of heb,rfl,.ref cu,[.ref sa],rfl,.ref sa,[],rfl,rfl,?_⟩;obtain ⟨va,hva,fva⟩:=DA5.val (d:=(cv e).1) (by grind);rw [cie] at hva;refine ⟨_,rfl,_,rfl,_,rfl,?_⟩;refine dgT e5a (c:=e.1) hcu hva ?_;have qf:Qn (LN^5) (5^20) (bJ F ((pE r).map cv) (cv e).1):=RG.fl _ hcm;have n5':0<LN^5:=Nat.pow_pos Dd;have n6:LN^5<2^2500:=Kk;have qsz:lM 4000 (dL (pS r)):=fA qs d0 (bB d1 Kk) Kk;refine nZ (gL.of (rsv.same S5)) fva.v (bL _) (bL _) qsz (fA qf n5' n6 Kk) λq6 H6 hq6 e6 s6=>?_;have em:pK (dL (pS r)) (dL (bJ F ((pE r).map cv) (cv e).1))=dL (pS r*bJ F ((pE r).map cv) (cv e).1):=fU (mC (bL _) (bL _)) (bL _) (by rw [sF (bL _).pos (bL _).pos,dG,dG,dG]);rw [em] at e6;have qy:Qn P0 (5^20) (pS r*bJ F ((pE r).map cv) (cv e).1):=by
     have:=qs.mul qf;rw [Nat.one_mul,Nat.mul_comm Ds] at this;rw [hP0];exact this
    have qz:∀j,Qn P0 (5^20) (pS r*bJ F ((pE r).map cv) (cv e).1*kZ (cv e).2 j):=λj=>by
     have:=qs.mul (RG.fs _ hcm j);rw [Nat.one_mul,Nat.mul_comm Ds] at this;rw [hP0,Rat.mul_assoc];exact this
    obtain ⟨y6,hy6⟩:∃y6,y6=pS r*bJ F ((pE r).map cv) (cv e).1:=⟨_,rfl⟩;rw [<-hy6] at e6 qy qz;have bn:5^20*n5<=2^200:=by
     have h1:5^20*n5<=5^20*1000:=dM _ Oo;have h2:5^20*1000<=2^200:=Kk;omega
    have e6p:=s6 _ _ e5;refine ⟨_,rfl,p,rfl,.inr ⟨kv5,.inl e6p⟩,_,rfl,?_⟩;refine pJ (by show 2<=64;decide) λq7 H7 hq7 e7 s7=>?_;refine ⟨_,iS.ct (c:=e.1) (s7 _ _ e6p) (s7 _ _ (s6 _ _ hcu)),?_⟩;refine ⟨_,rfl,?_⟩;have D7:=D5.t (s6.trans s7).t;obtain ⟨g5,hg5⟩:∃g5:List Nat->Rat,g5=λd=>(fJ r λi=>pS i*bJ F ((pE i).map cv) d)+dA (((pE r).map cv).take i) λe=>if e.1=d then pS r*bJ F ((pE r).map cv) e.1 else 0:=⟨_,rfl⟩
    obtain ⟨x5,hx5⟩:∃x5:List Nat->Nat->Rat,x5=λd j=>(fJ r λi=>pS i*xF F ((pE i).map cv) d j)+dA (((pE r).map cv).take i) λe=>if e.1=d then pS r*bJ F ((pE r).map cv) e.1*kZ e.2 j else 0:=⟨_,rfl⟩
    rw [<-hg5,<-hx5] at D7;have old:gL K H7 (dL (g5 (cv e).1)) ((dU kv5 (kT e.1)).getD (.ref q7)):=by
     rcases D7.at_ (cv e).1 with ⟨z1,z2,z3,z4⟩ | ⟨v1,v2,z1,z2,z3,z4⟩
     ·rw [cie] at z1;rw [z1,z3,mG];exact gL.new (f:=(0,1)) e7
     ·rw [cie] at z1;rw [z1];exact gL.of z3
    refine pW old (gL.new (s7 _ _ e6)) (bL _) (bL _) (fA (D7.gq _) p0 p1 bn) (fA qy p0 p1 Kk) λq8 H8 hq8 e8 s8=>?_;rw [wW] at e8;refine ⟨_,rfl,_,rfl,?_⟩;have s68:=(s6.trans s7).trans s8;refine dpT (s8 _ _ (s7 _ _ e6p)) (c:=e.1) (s68 _ _ hcu) (by have:=D7.lv;omega) λH9 e9 b9=>?_;have t9:=Kw.aU.tT b9 (s8 _ _ (s7 _ _ e6p));have e9q:H9 q=some (.dT kw5):=b9.at npq.symm (s68 _ _ e5q);have e9a:H9 da=some (.dT ka):=b9.at nap (s68 _ _ e5a);have S9:bC H H9:=bC.thru hp (S5.trans s68) b9;have cu9:=t9 _ _ (s68 _ _ hcu);have sa9:=t9 _ _ (s68 _ _ hsa);refine ⟨_,rfl,q,rfl,.inr ⟨kw5,.inl e9q⟩,_,rfl,?_⟩;refine pJ (by show 2<=64;decide) λq10 H10 hq10 e10 s10=>?_;refine pJ (by show 1<=64;decide) λq11 H11 hq11 e11 s11=>?_;refine ⟨_,rfl,?_⟩;refine rlT ((s10.trans s11) _ _ sa9) ?_;rw [lsx];refine aBR e11 Oo Oo λq12 H12 s12 e12=>?_;have s912:=(s10.trans s11).trans s12;refine ⟨_,iS.ct (c:=e.1) (s912 _ _ e9q) (s912 _ _ cu9),?_⟩;have r12:cO H12 (sE (List.replicate (1+W) (0,1))) (.ref q12):=by
     refine cO.tup e12 (bD.ofIdx (by rw [cB,aA,cB]) λi y hy=>?_);have hl:=(aK.mp hy).1;rw [cB] at hl;rw [List.getElem?_replicate,if_pos hl] at hy;cases hy;exact ⟨iT (0,1),by rw [aE,List.getElem?_replicate,if_pos hl];rfl,eS ((s11.trans s12) _ _ e10)⟩
    have oX:cO H12 (sE ((List.range (1+W)).map λj=>dL (x5 (cv e).1 j))) ((dU kw5 (kT e.1)).getD (.ref q12)):=by
     rcases D7.at_ (cv e).1 with ⟨z1,z2,z3,z4⟩ | ⟨v1,v2,z1,z2,z3,z4⟩
     ·rw [cie] at z2;rw [z2,show ((List.range (1+W)).map λj=>dL (x5 (cv e).1 j))=List.replicate (1+W) (0,1) from ?_]
      ·exact r12
      ·refine List.eq_replicate_iff.mpr ⟨by rw [aA,bK],λb hb=>?_⟩;obtain ⟨j,_,rfl⟩:=aD.mp hb;rw [z4 j,mG]
     ·rw [cie] at z2;rw [z2];exact (z4.flat (s8.t.trans t9) (oH _)).same s912
    obtain ⟨oa,ox,eo,hoa,rox⟩:=pX oX;rw [eo];have lox:ox.length=1+W:=by rw [rox.len,aA,aA,bK]
    have sa12:=s912 _ _ sa9;refine ⟨_,rfl,sa,rfl,⟨_,eZ.of sa12⟩,?_⟩;have e12y:H12 q6=some (.tup [.int (dL y6).1,.int (dL y6).2]):=s912 _ _ (t9 _ _ ((s7.trans s8) _ _ e6));have rsx12:=(rsx.flat ((s68.t.trans t9).trans s912.t) (rJ _));have syg:=RG.sy _ hcm;refine iP (λj y H'=>∃g,(cv e).2[j]?=some g/\cO H' (iT (dL (y6*rv g))) y) (λj y Ha Hb s ⟨g,h1,h2⟩=>⟨g,h1,h2.flat s (eT _)⟩) Oo sa12 (λj y H' Q' hy s' k'=>?_) (λD ms H13 hD e13 s13 hms hr13=>?_)
    ·obtain ⟨g,hg,rg⟩:=iH rsx12 hy;obtain ⟨l1,l2,l3⟩:=syg.at_ g (aZ hg);refine ⟨_,rfl,_,rfl,?_⟩;refine nZ (gL.new (s' _ _ e12y)) (gL.of (rg.same s')) (bL _) l1 (fA qy p0 p1 Kk) (l3.up Dd) λq14 H14 hq14 e14 s14=>?_;have em2:pK (dL y6) g=dL (y6*rv g):=fU (mC (bL _) l1) (bL _) (by rw [sF (bL _).pos l1.pos,dG,dG]);rw [em2] at e14;exact k' _ H14 s14 ⟨g,hg,eS e14⟩
    ·refine ⟨_,rfl,_,rfl,?_⟩;refine ⟨oa,D,ox,ms,rfl,s13 _ _ hoa,e13,?_⟩;refine yT (b1:=true) (b2:=false) (xs:=ox) (ys:=ms) (λj y H'=>cO H' (iT (dL (x5 (cv e).1 j+y6*kZ (cv e).2 j))) y) (λj y H1 H2 s h=>h.flat s (eT _)) Oo (s13 _ _ hoa) e13 Oo (λj v1 v2 H' Q' hv1 hv2 s' k'=>?_) (λD2 zs H14 hD2 e14 s14 hz hr14=>?_)
     ·have hj:j<1+W:=by rw [<-lox];exact (aK.mp hv1).1
      obtain ⟨g1,hg1,rg1⟩:=iH rox hv1;rw [aE,bN hj] at hg1;cases hg1;obtain ⟨g,hg,rg⟩:=hr13 j v2 hv2;have eg:kZ (cv e).2 j=rv g:=EF hg;rw [<-eg] at rg;refine ⟨_,rfl,_,rfl,?_⟩;refine pW (gL.of (rg1.same (s13.trans s'))) (gL.of (rg.same s')) (bL _) (bL _) (fA (D7.xq _ _) p0 p1 bn) (fA (qz j) p0 p1 Kk) λq15 H15 hq15 e15 s15=>?_;rw [wW] at e15;exact k' _ H15 s15 (eS e15)
     ·refine ⟨D2,zs,rfl,.inl ⟨fS.of e14,λl hl=>?_⟩⟩;have sl:=bC.upd (o:=.tup zs) hl;have el:(upd H14 l (.tup zs)) l=some (.tup zs):=bH;generalize upd H14 l (.tup zs)=H15 at sl el ⊢;have s1215:=(s13.trans s14).trans sl;have s915:=s912.trans s1215;refine ⟨_,rfl,_,rfl,?_⟩;refine dpT (s915 _ _ e9q) (c:=e.1) (s915 _ _ cu9) (by have:=D7.lw;omega) λH16 e16 b16=>?_;have t16:=Kw.aU.tT b16 (s915 _ _ e9q);have T716:dX H7 H16:=((s8.t.trans t9).trans s915.t).trans t16;refine ⟨_,_,_,_,_,_,_,n5+1,rfl,bC.thru (s1.free hq) (S9.trans s915) b16,b16.at npq (s915 _ _ e9),e16,b16.at naq (s915 _ _ e9a),DA5.t ((s6.trans s7).t.trans T716),Oo,?_⟩;have hrise:(cv e).1∈rise F M:=(rB Oo).mpr ⟨RL.len _ hcm,RG.sum _ hcm⟩;have r1:cO H16 (iT (dL (g5 (cv e).1+y6))) (.ref q8):=(eS e8).flat ((t9.trans s915.t).trans t16) (eT _);have r2:cO H16 (sE ((List.range (1+W)).map λj=>dL (x5 (cv e).1 j+y6*kZ (cv e).2 j))) (.ref l):=by
       refine cO.tup (t16 _ _ el) (bD.ofIdx (by rw [hz,lox,aA,aA,bK]) λj y hj=>?_);have hj':j<1+W:=by have:=(aK.mp hj).1;omega
       exact ⟨_,by rw [aE,aE,bN hj'];rfl,(hr14 j y hj).flat (sl.t.trans t16) (eT _)⟩
      have:=(D7.t T716).put hrise r1 r2 qy qz;rw [cie] at this;refine this.eq (λd=>?_) (λd j=>?_)
      ·rw [hg5,fC hce,kC,hy6];grind
      ·rw [hx5,fC hce,kC,hy6];grind
   ·rintro σ H5 ⟨o7,o8,o9,o10,o11,kv5,kw5,n5,rfl,S5,e5,e5q,e5a,DA5,ln5,D5⟩;rw [lys,show (pE r).length=((pE r).map cv).length by rw [aA],cQ] at D5;refine ⟨_,_,_,_,_,_,_,_,kv5,kw5,n5,rfl,S5,e5,e5q,Oo,D5.eq (λd=>?_) (λd j=>?_)⟩
    ·rw [dJ,JR RL]
    ·rw [dJ,ZJ RL]
  ·rintro σ H3 ⟨o4,o5,o6,o7,o8,o9,o10,o11,kv,kw,n,rfl,S3,e3,e3q,ln,D3⟩;rw [lxs] at D3;obtain ⟨es,hes⟩:∃es,es=(pE 0).map cv:=⟨_,rfl⟩;obtain ⟨fs,hfs⟩:∃fs,fs=(pE 1).map cv:=⟨_,rfl⟩;obtain ⟨sh,hsh⟩:∃sh,sh=pS 0:=⟨_,rfl⟩;rw [<-hes,<-hfs,<-hsh] at MI k;have D3:DU K F W M P0 (5^20) n H3 kv kw (mA F es fs sh) (mX F es fs sh):=D3.eq (λd=>by
    rw [dJ,dJ,eN,ep,<-hes,<-hfs,<-hsh];unfold mA;grind) (λd j=>by
    rw [dJ,dJ,eN,ep,<-hes,<-hfs,<-hsh];unfold mX;grind)
   have TG:=MI.tg (W:=W) Oo;have TO3:=TO.same S3;obtain ⟨pt,hpt⟩:=TO3.at_;refine xP (by show 0<=64;decide) λfo H4 hfo e4 s4=>?_;refine ⟨_,rfl,?_⟩;obtain ⟨ks,k1,k2,k3⟩:=D3.ks;obtain ⟨cs,rfl,hcs⟩:=LA k3;have ndc:cs.Nodup:=List.Pairwise.of_map _ (λa b h e=>h (by rw [e])) k2;have lcs:cs.length<64:=bB (iO ndc hcs) few;unfold FF;refine ⟨p,kv,cs.map ci,cs.map λc=>((c.sum:Nat):Int)::ci c,rfl,s4 _ _ e3,k1,by rw [aA];exact lcs,TO3.same s4,by rw [aA,aA],λk hk=>?_,λi b c k H' hc hk b' hb=>?_,λD ix ys H5 ky pm srt hD e5 b5 T5=>?_⟩
   ·obtain ⟨c,_,rfl⟩:=aD.mp hk;exact List.cons_ne_nil _ _
   ·rw [aE] at hc hk;obtain ⟨c0,hc0,rfl⟩:=eE.mp hc;rw [hc0] at hk;cases hk;refine ⟨_,rfl,?_⟩;refine rsT (eZ.of hb) ?_;refine ⟨_,rfl,?_⟩;refine pJ (by show 2<=64;decide) λq7 H7 hq7 e7 s7=>⟨s7,?_⟩;rw [PM] at e7;exact cO.tup e7 (bD.cons (cO.int _) (bD.cons (sQ (s7 _ _ hb)) bD.nil))
   ·have lix:ix.length=ys.length:=by rw [pm.length_eq,bK]
    have lyc:ys.length=cs.length:=by rw [ky.1,aA]
    have ilt:∀i∈ix,i<cs.length:=λi hi=>by
     have:=cG.mp (pm.mem_iff.mp hi);omega
    obtain ⟨zs,hzs⟩:∃zs:List (List Nat),zs=ix.map λi=>cs.getD i []:=⟨_,rfl⟩;have lzs:zs.length=ix.length:=by rw [hzs,aA]
    have t45:dX H4 H5:=λb us hb=>b5.at (λz=>by rw [z,s4 _ _ hpt] at hb;cases hb) hb;have nP:∀{b:Addr} {o:HO},H4 b=some o->(∀ps,o ≠ .tbl ps)->H5 b=some o:=λhb hn=>b5.at (λz=>by rw [z,s4 _ _ hpt] at hb;cases hb;exact hn _ rfl) hb;have e5p:H5 p=some (.dT kv):=nP (s4 _ _ e3) λ_ z=>by cases z
    have e5q:H5 q=some (.dT kw):=nP (s4 _ _ e3q) λ_ z=>by cases z
    have e5f:H5 fo=some (.lst []):=nP e4 λ_ z=>by cases z
    have D5:=D3.t (s4.t.trans t45);have nDf:D≠fo:=λz=>by rw [z,e4] at hD;cases hD
    have nDp:D≠p:=λz=>by rw [z,s4 _ _ e3] at hD;cases hD
    have nfp:fo≠p:=λz=>by rw [z,e3] at hfo;cases hfo
    have nfq:fo≠q:=λz=>by rw [z,e3q] at hfo;cases hfo
    have xat:∀(t:Nat) (v:V),(ix.map λi=>ys.getD i .non)[t]?=some v->∃b c,zs[t]?=some c/\v=.ref b/\H5 b=some (.tup ((ci c).map V.int)):=λt v hv=>by
     rw [aE] at hv;obtain ⟨i,hi,rfl⟩:=eE.mp hv;have hil:=ilt i (aZ hi);have hy:ys[i]?=some (ys[i]'Oo):=aC Oo;have hc:(cs.map ci)[i]?=some (ci cs[i]):=by rw [aE,aC hil];rfl
     obtain ⟨b,eb,hb⟩:=ky.2 i _ _ hy hc;refine ⟨b,cs[i],?_,?_,hb⟩
     ·rw [hzs,aE,hi];show some (cs.getD i [])=_;rw [aN,aC hil];rfl
     ·show ys.getD i .non=_;rw [aN,hy];exact eb
    have zin:∀c∈zs,c∈cs:=λc hc=>by
     rw [hzs] at hc;obtain ⟨i,hi,rfl⟩:=aD.mp hc;have:=ilt i hi;rw [aN,aC this];exact List.getElem_mem _
    obtain ⟨pr,hpr⟩:∃pr:List Nat->Bool,pr=λc=>decide (0<(dL (mA F es fs sh c)).1):=⟨_,rfl⟩;refine ⟨D,rfl,⟨_,fS.of e5⟩,?_⟩;refine iW (xs:=ix.map λi=>ys.getD i .non) (λt σ H'=>∃(o7 o8 o13 o14:Option V) (vs:List V),σ=[some (.int (F:Int)),some (.ref L),some (.ref p),some (.ref q),o4,o5,o6,o7,o8,o9,o10,o11,some (.ref fo),o13,o14]/\aU fo H5 H'/\H' fo=some (.lst vs)/\vs.length<=t/\bD H' ((((zs.take t).filter pr).map λc=>(c,mS F W es fs sh c)).map enC) vs) ⟨_,_,_,_,[],rfl,(bC.refl _).but,e5f,aJ _,bD.nil⟩ (λt σ H' _ z=>?_) ?_ ?_
    ·obtain ⟨_,_,_,_,_,_,b',_⟩:=z;exact fS.of (b'.at nDf e5)
    ·rintro t v σ H6 hv ⟨o7,o8,o13,o14,vs,rfl,b6,e6,l6,r6⟩;obtain ⟨b,cc,hcc,rfl,hb⟩:=xat t v hv;have ht:t<ix.length:=by rw [<-lzs];exact (aK.mp hcc).1
     have ccs:=zin cc (aZ hcc);have t56:dX H5 H6:=b6.t e5f;have hb6:=t56 _ _ hb;have D6:=D5.t t56;have e6p:=b6.at nfp.symm e5p;have e6q:=b6.at nfq.symm e5q;obtain ⟨v1,v2,hv1,hv2,rv1,rv2⟩:∃v w,dU kv (kT (ci cc))=some v/\dU kw (kT (ci cc))=some w/\cO H6 (iT (dL (mA F es fs sh cc))) v/\cO H6 (sE ((List.range (1+W)).map λj=>dL (mX F es fs sh cc j))) w:=by
      rcases D6.at_ cc with ⟨z1,_⟩ | z
      ·exfalso;refine BQ z1 ?_;rw [k1,List.map_map];exact aD.mpr ⟨cc,ccs,rfl⟩
      ·exact z
     obtain ⟨a1,rfl,ha1⟩:=FS rv1;refine ⟨_,rfl,_,rfl,?_⟩;refine dgT e6p (c:=ci cc) hb6 hv1 ?_;refine ⟨a1,_,rfl,eZ.of ha1,rfl,_,_,rfl,_,_,rfl,rfl,?_⟩;refine ⟨_,rfl,_,_,rfl,rfl,_,rfl,?_⟩;have gz:lM 4000 (dL (mA F es fs sh cc)):=fA (D6.gq cc) p0 p1 (by
      have h1:5^20*n<=5^20*1000:=dM _ Oo;have h2:5^20*1000<=2^200:=Kk;omega)
     refine AV (λon=>?_) (λon=>?_)
     ·have on:0<(dL (mA F es fs sh cc)).1:=on;obtain ⟨wa,wx,rfl,hwa,rwx⟩:=pX rv2;have lwx:wx.length=1+W:=by rw [rwx.len,aA,aA,bK]
      refine ⟨_,rfl,_,rfl,?_⟩;refine dgT e6q (c:=ci cc) hb6 hv2 ?_;refine ⟨wa,rfl,⟨_,eZ.of hwa⟩,?_⟩;refine iP (λj y H'=>cO H' (iT (dL (mX F es fs sh cc j/mA F es fs sh cc))) y) (λj y Ha Hb s h=>h.flat s (eT _)) Oo hwa (λj y H' Q' hy s' k'=>?_) (λD2 ms H7 hD2 e7 s7 hms hr7=>?_)
      ·have hj:j<1+W:=by rw [<-lwx];exact (aK.mp hy).1
       obtain ⟨g1,hg1,rg1⟩:=iH rwx hy;rw [aE,bN hj] at hg1;cases hg1;obtain ⟨ga,rfl,hga⟩:=FS (rg1.same s');have xz:lM 4000 (dL (mX F es fs sh cc j)):=fA (D6.xq cc j) p0 p1 (by
        have h1:5^20*n<=5^20*1000:=dM _ Oo;have h2:5^20*1000<=2^200:=Kk;omega)
       refine ⟨_,rfl,?_⟩;refine mF (eZ.of hga) rfl ?_;refine ⟨_,rfl,_,_,rfl,rfl,uD xz.1 gz.2,?_⟩;refine ⟨_,rfl,?_⟩;refine mF (eZ.of hga) rfl ?_;refine ⟨_,rfl,_,_,rfl,rfl,uD xz.2 gz.1,?_⟩;refine jE (Int.mul_pos (bL _).pos on) (iU (vB xz.2 gz.1)) λq8 H8 hq8 e8 s8=>?_;rw [aAi on] at e8;exact k' _ H8 s8 (eS e8)
      ·refine ⟨D2,ms,rfl,.inl ⟨fS.of e7,λl hl=>?_⟩⟩;have sl:=bC.upd (o:=.tup ms) hl;have el:(upd H7 l (.tup ms)) l=some (.tup ms):=bH;generalize upd H7 l (.tup ms)=H8 at sl el ⊢;have s68:=s7.trans sl;refine ⟨_,rfl,tyL (s68 _ _ e6),_,rfl,_,rfl,?_⟩;refine pJ (by show 2<=64;decide) λq9 H9 hq9 e9 s9=>?_;refine aB8 (s9 _ _ (s68 _ _ e6)) Oo λH10 e10 b10=>?_;have t10:=b10.t (s9 _ _ (s68 _ _ e6));refine ⟨_,_,_,_,_,rfl,(b6.trans (s68.trans s9).but).trans b10,e10,by rw [bF,List.length_singleton];omega,?_⟩;have ef:(zs.take (t+1)).filter pr=(zs.take t).filter pr++[cc]:=by
        rw [fC hcc,List.filter_append,List.filter_cons_of_pos (by rw [hpr];exact bV on)];rfl
       rw [ef,bM,bM];refine bD.snoc (r6.flat ((s68.trans s9).t.trans t10) (yR _)) (cO.tup (t10 _ _ e9) (bD.cons ?_ (bD.cons (cO.tup (t10 _ _ (s9 _ _ el)) (bD.ofIdx ?_ λj y hj=>?_)) bD.nil)))
       ·refine sU ?_;rw [<-iY];exact t10 _ _ (s9 _ _ (s68 _ _ hb6))
       ·rw [hms,lwx];unfold mS;rw [aA,aA,bK]
       ·have hj':j<1+W:=by have:=(aK.mp hj).1;omega
        refine ⟨iT (dL (mX F es fs sh cc j/mA F es fs sh cc)),?_,(hr7 j y hj).flat ((sl.trans s9).t.trans t10) (eT _)⟩;unfold mS;rw [aE,aE,bN hj'];rfl
     ·have on:¬0<(dL (mA F es fs sh cc)).1:=on;refine ⟨_,_,_,_,vs,rfl,b6,e6,Oo,?_⟩;have ef:(zs.take (t+1)).filter pr=(zs.take t).filter pr:=by
       rw [fC hcc,List.filter_append,List.filter_cons_of_neg (by rw [hpr];simpa using on)];simp
      rw [ef];exact r6
    ·rintro σ H6 ⟨o7,o8,o13,o14,vs,rfl,b6,e6,l6,r6⟩;rw [show (ix.map λi=>ys.getD i V.non).length=zs.length by rw [aA,lzs],cQ] at r6;have zperm:zs.Perm cs:=by
      rw [hzs];refine (pm.map λi=>cs.getD i []).trans ?_;rw [lyc,show (List.range cs.length).map (λi=>cs.getD i [])=cs from ?_];refine List.ext_getElem? λi=>?_;rw [aE];by_cases hi:i<cs.length
      ·rw [bN hi,aC hi];show some (cs.getD i [])=_;rw [aN,aC hi];rfl
      ·rw [bO (by rw [bK];omega),bO Oo];rfl
     have kinj:∀a b:List Nat,(((a.sum:Nat):Int)::ci a)=(((b.sum:Nat):Int)::ci b)->a=b:=λa b e=>by
      injection e with _ e2;exact iL e2
     have kznd:(cs.map λc=>((c.sum:Nat):Int)::ci c).Nodup:=hU ndc λa _ b _ e=>kinj a b e;have srt2:=srt kznd;have ez:(ix.map λi=>(cs.map λc=>((c.sum:Nat):Int)::ci c).getD i [])=zs.map λc=>((c.sum:Nat):Int)::ci c:=by
      rw [hzs,List.map_map];refine dN λi hi=>?_;have:=ilt i hi;show List.getD _ i _=_;rw [aN,aE,aC this];show _=((((cs.getD i []).sum:Nat):Int)::ci (cs.getD i []));rw [aN,aC this];rfl
     rw [ez] at srt2;have efin:zs.filter pr=jS F M (mB F es fs sh):=by
      have h1:((zs.filter pr).map λc=>((c.sum:Nat):Int)::ci c).Pairwise λa b=>hV a b=true:=srt2.sublist (List.filter_sublist.map _);have h2:((jS F M (mB F es fs sh)).map λc=>((c.sum:Nat):Int)::ci c).Pairwise λa b=>hV a b=true:=(CD F hF.2.1 M hF.2.2).sublist ((iV Oo).map _);have hmem:∀c,c∈zs.filter pr↔c∈jS F M (mB F es fs sh):=λc=>by
       rw [<-pZ (W:=W),MI.mem TG,iR,zperm.mem_iff];have hp:pr c=true↔mA F es fs sh c≠0:=by
        rw [hpr];exact (decide_eq_true_iff).trans (OQ (MI.ann c))
       rw [hp];refine ⟨λh=>h.2,λh=>⟨?_,h⟩⟩;rcases D3.at_ c with ⟨_,_,z,_⟩ | ⟨v,w,z,_⟩
       ·exact absurd z h
       ·have h3:=qI z;rw [k1,List.map_map] at h3;obtain ⟨c',hc',ec⟩:=aD.mp h3;rw [<-iL (jT ec)];exact hc'
      have:=rC h1 h2 λx=>by
       rw [aD,aD];exact ⟨λ⟨c,h,e⟩=>⟨c,(hmem c).mp h,e⟩,λ⟨c,h,e⟩=>⟨c,(hmem c).mpr h,e⟩⟩
      exact pY (f:=λc:List Nat=>((c.sum:Nat):Int)::ci c) kinj this
     rw [efin] at r6;refine ⟨_,rfl,?_⟩;refine ⟨fo,vs,rfl,.inl ⟨fS.of e6,λl hl=>?_⟩⟩;have sl:=bC.upd (o:=.tup vs) hl;have e34:aU tA H H5:=by
      intro x ob hx;have nx:=fF.ne hx;rw [fF.at nx] at hx;exact fF.of nx (b5.at nx ((S3.trans s4) _ _ hx))
     have hfoH:H fo=none:=S3.free hfo;refine k _ _ (aU.same (aU.thru hfoH e34 b6) sl) ((iZ.butL b6 e5f T5).same sl) ?_;exact cO.tup bH (r6.same sl)
end
end Kt
namespace Kw
open PySem L2 Mf
abbrev XS:Stmt:=(top 13)
theorem UZ:bZ ["some","whole","one"] ["some"] (bA XS):=⟨rfl,rfl,rfl,Kk,rfl,Kk,Kk⟩
abbrev YC:Stmt:=(top 4)
theorem aDE:bZ ["thing"] ["thing"] (bA YC):=⟨rfl,rfl,rfl,Kk,rfl,Kk,Kk⟩
abbrev YF:Stmt:=(top 7)
theorem aDI:bZ ["thing"] ["thing"] (bA YF):=⟨rfl,rfl,rfl,Kk,rfl,Kk,Kk⟩
abbrev YE:Stmt:=(top 8)
theorem aDG:bZ ["thing"] ["thing"] (bA YE):=⟨rfl,rfl,rfl,Kk,rfl,Kk,Kk⟩
abbrev YD:Stmt:=(top 17)
theorem aDF:bZ ["thing","many"] ["thing","many"] (bA YD):=⟨rfl,rfl,rfl,Kk,rfl,Kk,Kk⟩
abbrev RX:Stmt:=(top 18)
theorem aDL:bZ ["thing","many"] ["thing","many"] (bA RX):=⟨rfl,rfl,rfl,Kk,rfl,Kk,Kk⟩
abbrev YL:Stmt:=(top 19)
theorem aDN:bZ ["thing","many"] ["thing","many"] (bA YL):=⟨rfl,rfl,rfl,Kk,rfl,Kk,Kk⟩
abbrev YK:Stmt:=(top 27)
theorem aDM:bZ ["ways","thing"] ["ways","thing"] (bA YK):=⟨rfl,rfl,rfl,Kk,rfl,Kk,Kk⟩
abbrev RW:Stmt:=(top 21)
theorem aDK:bZ ["faces","thing"] ["faces","thing"] (bA RW):=⟨rfl,rfl,rfl,Kk,rfl,Kk,Kk⟩
abbrev YG:Stmt:=(top 30)
theorem aDJ:bZ ["faces","ways","thing"] ["faces","ways","thing"] (bA YG):=⟨rfl,rfl,rfl,Kk,rfl,Kk,Kk⟩
abbrev MS:Stmt:=(top 29)
theorem aDH:bZ ["faces","ways","thing"] ["faces","ways","thing"] (bA MS):=⟨rfl,rfl,rfl,Kk,rfl,Kk,Kk⟩
structure ShG(f:Fr):Prop where
 low:eM f
 nn:0<=f.1
 le:f.1<=f.2
structure IL(W:Nat)(fs:List Fr):Prop where
 g:LJ (1+W) fs
 d:∃Y:Nat,0<Y/\Y<2^1900/\∀f∈fs,Fn Y 1 f
theorem Fn.le1{N:Nat}{f:Fr}(h:Fn N 1 f)(h0:0<N):f.1<=f.2:=by
 have hq:=h.q;obtain ⟨X,e,b⟩:=hq;have hp:=h.low.pos;have e1:=lD hp;have np:(0:Rat)<(N:Rat):=by exact_mod_cast h0
 have dp:(0:Rat)<(f.2:Rat):=by exact_mod_cast hp
 have hx:(X:Rat)<=(N:Rat):=by
  have:X<=(N:Int):=Oo;have:((X:Int):Rat)<=((N:Int):Rat):=by exact_mod_cast this
  rwa [kR] at this
 have h1:rv f<=1:=by
  refine bP λz=>?_;have z:1<rv f:=by grind
  have:=Rat.mul_lt_mul_of_pos_right z np;grind
 have h2:(f.1:Rat)<=(f.2:Rat):=by
  rw [<-e1];have:=Rat.mul_le_mul_of_nonneg_right h1 (Rat.le_of_lt dp);grind
 exact_mod_cast h2
theorem IL.sh{W:Nat}{fs:List Fr}(h:IL W fs):∀f∈fs,ShG f:=λf hf=>by
 obtain ⟨Y,y0,_,hy⟩:=h.d;exact ⟨(h.g.at_ f hf).1,(h.g.at_ f hf).2.1,Fn.le1 (hy f hf) y0⟩
theorem IL.tot{W:Nat}{fs:List Fr}(h:IL W fs)(hW:W<=4):IK fs/\sB fs=(1,1):=by
 obtain ⟨Y,y0,y1,hy⟩:=h.d;refine ⟨QM hy y0 (aV y1 (bG Dd Dd)) (by rw [h.g.len];omega) Nat.one_le_two_pow,?_⟩;have lw:∀f∈fs,eM f:=λf hf=>(h.g.at_ f hf).1;exact fU (BS fs lw) TV (by rw [YT fs lw,h.g.one,FC])
theorem qJ:∀{ys:List V},(∀(i:Nat) (y:V),ys[i]?=some y->y=.bl true)->ys=(List.replicate ys.length true).map V.bl
 | [],_=>rfl
 | y::ys,h=>by
  have h0:=h 0 y rfl;have h1:=qJ (ys:=ys) λi z hz=>h (i+1) z (by simpa using hz);rw [cM,List.replicate_succ,aO,<-h1,h0]
theorem sY(n:Nat):(List.replicate n true).all id=true:=by rw [List.all_eq_true];intro x hx;exact List.eq_of_mem_replicate hx
@[irreducible] def lU:Sp:=λvs H Q _=>∃n:Int,vs=[.int n]/\Q (.bl true) H
theorem pU{H:Hp}{Q:VK}{E:XK}{n:Int}(q:Q (.bl true) H):lU [.int n] H Q E:=by unfold lU;exact ⟨n,rfl,q⟩
@[irreducible] def qT(K:PySem.W.Frag):Sp:=λvs H Q _=>∃(x:V) (f:Fr),vs=[x]/\gL K H f x/\eM f/\Q (.bl true) H
theorem JI{K:PySem.W.Frag}{H:Hp}{Q:VK}{E:XK}{x:V}{f:Fr}(h1:gL K H f x)(h2:eM f)(q:Q (.bl true) H):qT K [x] H Q E:=by unfold qT;exact ⟨x,f,rfl,h1,h2,q⟩
@[irreducible] def qS(K:PySem.W.Frag):Sp:=λvs H Q _=>∃(x:V) (f:Fr),vs=[x]/\gL K H f x/\ShG f/\Q (.bl true) H
theorem JH{K:PySem.W.Frag}{H:Hp}{Q:VK}{E:XK}{x:V}{f:Fr}(h1:gL K H f x)(h2:ShG f)(q:Q (.bl true) H):qS K [x] H Q E:=by unfold qS;exact ⟨x,f,rfl,h1,h2,q⟩
@[irreducible] def kJ(K:PySem.W.Frag):Sp:=λvs H Q _=>∃(a:Addr) (xs:List V) (n:Int),vs=[.ref a,.int n]/\eZ K H a xs/\(xs.length:Int)=n/\Q (.bl true) H
theorem pV{K:PySem.W.Frag}{H:Hp}{Q:VK}{E:XK}{a:Addr}{xs:List V}{n:Int}(h1:eZ K H a xs)(h2:(xs.length:Int)=n)(q:Q (.bl true) H):kJ K [.ref a,.int n] H Q E:=by unfold kJ;exact ⟨a,xs,n,rfl,h1,h2,q⟩
@[irreducible] def oF(K:PySem.W.Frag):Sp:=λvs H Q _=>∃(x:V) (fs:List Fr) (n:Int),vs=[x,.int n]/\DX K H fs x/\(fs.length:Int)=n/\fs.length<=64/\(∀f∈fs,ShG f)/\∀H',bC H H'->Q (.bl true) H'
theorem EX{K:PySem.W.Frag}{H:Hp}{Q:VK}{E:XK}{x:V}{fs:List Fr}{n:Int}(h1:DX K H fs x)(h2:(fs.length:Int)=n)(h3:fs.length<=64)(h4:∀f∈fs,ShG f)(q:∀H',bC H H'->Q (.bl true) H'):oF K [x,.int n] H Q E:=by unfold oF;exact ⟨x,fs,n,rfl,h1,h2,h3,h4,q⟩
@[irreducible] def nS(K:PySem.W.Frag):Sp:=λvs H Q _=>∃a xs fs,vs=[.ref a]/\H a=some (.tup xs)/\aA4 K H fs xs/\IK fs/\∀v H',bC H H'->cO H' (iT (sB fs)) v->Q v H'
theorem EO{K:PySem.W.Frag}{H:Hp}{Q:VK}{E:XK}{a:Addr}{xs:List V}{fs:List Fr}(h:H a=some (.tup xs))(r:aA4 K H fs xs)(ok:IK fs)(q:∀v H',bC H H'->cO H' (iT (sB fs)) v->Q v H'):nS K [.ref a] H Q E:=by unfold nS;exact ⟨a,xs,fs,rfl,h,r,ok,q⟩
@[irreducible] def jN(K:PySem.W.Frag):Sp:=λvs H Q _=>∃(v:V) (fs:List Fr) (W:Nat) (z:Int),vs=[v,.int z]/\DX K H fs v/\IL W fs/\W<=4/\z=1+(W:Int)/\∀H',bC H H'->Q (.bl true) H'
theorem xK{K:PySem.W.Frag}{H:Hp}{Q:VK}{E:XK}{v:V}{fs:List Fr}{W:Nat}{z:Int}(h1:DX K H fs v)(h2:IL W fs)(h3:W<=4)(h4:z=1+(W:Int))(q:∀H',bC H H'->Q (.bl true) H'):jN K [v,.int z] H Q E:=by unfold jN;exact ⟨v,fs,W,z,rfl,h1,h2,h3,h4,q⟩
@[irreducible] def kO(K:PySem.W.Frag):Sp:=λvs H Q _=>∃(v:V) (fs:List Fr) (W:Nat),vs=[.int (W:Int),v]/\DX K H fs v/\IL W fs/\W<=4/\∀H',bC H H'->Q (.bl true) H'
theorem zX{K:PySem.W.Frag}{H:Hp}{Q:VK}{E:XK}{v:V}{fs:List Fr}{W:Nat}(h1:DX K H fs v)(h2:IL W fs)(h3:W<=4)(q:∀H',bC H H'->Q (.bl true) H'):kO K [.int (W:Int),v] H Q E:=by unfold kO;exact ⟨v,fs,W,rfl,h1,h2,h3,q⟩
@[irreducible] def jM:Sp:=λvs H Q _=>∃(a:Addr) (c:List Nat) (F:Nat),vs=[.int (F:Int),.ref a]/\H a=some (.tup (c.map FW))/\c.length=F/\F<=64/\∀H',bC H H'->Q (.bl true) H'
theorem xJ{H:Hp}{Q:VK}{E:XK}{a:Addr}{c:List Nat}{F:Nat}(h1:H a=some (.tup (c.map FW)))(h2:c.length=F)(h3:F<=64)(q:∀H',bC H H'->Q (.bl true) H'):jM [.int (F:Int),.ref a] H Q E:=by unfold jM;exact ⟨a,c,F,rfl,h1,h2,h3,q⟩
@[irreducible] def kN(K:PySem.W.Frag):Sp:=λvs H Q _=>∃(v:V) (e:cS) (F W:Nat),vs=[.int (F:Int),.int (W:Int),v]/\QT K H e v/\e.1.length=F/\IL W e.2/\F<=64/\W<=4/\∀H',bC H H'->Q (.bl true) H'
theorem zW{K:PySem.W.Frag}{H:Hp}{Q:VK}{E:XK}{v:V}{e:cS}{F W:Nat}(h1:QT K H e v)(h2:e.1.length=F)(h2':IL W e.2)(h3:F<=64)(h4:W<=4)(q:∀H',bC H H'->Q (.bl true) H'):kN K [.int (F:Int),.int (W:Int),v] H Q E:=by unfold kN;exact ⟨v,e,F,W,rfl,h1,h2,h2',h3,h4,q⟩
@[irreducible] def lX(K:PySem.W.Frag):Sp:=λvs H Q _=>∃(v:V) (F W M:Nat) (best:List Nat->Nat) (sy:List Nat->List Fr) (R:List Nat->Prop),vs=[.int (F:Int),.int (W:Int),v]/\uY K H (AD F M best sy) v/\mJ F M best sy R/\(∀c,R c->c∈jS F M best)/\(∀c∈jS F M best,IL W (sy c))/\W<=4/\∀H',bC H H'->Q (.bl true) H'
theorem BX{K:PySem.W.Frag}{H:Hp}{Q:VK}{E:XK}{v:V}{F W M:Nat}{best:List Nat->Nat}{sy:List Nat->List Fr}{R:List Nat->Prop}(h1:uY K H (AD F M best sy) v)(h2:mJ F M best sy R)(h3:∀c,R c->c∈jS F M best)(h4:∀c∈jS F M best,IL W (sy c))(h5:W<=4)(q:∀H',bC H H'->Q (.bl true) H'):lX K [.int (F:Int),.int (W:Int),v] H Q E:=by
 unfold lX;exact ⟨v,F,W,M,best,sy,R,rfl,h1,h2,h3,h4,h5,q⟩
theorem wP(cs:List (List Nat)):SeqAt.shaped (.list (cs.map fW))=true:=(nE.lst (n:=2) λd hd'=>by
 obtain ⟨c,_,rfl⟩:=aD.mp hd';refine nE.tup (n:=1) λd hd'=>?_;obtain ⟨z,_,rfl⟩:=aD.mp hd';exact nE.int z).ok
theorem DH:∀c:List Nat,PyData.hasDictAll (c.map λ(n:Nat)=>PyData.int (n:Int))=false
 | []=>rfl
 | x::c=>by show (PyData.hasDict (.int x) || PyData.hasDictAll (c.map λ(n:Nat)=>PyData.int (n:Int)))=false;rw [DH c];rfl
theorem DI:∀cs:List (List Nat),PyData.hasDictAll (cs.map fW)=false
 | []=>rfl
 | c::cs=>by show (PyData.hasDictAll (c.map λ(n:Nat)=>PyData.int (n:Int)) || PyData.hasDictAll (cs.map fW))=false;rw [DI cs,DH];rfl
theorem UM(cs:List (List Nat)):PyData.eqv (.list (cs.map fW)) (.list (cs.map fW))=true:=wN _ (DI cs)
section
theorem aC2(F:jA K "is_whole" "is_whole" YC f fd)(T:kY K mg c):dZ P w K mg base dQ 1 f fd ["thing"] lU:=by
 refine F.oky aDE λvs H Q E h=>?_;unfold lU at h;obtain ⟨n,rfl,q⟩:=h;refine ⟨rfl,λcdv A outer s hr=>?_⟩;refine ⟨_,(bE (cF (lH (eR PJ (by rfl) T.b_isinstance Kk (aM (aI 0) (aM (qG (v:=.ty "int") (u:=.type "int") rfl T.b_int Kk rfl) aG))) (mO (XF (eR PJ (by rfl) T.b_isinstance Kk (aM (aI 0) (aM (qG (v:=.ty "bool") (u:=.type "bool") rfl T.b_bool Kk rfl) aG)))))))),?_⟩;refine ⟨_,rfl,?_⟩;refine riI (cO.int n) ?_;refine ⟨_,rfl,?_⟩;refine mU ?_;refine ⟨_,rfl,?_⟩;refine riI (cO.int n) ?_;exact ⟨_,rfl,q⟩
theorem aC6(F:jA K "is_fraction" "is_fraction" YF f fd)(T:kY K mg c)(FQ29:gK dQ P w K mg base 1 "is_whole" ["thing"] lU)(FQ20:gK dQ P w K mg base 1 "common_divisor" ["number","above_nought"] vH):dZ P w K mg base dQ 2 f fd ["thing"] (qT K):=by
 refine F.oky aDI λvs H Q E h=>?_;unfold qT at h;obtain ⟨x,f,rfl,⟨a,rfl,ha⟩,low,q⟩:=h;refine ⟨rfl,λcdv A outer s hr=>?_⟩;refine ⟨_,(aS (gE (xD (tJ (rY (lF (eR (BD K) (by rfl) T.b_isinstance Kk (aM (aI 0) (aM (qG (v:=.ty "tuple") (u:=.type "tuple") rfl T.b_tuple Kk rfl) aG))))) (nI (eD HE (eR jU (by rfl) T.b_len Kk (aM (aI 0) aG)) aL (nomark _))))) (bE (cF pM)) dY)
  (aS (gE (xD (tJ (rY (lF (bR FQ29 (hr.mono Dd) (aM (cH bU (aI 0) aL (λ_ _=>rfl)) aG)))) (nI (rY (lF (bR FQ29 (hr.mono Dd) (aM (cH bU (aI 0) aL (λ_ _=>rfl)) aG))))))) (bE (cF pM)) dY)
  (bE (cF (lH (jR WG (cH bU (aI 0) aL (λ_ _=>rfl)) aL (nomark _)) (mO (jR nB (bR FQ20 (hr.mono Dd) (aM (cH bU (aI 0) aL (λ_ _=>rfl)) (aM (cH bU (aI 0) aL (λ_ _=>rfl)) aG))) aL (nomark _)))))))),?_⟩
 refine ⟨_,rfl,?_⟩;refine MW ha ?_;refine ⟨_,rfl,?_⟩;refine oN ?_;refine ⟨_,rfl,?_⟩;refine rlK ha ?_;refine ⟨rfl,_,rfl,?_⟩;refine oN ?_;refine ⟨_,rfl,?_⟩;refine mF ha rfl ?_;refine pU ?_;refine ⟨_,rfl,?_⟩;refine oN ?_;refine ⟨_,rfl,?_⟩;refine mF ha rfl ?_;refine pU ?_;refine ⟨_,rfl,?_⟩;refine oN ?_;refine ⟨_,rfl,?_⟩;refine mF ha rfl ?_;refine ⟨_,_,rfl,rfl,_,rfl,?_⟩;have hp:=low.pos;have hg:=low.low;refine wF (bV Oo) ?_;refine ⟨_,rfl,?_⟩;refine mF ha rfl ?_;refine ⟨_,rfl,?_⟩;refine mF ha rfl ?_;refine qU hp ?_;refine ⟨rfl,?_⟩;rw [hg];exact q
theorem aC4(F:jA K "is_share" "is_share" YE f fd)(T:kY K mg c)(FQ25:gK dQ P w K mg base 2 "is_fraction" ["thing"] (qT K)):dZ P w K mg base dQ 3 f fd ["thing"] (qS K):=by
 refine F.oky aDG λvs H Q E h=>?_;unfold qS at h;obtain ⟨x,f,rfl,hx,sh,q⟩:=h;refine ⟨rfl,λcdv A outer s hr=>?_⟩;have hx0:=hx;obtain ⟨a,rfl,ha⟩:=hx;refine ⟨_,(bE (cF (lH (bR FQ25 (hr.mono Dd) (aM (aI 0) aG)) (mO (LY WF WF aL (cH bU (aI 0) aL (λ_ _=>rfl)) (cH bU (aI 0) aL (λ_ _=>rfl))))))),?_⟩;refine ⟨_,rfl,?_⟩;refine JI hx0 sh.low ?_;refine ⟨_,rfl,?_⟩;refine mU ?_;refine ⟨_,rfl,?_⟩;refine mF ha rfl ?_;refine ⟨_,_,rfl,rfl,_,rfl,?_⟩;refine wF (bV sh.nn) ?_;refine ⟨_,rfl,?_⟩;refine mF ha rfl ?_;refine ⟨_,_,rfl,rfl,?_⟩;show Q (.bl (decide (f.1<=f.2))) H;rw [bV sh.le];exact q
theorem aC3(F:jA K "is_tuple_of" "is_tuple_of" YD f fd)(T:kY K mg c):dZ P w K mg base dQ 1 f fd ["thing","many"] (kJ K):=by
 refine F.oky aDF λvs H Q E h=>?_;unfold kJ at h;obtain ⟨a,xs,n,rfl,ha,hn,q⟩:=h;refine ⟨rfl,λcdv A outer s hr=>?_⟩;refine ⟨_,(bE (cF (lH (eR (BD K) (by rfl) T.b_isinstance Kk (aM (aI 0) (aM (qG (v:=.ty "tuple") (u:=.type "tuple") rfl T.b_tuple Kk rfl) aG))) (mO (jR nB (eR jU (by rfl) T.b_len Kk (aM (aI 0) aG)) (aI 1) (nomark _)))))),?_⟩;refine ⟨_,rfl,?_⟩;refine MW ha ?_;refine ⟨_,rfl,?_⟩;refine mU ?_;refine ⟨_,rfl,?_⟩;refine rlK ha ?_;refine ⟨_,rfl,rfl,?_⟩;rw [hn,bV rfl];exact q
theorem aDc(F:jA K "are_shares" "are_shares" RX f fd)(T:kY K mg c)(FQ28:gK dQ P w K mg base 1 "is_tuple_of" ["thing","many"] (kJ K))(FQ27:gK dQ P w K mg base 3 "is_share" ["thing"] (qS K)):dZ P w K mg base dQ 4 f fd ["thing","many"] (oF K):=by
 refine F.oky aDL λvs H Q E h=>?_;unfold oF at h;obtain ⟨x,fs,n,rfl,⟨a,xs,rfl,ha,pr⟩,hn,h64,sh,q⟩:=h;refine ⟨rfl,λcdv A outer s hr=>?_⟩;have hl:xs.length=fs.length:=pr.len;refine ⟨_,(bE (cF (lH (bR FQ28 (hr.mono Dd) (aM (aI 0) (aM (aI 1) aG))) (mO (eR (FX rfl) (by rfl) T.b_all Kk (aM (fG (eA.of (psc:=bA RX) (N:=["thing","many"]) (N':=["one"]) (js:=[]) Kk rfl rfl rfl) (jQ (aI 0)) (λ_ _ _ _=>eQ) (λ_ _ _ _=>(bR FQ27 (hr.mono Dd) (aM (aI 0) aG)))) aG)))))),?_⟩;refine ⟨_,rfl,_,rfl,?_⟩;refine pV (eZ.of ha) (by rw [hl];exact hn) ?_;refine ⟨_,rfl,?_⟩;refine mU ?_;refine ⟨_,rfl,a,rfl,⟨_,eZ.of ha⟩,?_⟩;refine iP (λi y _=>y=.bl true) (λ_ _ _ _ _ h=>h) Oo ha (λi y H' Q' hy s' k'=>?_) (λD ys H1 hD hD1 s1 hy hr1=>?_)
 ·obtain ⟨g,hg,rg⟩:=pr.at_ i y hy;refine ⟨_,rfl,?_⟩;refine JH (rg.same s').v (sh g (aZ hg)) ?_;exact k' _ H' (bC.refl _) rfl
 ·rw [qJ hr1] at hD1;refine rall hD1 ?_;rw [sY];exact q H1 s1
theorem aCN(F:jA K "total" "total" XS f fd)(T:kY K mg c)(FQ39:gK dQ P w K mg base 2 "plus" ["one","other"] (lC K)):dZ P w K mg base dQ 3 f fd ["some"] (nS K):=by
 refine F.oky UZ λvs H Q E h=>?_;unfold nS at h;obtain ⟨a,vs,fs,rfl,ha,hv,ok,q⟩:=h;refine ⟨rfl,λcdv A outer s hr=>?_⟩;have hlen:=hv.len;refine ⟨_,(aS (bS (i:=1) UZ.nd rfl (Or.inl rfl) (dS (aM aL (aM aL aG))))
  (aS (gS PassesOwn.never rfl (jQ (aI 0)) (dF (i:=2) UZ.nd rfl (Or.inl rfl)) (bE (bS (i:=1) UZ.nd rfl (Or.inl rfl) (bR FQ39 (hr.mono Dd) (aM (aI 1) (aM (aI 2) aG))))))
  (bE (cF (aI 1))))),?_⟩
 refine pJ (by show 2<=64;decide) λp0 H0 hp0 e0 s0=>?_;refine ⟨_,rfl,a,rfl,⟨_,eZ.of (s0 _ _ ha)⟩,?_⟩;refine AZ (xs:=vs) (λi σ H'=>∃w o2,σ=[some (.ref a),some w,o2]/\bC H H'/\cO H' (iT (sB (fs.take i))) w) ⟨_,_,rfl,s0,eS e0⟩ (λi σ H' _ p=>?_) ?_ ?_
 ·obtain ⟨w,o2,rfl,s1,_⟩:=p;exact eZ.of (s1 _ _ ha)
 ·rintro i x σ H1 hx ⟨w,o2,rfl,s1,r1⟩;obtain ⟨g,hg,rg⟩:=hv.at_ i x hx;have hm:=aZ hg;obtain ⟨t1,t2⟩:=ok.part i;refine ⟨_,rfl,_,rfl,?_⟩;refine lV (gL.of r1) (gL.same s1 rg) t1 (ok.low _ hm) t2 (ok.sz _ hm) ?_;intro p2 H2 hp2 e2 s2;refine ⟨_,_,rfl,s1.trans s2,?_⟩;rw [fC hg,oZ];exact eS e2
 ·rintro σ H1 ⟨w,o2,rfl,s1,r1⟩;refine ⟨_,rfl,?_⟩;rw [hlen,cQ] at r1;exact q _ H1 s1 r1
theorem aDe(F:jA K "are_parts" "are_parts" YL f fd)(T:kY K mg c)(FQ19:gK dQ P w K mg base 4 "are_shares" ["thing","many"] (oF K))(FQ44:gK dQ P w K mg base 3 "total" ["some"] (nS K)):dZ P w K mg base dQ 5 f fd ["thing","many"] (jN K):=by
 refine F.oky aDN λvs H Q E h=>?_;unfold jN at h;obtain ⟨x,fs,W,z,rfl,sy,pt,hW,hz,q⟩:=h;refine ⟨rfl,λcdv A outer s hr=>?_⟩;have hl:=pt.g.len;obtain ⟨tk,t1⟩:=pt.tot hW;refine ⟨_,(bE (cF (lH (bR FQ19 (hr.mono Dd) (aM (aI 0) (aM (aI 1) aG))) (mO (jR (ZZ K hr.units) (bR FQ44 (hr.mono Dd) (aM (aI 0) aG)) (oY (v:=.ref c.ONE) rfl T.g_ONE rfl) (nomark _)))))),?_⟩;refine ⟨_,rfl,_,rfl,?_⟩;refine EX sy Oo Oo pt.sh λH1 s1=>?_;refine ⟨_,rfl,?_⟩;refine mU ?_;refine ⟨_,rfl,?_⟩;obtain ⟨sa,sx,rfl,hsa,rs⟩:=sy.t s1.t;refine EO hsa rs.v tk λy H2 s2 r2=>?_;rw [t1] at r2;refine reK r2.k (iE.tup (K:=K) (nQ (H:=H2) T.o_ONE) (fP.ints [1,1])) rfl rfl ?_;exact q H2 (s1.trans s2)
theorem aDd(F:jA K "are_says" "are_says" YK f fd)(T:kY K mg c)(FQ17:gK dQ P w K mg base 5 "are_parts" ["thing","many"] (jN K)):dZ P w K mg base dQ 6 f fd ["ways","thing"] (kO K):=by
 refine F.oky aDM λvs H Q E h=>?_;unfold kO at h;obtain ⟨x,fs,W,rfl,sy,pt,hW,q⟩:=h;refine ⟨rfl,λcdv A outer s hr=>?_⟩;refine ⟨_,(bE (cF (bR FQ17 (hr.mono Dd) (aM (aI 1) (aM (cN fZ aL (aI 0)) aG))))),?_⟩;refine ⟨_,rfl,_,rfl,_,_,rfl,rfl,?_⟩;exact xK sy pt hW rfl q
theorem aC8(F:jA K "is_counts" "is_counts" RW f fd)(T:kY K mg c)(FQ28:gK dQ P w K mg base 1 "is_tuple_of" ["thing","many"] (kJ K))(FQ29:gK dQ P w K mg base 1 "is_whole" ["thing"] lU):dZ P w K mg base dQ 2 f fd ["faces","thing"] jM:=by
 refine F.oky aDK λvs H Q E h=>?_;unfold jM at h;obtain ⟨a,d,F,rfl,ha,hl,hF,q⟩:=h;refine ⟨rfl,λcdv A outer s hr=>?_⟩;refine ⟨_,(bE (cF (lH (bR FQ28 (hr.mono Dd) (aM (aI 1) (aM (aI 0) aG))) (mO (eR (FX rfl) (by rfl) T.b_all Kk (aM (fG (eA.of (psc:=bA RW) (N:=["faces","thing"]) (N':=["one"]) (js:=[]) Kk rfl rfl rfl) (jQ (aI 1)) (λ_ _ _ _=>eQ) (λ_ _ _ _=>(lH (bR FQ29 (hr.mono Dd) (aM (aI 0) aG)) (mO (jR WG (aI 0) aL (nomark _)))))) aG)))))),?_⟩;refine ⟨_,rfl,_,rfl,?_⟩;refine pV (eZ.of ha) (by rw [aA,hl]) ?_;refine ⟨_,rfl,?_⟩;refine mU ?_;refine ⟨_,rfl,a,rfl,⟨_,eZ.of ha⟩,?_⟩;refine iP (λi y _=>y=.bl true) (λ_ _ _ _ _ h=>h) (by rw [aA];omega) ha (λi y H' Q' hy s' k'=>?_) (λD ys H1 hD hD1 s1 hy hr1=>?_)
 ·rw [aE] at hy;obtain ⟨z,hz,rfl⟩:=eE.mp hy;refine ⟨_,rfl,?_⟩;refine pU ?_;refine ⟨_,rfl,?_⟩;refine mU ?_;refine ⟨_,rfl,_,_,rfl,rfl,?_⟩;refine k' _ H' (bC.refl _) ?_;show V.bl (decide (0<=(z:Int)))=V.bl true;rw [bV Oo]
 ·rw [qJ hr1] at hD1;refine rall hD1 ?_;rw [sY];exact q H1 s1
theorem aC7(F:jA K "is_entry" "is_entry" YG f fd)(T:kY K mg c)(FQ28:gK dQ P w K mg base 1 "is_tuple_of" ["thing","many"] (kJ K))(FQ23:gK dQ P w K mg base 2 "is_counts" ["faces","thing"] jM)(FQ18:gK dQ P w K mg base 6 "are_says" ["ways","thing"] (kO K)):dZ P w K mg base dQ 7 f fd ["faces","ways","thing"] (kN K):=by
 refine F.oky aDJ λvs H Q E h=>?_;unfold kN at h;obtain ⟨x,e,F,W,rfl,⟨b,cu,v,rfl,hb,hcu,sv⟩,ok,sy,hF,hW,q⟩:=h;refine ⟨rfl,λcdv A outer s hr=>?_⟩;refine ⟨_,(bE (cF (lH (bR FQ28 (hr.mono Dd) (aM (aI 2) (aM aL aG))) (lH (bR FQ23 (hr.mono Dd) (aM (aI 0) (aM (cH bU (aI 2) aL (λ_ _=>rfl)) aG))) (mO (bR FQ18 (hr.mono Dd) (aM (aI 1) (aM (cH bU (aI 2) aL (λ_ _=>rfl)) aG)))))))),?_⟩;refine ⟨_,rfl,?_⟩;refine pV (eZ.of hb) rfl ?_;refine ⟨_,rfl,?_⟩;refine mU ?_;refine ⟨_,rfl,_,rfl,?_⟩;refine tU hb rfl ?_;refine xJ hcu ok hF λH1 s1=>?_;refine ⟨_,rfl,?_⟩;refine mU ?_;refine ⟨_,rfl,_,rfl,?_⟩;refine tU (s1 _ _ hb) rfl ?_;exact zX (sv.t s1.t) sy hW λH2 s2=>q H2 (s1.trans s2)
theorem aC5(F:jA K "is_rule" "is_rule" MS f fd)(T:kY K mg c)(FQ24:gK dQ P w K mg base 7 "is_entry" ["faces","ways","thing"] (kN K))(FQ22:gK dQ P w K mg base 4 "counts_come_to" ["faces","table"] (lY K)):dZ P w K mg base dQ 8 f fd ["faces","ways","thing"] (lX K):=by
 refine F.oky aDH λvs H Q E h=>?_;unfold lX at h;obtain ⟨v,F,W,M,best,sy,R,rfl,⟨a,xs,rfl,ha,lx,rxs⟩,TG,RC,SD,hW,q⟩:=h;refine ⟨rfl,λcdv A outer s hr=>?_⟩;have f4:=TG.f4;have lr:(jS F M best).length<=400:=aQ (iV TG.f1).length_le TG.r;have lg:(AD F M best sy).length=(jS F M best).length:=by unfold AD;rw [aA]
 have ent:∀(i:Nat) (e:cS),(AD F M best sy)[i]?=some e->∃cc,(jS F M best)[i]?=some cc/\e=(cc,sy cc):=λi e he=>by
  unfold AD at he;rw [aE] at he;obtain ⟨cc,h1,h2⟩:=eE.mp he;exact ⟨cc,h1,h2.symm⟩
 refine ⟨_,(aS (gE (xD (tJ (rY (lF (eR (BD K) (by rfl) T.b_isinstance Kk (aM (aI 2) (aM (qG (v:=.ty "tuple") (u:=.type "tuple") rfl T.b_tuple Kk rfl) aG))))) (nI (rY (lF (eR (FX rfl) (by rfl) T.b_all Kk (aM (fG (eA.of (psc:=bA MS) (N:=["faces","ways","thing"]) (N':=["one","faces","ways"]) (js:=[0,1]) Kk rfl rfl rfl) (jQ (aI 2)) (λ_ _ _ _=>eQ) (λ_ _ _ _=>(bR FQ24 (hr.mono Dd) (aM (aI 1) (aM (aI 2) (aM (aI 0) aG)))))) aG))))))) (bE (cF pM)) dY)
  (bE (cF (jR (FJ hr.units) (fG (eA.of (psc:=bA MS) (N:=["faces","ways","thing"]) (N':=["entry"]) (js:=[]) Kk rfl rfl rfl) (jQ (aI 2)) (λ_ _ _ _=>eQ) (λ_ _ _ _=>(cH (lE K) (aI 0) aL (λ_ _=>rfl)))) (bR FQ22 (hr.mono Dd) (aM (aI 0) (aM (jC (DP hr.units rfl) (by rfl) T.b_dict Kk (aM (aI 2) aG)) aG))) (nomark _))))),?_⟩
 refine ⟨_,rfl,?_⟩;refine MW (eZ.of ha) ?_;refine ⟨_,rfl,?_⟩;refine oN ?_;refine ⟨_,rfl,a,rfl,⟨_,eZ.of ha⟩,?_⟩;refine iP (λi y _=>y=.bl true) (λ_ _ _ _ _ h=>h) Oo ha (λi y H' Q' hy s' k'=>?_) (λD ys H1 hD hD1 s1 hy hr1=>?_)
 ·obtain ⟨e,he,re⟩:=rxs i y hy;obtain ⟨cc,hcc,rfl⟩:=ent i e he;have hm:=aZ hcc;refine ⟨_,rfl,_,rfl,_,rfl,?_⟩;exact zW (re.t s'.t) (uM TG.f1 hm).1 (SD cc hm) Oo hW λH2 s2=>k' _ H2 s2 rfl
 ·rw [qJ hr1] at hD1;refine rall hD1 ?_;rw [sY];refine ⟨_,rfl,?_⟩;refine oN ?_;have ha1:=s1 _ _ ha;refine ⟨_,rfl,a,rfl,⟨_,eZ.of ha1⟩,?_⟩;refine iP (λi y H'=>∃cc,(jS F M best)[i]?=some cc/\cO H' (fW cc) y) (λi y H1 H2 s ⟨e,h1,h2⟩=>⟨e,h1,h2.flat s (fO _)⟩) Oo ha1 (λi y H' Q' hy2 s' k'=>?_) (λD2 ys2 H2 hD2 e2 s2 hy2 hr2=>?_)
  ·obtain ⟨e,he,b,cu,v,rfl,hb,hcu,sv⟩:=rxs i y hy2;obtain ⟨cc,hcc,rfl⟩:=ent i e he;refine ⟨_,rfl,?_⟩;refine tU (s' _ _ (s1 _ _ hb)) rfl ?_;exact k' _ H' (bC.refl _) ⟨cc,hcc,sU (s' _ _ (s1 _ _ hcu))⟩
  ·have s12:=s1.trans s2;have rx2:∀(i:Nat) (x:V),xs[i]?=some x->∃cc,(jS F M best)[i]?=some cc/\QT K H2 (cc,sy cc) x:=λi x hx=>by
    obtain ⟨e,he,re⟩:=rxs i x hx;obtain ⟨cc,hcc,rfl⟩:=ent i e he;exact ⟨cc,hcc,re.t s12.t⟩
   have prs:∀(cs:List (List Nat)) (xs:List V),xs.length=cs.length->(∀(i:Nat) (x:V),xs[i]?=some x->∃cc,cs[i]?=some cc/\QT K H2 (cc,sy cc) x)->∃kvs:List (List dP × V),Paired (wX H2) xs kvs/\kvs.map (·.1)=cs.map (λcc=>kT (ci cc))/\(cs.Nodup->∀cc∈cs,∃v,dU kvs (kT (ci cc))=some v/\DX K H2 (sy cc) v):=λcs=>by
    induction cs with
    | nil =>
     intro xs hl _;rw [List.length_eq_zero_iff.mp hl];exact ⟨[],.nil,rfl,λ_ cc h=>by cases h⟩
    | cons d cs ih =>
     intro xs hl hx;cases xs with
     | nil=>cases hl
     | cons x xs =>
      obtain ⟨cc,h1,b,cu,z,rfl,hb,hcu,hz⟩:=hx 0 x rfl;cases (show d=cc by simpa using h1);obtain ⟨kvs,g1,g2,g3⟩:=ih xs (by simpa using hl) λi y hy=>by
       obtain ⟨g,k1,k2⟩:=hx (i+1) y (by simpa using hy);exact ⟨g,by simpa using k1,k2⟩
      refine ⟨(kT (ci d),z)::kvs,.cons ⟨b,cu,rfl,hb,?_⟩ g1,by rw [aO,aO,g2],λnd cc hc=>?_⟩
      ·show H2 cu=some (.tup ((kT (ci d)).map kV));rw [qA,iY];exact hcu
      ·rw [List.nodup_cons] at nd;rcases aT.mp hc with rfl | hc
       ·exact ⟨z,fH rfl,hz⟩
       ·obtain ⟨v,k1,k2⟩:=g3 nd.2 cc hc;refine ⟨v,?_,k2⟩;rw [fI (show ¬kT (ci d)=kT (ci cc) from λq=>nd.1 (by rw [iL (jT q)];exact hc))];exact k1
   obtain ⟨kvs,p1,p2,p3⟩:=prs (jS F M best) xs Oo rx2;have ndr:(jS F M best).Nodup:=(AF F f4 M TG.m5).sublist (iV TG.f1);have p3:=p3 ndr;have lkv:kvs.length=(jS F M best).length:=by have:=congrArg List.length p2;rwa [aA,aA] at this
   refine ⟨_,rfl,_,rfl,?_⟩;refine rdcp (s12 _ _ ha) p1 (by rw [p2];exact Kt.hU ndr λx _ y _ e=>iL (jT e)) Oo λD3 H3 hD3 e3 s3=>?_;refine vG (K:=K) ⟨kvs,e3,λcc hc=>by
    obtain ⟨v,k1,k2⟩:=p3 cc (RC cc hc);exact ⟨v,k1,k2.t s3.t⟩⟩ TG λD4 H4 s4 hD4 L4=>?_
   obtain ⟨zs,e4,r4⟩:=L4;have rl:bD H4 ((jS F M best).map fW) ys2:=bD.ofIdx (by rw [hy2,lx,lg,aA]) λi y hi=>by
    obtain ⟨cc,h1,h2⟩:=hr2 i y hi;exact ⟨fW cc,by rw [aE,h1];rfl,(h2.same s3).same s4⟩
   refine reD (d:=.list ((jS F M best).map fW)) (d':=.list ((jS F M best).map fW)) (cO.lst (s4 _ _ (s3 _ _ e2)) rl) (cO.lst e4 r4) (wP _) (wP _) ?_;rw [UM,Bool.true_beq];exact q H4 ((s12.trans s3).trans s4)
end
abbrev SB(e:cS):PyData:=.tuple [Kw.fW e.1,sE e.2]
theorem aBu{K:PySem.W.Frag}{H:Hp}{fs:List Fr}{z:V}(h:DX K H fs z):iE K H (sE fs) z:=by
 obtain ⟨sa,sx,rfl,hs,r⟩:=h;have all:∀(fs:List Fr) (xs:List V),BL K H fs xs->fP K H (fs.map iT) xs:=λfs=>by
  induction fs with
  | nil =>
   intro xs r;have:=r.len;rw [List.length_nil] at this;rw [List.length_eq_zero_iff.mp this];unfold fP;rfl
  | cons f fs ih =>
   intro xs r;cases xs with
   | nil=>have:=r.len;cases this
   | cons x xs =>
    obtain ⟨g,h1,h2⟩:=r.at_ 0 x rfl;cases (show f=g by simpa using h1);rw [aO];unfold fP;exact ⟨x,xs,rfl,h2.v.k,ih xs ⟨by have:=r.len;simpa using this,λi y hy=>by
     obtain ⟨g,k1,k2⟩:=r.at_ (i+1) y (by simpa using hy);exact ⟨g,by simpa using k1,k2⟩⟩⟩
 unfold iE;exact ⟨sa,sx,rfl,eZ.of hs,all fs sx r⟩
theorem qY{K:PySem.W.Frag}{H:Hp}{es:List cS}{v:V}(h:uY K H es v):iE K H (.tuple (es.map SB)) v:=by
 obtain ⟨a,xs,rfl,ha,lx,rxs⟩:=h;have all:∀(es:List cS) (xs:List V),xs.length=es.length->(∀(i:Nat) (x:V),xs[i]?=some x->∃e,es[i]?=some e/\QT K H e x)->fP K H (es.map SB) xs:=λes=>by
  induction es with
  | nil =>
   intro xs hl _;rw [List.length_eq_zero_iff.mp hl];unfold fP;rfl
  | cons e es ih =>
   intro xs hl hx;cases xs with
   | nil=>cases hl
   | cons x xs =>
    obtain ⟨e',h1,b,cu,z,rfl,hb,hcu,hz⟩:=hx 0 x rfl;cases (show e=e' by simpa using h1);rw [aO];unfold fP;refine ⟨_,xs,rfl,?_,ih xs (by simpa using hl) λi y hy=>?_⟩
    ·refine iE.tup (eZ.of hb) ?_;unfold fP;refine ⟨_,_,rfl,?_,?_⟩
     ·refine iE.tup (eZ.of hcu) ?_;have:=fP.ints (K:=K) (H:=H) (ci e.1);rw [iY] at this;rw [show (e.1.map λ(n:Nat)=>PyData.int (n:Int))=(ci e.1).map PyData.int by unfold ci;rw [List.map_map];rfl];exact this
     ·unfold fP;exact ⟨z,[],rfl,aBu hz,by unfold fP;rfl⟩
    ·obtain ⟨g,k1,k2⟩:=hx (i+1) y (by simpa using hy);exact ⟨g,by simpa using k1,k2⟩
 exact iE.tup (eZ.of ha) (all es xs lx rxs)
theorem nE.fr'(f:Fr):nE 2 (iT f):=nE.tup λd hd'=>by
 rcases aT.mp hd' with rfl | hd'
 ·exact nE.int _
 ·rw [bQ.mp hd'];exact nE.int _
theorem XR{n m:Nat}{d:PyData}(h:nE n d)(hm:n<=m):nE m d:=⟨h.1,aQ h.2 hm⟩
theorem sG(es:List cS):SeqAt.shaped (.tuple (es.map SB))=true:=(nE.tup (n:=4) λd hd'=>by
 obtain ⟨e,_,rfl⟩:=aD.mp hd';refine nE.tup (n:=3) λd hd'=>?_;rcases aT.mp hd' with rfl | hd'
 ·exact XR (nE.tup (n:=1) λx hx=>by obtain ⟨i,_,rfl⟩:=aD.mp hx;exact nE.int _) Dd
 ·rw [bQ.mp hd'];exact nE.tup (n:=2) λx hx=>by obtain ⟨i,_,rfl⟩:=aD.mp hx;exact nE.fr' _).ok
theorem OM:∀fs:List Fr,PyData.hasDictAll (fs.map iT)=false
 | []=>rfl
 | f::fs=>by show (PyData.hasDict (iT f) || PyData.hasDictAll (fs.map iT))=false;rw [OM fs];rfl
theorem HS:∀c:List Nat,PyData.hasDictAll (c.map λ(n:Nat)=>PyData.int (n:Int))=false
 | []=>rfl
 | _::c=>by show (false || _)=false;rw [Bool.false_or];exact HS c
theorem HU:∀es:List cS,PyData.hasDictAll (es.map SB)=false
 | []=>rfl
 | e::es=>by
  show ((PyData.hasDictAll (e.1.map λ(n:Nat)=>PyData.int (n:Int)) || (PyData.hasDictAll (e.2.map iT) || false)) || PyData.hasDictAll (es.map SB))=false;rw [HS,OM,HU es];rfl
structure Sw(n w:Nat)(d:PyData):Prop where
 sh:PyData.showable d=true
 nd:PyData.hasDict d=false
 dp:PyData.depth d<=n
 wd:QO d<=w
theorem Sw.all{n w:Nat}:∀{ds:List PyData},(∀d∈ds,Sw n w d)->PyData.showableAll ds=true/\PyData.hasDictAll ds=false/\PyData.depthAll ds<=n/\AB ds<=ds.length*(w+2)
 | [],_=>⟨rfl,rfl,cC _,cC _⟩
 | d::ds,h=>by
  obtain ⟨a,b,c,e⟩:=h d (aH ..);obtain ⟨a',b',c',e'⟩:=Sw.all λx hx=>h x (aF d hx);refine ⟨?_,?_,?_,?_⟩
  ·show (PyData.showable d&&PyData.showableAll ds)=true;rw [a,a'];rfl
  ·show (PyData.hasDict d || PyData.hasDictAll ds)=false;rw [b,b'];rfl
  ·show max (PyData.depth d) (PyData.depthAll ds)<=n;omega
  ·show QO d+2+AB ds<=(ds.length+1)*(w+2);rw [Nat.add_mul,Nat.one_mul];omega
theorem Sw.tup{n w k:Nat}{ds:List PyData}(h:∀d∈ds,Sw n w d)(hl:ds.length<=k):Sw (n+1) (k*(w+2)+4) (.tuple ds):=by
 obtain ⟨a,b,c,e⟩:=Sw.all h;refine ⟨a,b,by show PyData.depthAll ds+1<=n+1;omega,?_⟩;show AB ds+4<=_;have:=dE (w+2) hl;omega
theorem Sw.le{n w m v:Nat}{d:PyData}(h:Sw n w d)(hn:n<=m:=by decide)(hw:w<=v:=by decide):Sw m v d:=⟨h.sh,h.nd,aQ h.dp hn,aQ h.wd hw⟩
theorem Sw.int{x:Int}{k:Nat}(h:x.natAbs<2^k)(hk:k<=1900:=by decide):Sw 1 1921 (.int x) :=
 ⟨RK (n:=1900) (aV h (bG Dd hk)),rfl,by simp [PyData.depth],aJ _⟩
theorem Sw.fr{f:Fr}(h:lM 1900 f):Sw 2 3850 (iT f):=Sw.tup (k:=2) (n:=1) (w:=1921) (λd hd=>by
 simp only [aT,List.not_mem_nil,or_false] at hd;rcases hd with rfl | rfl
 ·exact Sw.int h.1
 ·exact Sw.int h.2) (aJ _)
theorem Sw.frs{fs:List Fr}{k:Nat}(h:∀f∈fs,lM 1900 f)(hl:fs.length<=k):Sw 3 (k*3852+4) (sE fs):=Sw.tup (n:=2) (w:=3850) (λd hd=>by
 obtain ⟨f,hf,rfl⟩:=aD.mp hd;exact Sw.fr (h f hf)) (by rw [aA];exact hl)
theorem Sw.cts{c:List Nat}(h:∀x∈c,x<1000){k:Nat}(hl:c.length<=k):Sw 2 (k*1923+4) (fW c):=Sw.tup (n:=1) (w:=1921) (λd hd=>by
 obtain ⟨x,hx,rfl⟩:=aD.mp hd;exact Sw.int (k:=10) (by have:=h x hx;show (x:Int).natAbs<1024;omega)) (by rw [aA];exact hl)
theorem rrW{H:Hp}{Q:VK}{x:V}{d:PyData}{n w:Nat}(r:cO H d x)(h:Sw n w d)(hn:n<=60)(hw:w<=16000000)(q:Q (.str d.shown) H):CH [x] H Q :=
 rrI r h.sh h.nd (aQ h.dp hn) (aQ (vK _ h.sh h.nd) (aQ h.wd (aQ hw Dd))) q
end Kw
namespace Kt
open PySem L2 Mf Kw
abbrev RU:Stmt:=(top 58)
theorem wU:bZ ["_law_script","_law_k","_law_tape_here","_law_faces","_law_ways","_law_one","_law_other","_law_part","_law_share","_law_rest","_law_found"] ["_law_script"] (bA RU):=⟨rfl,rfl,rfl,Kk,rfl,Kk,Kk⟩
theorem NQ{X:Cx}:mN X (compareOp .IsNot) (λx y H Q=>∃a b,x=.bl a/\y=.bl b/\Q (.bl (!(a == b))) H):=by
 intro pins s σ H x y v u Q I rx ry h;obtain ⟨a,b,rfl,rfl,q⟩:=h;cases rx;cases ry;exact PyProof.Rows.isnot_bool ⟨.bl _,H,I,rfl,q⟩
theorem HJ:∀{c:List Nat}{x:Nat},x∈c->x<=c.sum
 | a::c,x,h=>by
  rw [List.sum_cons];rcases aT.mp h with rfl | h
  ·omega
  ·have:=HJ h;omega
theorem FD(es:List cS):PyData.eqv (.tuple (es.map SB)) (.tuple (es.map SB))=true:=wN _ (HU es)
theorem OP{f:Fr}(h:eM f):dL (rv f)=f:=fU (bL _) h (by rw [dG])
theorem aAG{P C:Nat}{y:Rat}(hy:Qn P C y)(hp:0<P)(hy0:0<y):∃Y:Nat,0<Y/\Y<=C*P/\∀{x:Rat},Qn P C x->0<=x->x<=y->Fn Y 1 (dL (x/y)):=by
 obtain ⟨Y,eY,bY⟩:=hy;have pp:(0:Rat)<(P:Rat):=by exact_mod_cast hp
 have Yp:0<Y:=by
  have:(0:Rat)<(Y:Rat):=by rw [<-eY];exact Rat.mul_pos hy0 pp
  exact_mod_cast this
 refine ⟨Y.toNat,Oo,Oo,λ{x} hx h0 hxy=>?_⟩;obtain ⟨X,eX,bX⟩:=hx;have X0:0<=X:=by
  have:(0:Rat)<=(X:Rat):=by rw [<-eX];exact cL h0 (Rat.le_of_lt pp)
  exact_mod_cast this
 have XY:X<=Y:=by
  have:(X:Rat)<=(Y:Rat):=by rw [<-eX,<-eY];exact Rat.mul_le_mul_of_nonneg_right hxy (Rat.le_of_lt pp)
  exact_mod_cast this
 refine Qn.fq ⟨X,?_,Oo⟩;have e1:((Y.toNat:Nat):Rat)=(Y:Rat):=by
  have:((Y.toNat:Nat):Int)=Y:=Oo;rw [<-kR,this]
 rw [e1,<-eX,<-eY,Rat.div_def];grind
section
variable{F W M N B Ns Ds:Nat}{es fs:List cS}{s:Rat}
theorem aAb(I:fE F W M es fs s)(T:mJ F M (mB F es fs s) (mS F W es fs s) (mR F es fs s))(RA:pQ F W M N B Ns es)(RB:pQ F W M N B Ns fs)(hs:Qn Ds 1 s)(ds:0<Ds)(few:(rise F M).length<=64)(hz:Ds*N*Ns^M<2^2000)(hb:2*B<=2^100)(hz2:2*B*(Ds*N)<2^1900):∀c∈jS F M (mB F es fs s),IL W (mS F W es fs s c):=λc hc=>by
 have RM:=I.ru T RA RB hs ds few hz hb;have hmem:(c,mS F W es fs s c)∈mE F W M es fs s:=aD.mpr ⟨c,hc,rfl⟩;have hR:mR F es fs s c:=T.ruC hc;have ef:=I.flow T c;have hp:0<mA F es fs s c:=by
  have h1:=I.ann c;have h2:mA F es fs s c≠0:=hR;grind
 have q1:=RM.fl _ hmem;have q1:Qn (Ds*N) (2*B) (mA F es fs s c):=by rw [<-ef];exact q1
 obtain ⟨Y,y0,y1,hy⟩:=aAG q1 RM.n0 hp;refine ⟨RM.sy _ hmem,Y,y0,bB y1 hz2,λf hf=>?_⟩;obtain ⟨j,hj,rfl⟩:=aD.mp hf;have hj:=cG.mp hj;have q2:=RM.fs _ hmem j;have q2:Qn (Ds*N) (2*B) (mX F es fs s c j):=by
  rw [<-I.mul hR hj,<-ef];exact q2
 refine hy q2 (I.xnn c j) ?_;rw [<-I.xsum c];have h1:=vC (mX F es fs s c) hj;have h2:0<=fJ (1+W) (λi=>if i=j then 0 else mX F es fs s c i):=zU λi _=>by
  split
  ·exact Rat.le_refl
  ·exact I.xnn _ _
 grind
end
theorem JL{F W m:Nat}{es:List jB}(R:iC F W m es):((es.map cv).map λe=>((e.1.sum:Nat):Int)::ci e.1).Pairwise λa b=>hV a b=true:=by
 rw [List.map_map,List.pairwise_map];have:=List.pairwise_map.mp R.rise;refine this.imp_of_mem λ{a b} ha hb h=>?_;have na:=(R.each a ha).2.1;have nb:=(R.each b hb).2.1;show hV ((((a.1.map Int.toNat).sum:Nat):Int)::ci (a.1.map Int.toNat)) ((((b.1.map Int.toNat).sum:Nat):Int)::ci (b.1.map Int.toNat))=true;rw [kB na,kB nb,rP na,rP nb,pG];rcases h with h | ⟨h1,h2⟩
 ·rw [if_neg Oo];exact bV h
 ·rw [if_pos h1];exact h2
theorem AQ{F W M m N B Ns:Nat}{gs:List jB}{es fs:List cS}{s:Rat}(I:fE F W M es fs s)(T:mJ F M (mB F es fs s) (mS F W es fs s) (mR F es fs s))(R:iC F W m gs)(RG:pQ F W M N B Ns (gs.map cv))(f4:F<=4)(m4:M<=4)(ha:∀c,mA F es fs s c=bJ F (gs.map cv) c)(hx:∀c j,mX F es fs s c j=xF F (gs.map cv) c j):mE F W M es fs s=gs.map cv:=by
 have kinj:∀a b:List Nat,(((a.sum:Nat):Int)::ci a)=(((b.sum:Nat):Int)::ci b)->a=b:=λa b e=>by
  injection e with _ e2;exact iL e2
 have hk:jS F M (mB F es fs s)=(gs.map cv).map (·.1):=by
  refine pY (f:=λc:List Nat=>((c.sum:Nat):Int)::ci c) kinj (rC ((CD F f4 M m4).sublist ((iV I.f1).map _)) ?_ λx=>?_)
  ·have:=JL R;rw [List.map_map];exact this
  ·have hmem:∀c,c∈jS F M (mB F es fs s)↔c∈(gs.map cv).map (·.1):=λc=>by
    rw [<-pZ (W:=W),I.mem T];unfold mR;rw [ha];constructor
    ·intro h;exact bP λq=>h (oI RG.rl q)
    ·intro h;obtain ⟨e,he,rfl⟩:=aD.mp h;have:=RG.rl.posf he;grind
   rw [aD,aD];exact ⟨λ⟨c,h,e⟩=>⟨c,(hmem c).mp h,e⟩,λ⟨c,h,e⟩=>⟨c,(hmem c).mpr h,e⟩⟩
 unfold mE AD;rw [hk,List.map_map];refine (dN (g:=id) λe he=>?_).trans (List.map_id _);show (e.1,mS F W es fs s e.1)=e;have hp:=RG.rl.posf he;have sg:=RG.sy e he;have:mS F W es fs s e.1=e.2:=by
  unfold mS;refine List.ext_getElem? λj=>?_;rw [aE];by_cases hj:j<1+W
  ·have hj2:j<e.2.length:=by rw [sg.len];exact hj
   rw [bN hj,aC hj2];show some (dL (mX F es fs s e.1 j/mA F es fs s e.1))=some e.2[j];rw [ha,hx,nH RG.rl he,EF (aC hj2)];have:bJ F (gs.map cv) e.1*rv e.2[j]/bJ F (gs.map cv) e.1=rv e.2[j]:=by rw [Rat.div_def];grind
   rw [this,OP (sg.at_ _ (List.getElem_mem hj2)).1]
  ·rw [bO (by rw [bK];omega),bO (by rw [sg.len];omega)];rfl
 rw [this]
theorem common{F W m:Nat}(Z:jV F W m):∃M,m<=M/\jV F W M/\M<=4/\(rise F M).length<=20/\1<=F/\F<=4/\W<=4:=by
 have hw:=Z.w;rcases Z.f with ⟨rfl,h⟩ | ⟨rfl,h⟩ | ⟨rfl,h⟩
 ·exact ⟨4,h,⟨hw,.inl ⟨rfl,Dd⟩⟩,Dd,Kk,Dd,Dd,hw.2⟩
 ·exact ⟨3,h,⟨hw,.inr (.inl ⟨rfl,Dd⟩)⟩,Dd,Kk,Dd,Dd,hw.2⟩
 ·exact ⟨2,h,⟨hw,.inr (.inr ⟨rfl,Dd⟩)⟩,Dd,Kk,Dd,Dd,hw.2⟩
theorem pw4{M:Nat}(h:M<=4):LN^M<=LN^4:=bG Dd h
theorem zz{D M:Nat}(h:M<=4)(hD:D<=1000):D*LN^5*LN^M<2^2000:=by
 have h1:=Nat.mul_le_mul (dE (LN^5) hD) (pw4 h);have h2:1000*LN^5*LN^4<2^2000:=Kk;exact bB h1 h2
theorem zd{D:Nat}(hD:D<=1000):LN^5*D<2^2500:=bB (dM _ hD) Kk
theorem zs{D:Nat}(hD:D<=1000):2*5^20*(D*LN^5)<2^1900:=bB (dM _ (dE _ hD)) Kk
theorem aBs{F W M:Nat}{best:List Nat->Nat}{sy:List Nat->List Fr}(f1:1<=F)(f4:F<=4)(m4:M<=4)(w4:W<=4)(few:(rise F M).length<=20)(h:∀c∈jS F M best,IL W (sy c)):Sw 5 1000000 (.tuple ((AD F M best sy).map SB)):=by
 refine Sw.le (Sw.tup (n:=4) (w:=40000) (k:=20) (λd hd=>?_) ?_) Dd Dd
 ·obtain ⟨e,he,rfl⟩:=aD.mp hd;obtain ⟨c,hc,rfl⟩:=aD.mp he;obtain ⟨l1,l2⟩:=uM f1 hc;have sd:=h c hc;obtain ⟨Y,y0,y1,hy⟩:=sd.d;refine Sw.le (Sw.tup (n:=3) (w:=19264) (k:=2) (λd hd=>?_) (aJ _)) Dd Dd;rcases aT.mp hd with rfl | hd
  ·refine Sw.le (Sw.cts (k:=4) (λx hx=>?_) (by show c.length<=4;omega)) Dd Dd;have:x<=c.sum:=HJ hx;omega
  ·rw [bQ.mp hd];refine Sw.le (Sw.frs (k:=5) (λf hf=>?_) (by rw [sd.g.len];omega)) Dd Dd;obtain ⟨h1,h2⟩:=(hy f hf).num y0;exact ⟨Oo,Oo⟩
 ·rw [aA];unfold AD;rw [aA];exact aQ (iV f1).length_le few
theorem YX{K:PySem.W.Frag}{H:Hp}{Q:VK}{x:V}{d:PyData}{n w:Nat}(r:iE K H d x)(h:Sw n w d)(hn:n<=60)(hw:w<=16000000)(q:Q (.str d.shown) H):vP K [x] H Q :=
 rrK r h.sh h.nd (aQ h.dp hn) (aQ (vK _ h.sh h.nd) (aQ h.wd (aQ hw Dd))) q
@[irreducible] def pB(K:PySem.W.Frag)(tA:Addr):Sp:=λvs H Q _=>∃(a:Addr) (ns:List Int),vs=[.ref a]/\fS K H a (ns.map V.int)/\ns.length<=63/\iZ H tA KK KL/\∀H',Q (.bl true) H'
theorem MP{p d:Int}(h0:0<=p)(h1:p<=d)(hd:0<d)(h20:d<=20):Qn d.toNat 1 (rv (lw p d))/\0<=rv (lw p d)/\rv (lw p d)<=1/\(lw p d).2.natAbs<=20/\0<=(lw p d).1/\(lw p d).1<=(lw p d).2:=by
 have f:Fn d.natAbs 1 (lw p d):=Fn.of hd Oo;have e:d.natAbs=d.toNat:=Oo;have n0:0<d.natAbs:=Oo;have le:=Fn.le1 f n0;obtain ⟨g1,g2⟩:=f.num n0;have nn:0<=(lw p d).1:=Int.ediv_nonneg h0 (Int.natCast_nonneg _);have low:=f.low;refine ⟨by rw [<-e];exact f.q,WA low nn,?_,Oo,nn,le⟩;have e1:=lD low.pos;have dp:(0:Rat)<((lw p d).2:Rat):=by exact_mod_cast low.pos
 have h2:((lw p d).1:Rat)<=((lw p d).2:Rat):=by exact_mod_cast le
 refine bP λz=>?_;have z:1<rv (lw p d):=by grind
 have:=Rat.mul_lt_mul_of_pos_right z dp;grind
theorem SC{f:Fr}(h:eM f):lw (f.2-f.1) f.2=dL (1-rv f):=by
 refine fU (gA h.pos) (bL _) ?_;rw [qW h.pos,dG,Rat.intCast_sub,Rat.div_def];have e:=lD h.pos;have:=gU h.pos;grind
section
theorem aC1{f tA:Addr}{fd:FuncData}(F:jA K "law" "law" RU f fd)(T:kY K mg c)
  (FQ14:gK dQ P w K mg base 1 "_law_tape" ["_law_script","_law_at"] (qM K)) (FQ7:gK dQ P w K mg base 1 "_law_pick" ["_law_tape_here","_law_many"] jX) (FQ6:gK dQ P w K mg base 5 "_law_pair" ["_law_tape_here","_law_kinds"] oB) (FQ4:gK dQ P w K mg base 1 "_law_frac" ["_law_n","_law_d"] iF)
  (FQ33:gK dQ P w K mg base 7 "mixed" ["one","other","share"] (nY K)) (FQ3:gK dQ P w K mg base 8 "_law_due" ["_law_faces","_law_parts"] (pA K tA)) (FQ26:gK dQ P w K mg base 8 "is_rule" ["faces","ways","thing"] (lX K)):dZ P w K mg base dQ 9 f fd ["_law_script"] (pB K tA):=by
 refine F.oky wU λvs H Q E h=>?_;unfold pB at h;obtain ⟨a,ns,rfl,hS,hl,TO,k⟩:=h;refine ⟨rfl,λcdv A outer s hr=>?_⟩;refine ⟨_,(aS (gS PassesOwn.never rfl (fT rfl T.b_range (aM (cN fZ aL (eR jU (by rfl) T.b_len Kk (aM (lP RJ (aI 0) oW (oV aL)) aG))) aG)) (dF (i:=1) wU.nd rfl (Or.inl rfl)) (aS (bS (i:=2) wU.nd rfl (Or.inl rfl) (bR FQ14 (hr.mono Dd) (aM (aI 0) (aM (aI 1) aG))))
  (aS (zM (bR FQ6 (hr.mono Dd) (aM (aI 2) (aM aL aG))) (nJ rfl (eF (dF (i:=3) wU.nd rfl (Or.inl rfl)) (eF (dF (i:=4) wU.nd rfl (Or.inl rfl)) (eF (dF (i:=5) wU.nd rfl (Or.inl rfl)) (eF (dF (i:=6) wU.nd rfl (Or.inl rfl)) lA))))))
  (aS (bS (i:=7) wU.nd rfl (Or.inl rfl) (cH bU (fQ (aM aL (aM aL (aM aL (aM aL (aM aL (aM aL aG))))))) (bR FQ7 (hr.mono Dd) (aM (aI 2) (aM aL aG))) (λ_ _=>rfl)))
  (aS (bS (i:=8) wU.nd rfl (Or.inl rfl) (bR FQ4 (hr.mono Dd) (aM (aI 7) (aM (cN fZ (cN fZ (aI 7) (cH bU (fQ (aM aL (aM aL (aM aL (aM aL aG))))) (bR FQ7 (hr.mono Dd) (aM (aI 2) (aM aL aG))) (λ_ _=>rfl))) (jC yV (by rfl) T.b_int Kk (aM (jR nB (aI 7) aL (nomark _)) aG))) aG))))
  (aS (bS (i:=9) wU.nd rfl (Or.inl rfl) (bR FQ4 (hr.mono Dd) (aM (cN AL (cH bU (aI 8) aL (λ_ _=>rfl)) (cH bU (aI 8) aL (λ_ _=>rfl))) (aM (cH bU (aI 8) aL (λ_ _=>rfl)) aG))))
  (aS (bS (i:=10) wU.nd rfl (Or.inl rfl) (bR FQ33 (hr.mono Dd) (aM (aI 5) (aM (aI 6) (aM (aI 8) aG)))))
  (aS (gE (eD HE (eR (wS K hr.gd hr.units) (by rfl) T.b_repr Kk (aM (aI 10) aG)) (eR (UW hr.gd hr.units) (by rfl) T.b_repr Kk (aM (bR FQ3 (hr.mono Dd) (aM (aI 3) (aM (fQ (aM (dS (aM (aI 5) (aM (aI 8) aG))) (aM (dS (aM (aI 6) (aM (aI 9) aG))) aG))) aG))) aG)) (nomark _)) (bE (cF pM)) dY)
  (aS (gE (oU (xD (tJ (eD NQ (bR FQ26 (hr.mono Dd) (aM (aI 3) (aM (aI 4) (aM (aI 10) aG)))) pM (nomark _)) (nI (eD HE (eR (wS K hr.gd hr.units) (by rfl) T.b_repr Kk (aM (bR FQ33 (hr.mono Dd) (aM (aI 6) (aM (aI 5) (aM (aI 9) aG)))) aG)) (eR (wS K hr.gd hr.units) (by rfl) T.b_repr Kk (aM (aI 10) aG)) (nomark _)))))) (bE (cF pM)) dY)
  (aS (gE (oU (xD (tJ (eD (AM K hr.units) (bR FQ33 (hr.mono Dd) (aM (aI 5) (aM (aI 6) (aM (dS (aM aL (aM aL aG))) aG)))) (aI 5) (nomark _)) (nI (eD (AM K hr.units) (bR FQ33 (hr.mono Dd) (aM (aI 5) (aM (aI 6) (aM (dS (aM aL (aM aL aG))) aG)))) (aI 6) (nomark _)))))) (bE (cF pM)) dY)
  (bE (gE (eD (AM K hr.units) (bR FQ33 (hr.mono Dd) (aM (aI 5) (aM (aI 5) (aM (aI 8) aG)))) (aI 5) (nomark _)) (bE (cF pM)) dY))))))))))))
  (bE (cF pM))),?_⟩
 refine ⟨_,rfl,_,rfl,a,_,rfl,hS,λq1 h1=>?_⟩;refine rlL bH ?_;have s1:=bC.upd (o:=.lst (oQ (ns.map V.int) none (some 2))) h1;have l19:(oQ (ns.map V.int) none (some 2)).length<=63:=by
  rw [show (some (2:Int))=some ((2:Nat):Int) from rfl,IE,dC,aA];omega
 generalize upd H q1 (.lst (oQ (ns.map V.int) none (some 2)))=H0 at s1;generalize (oQ (ns.map V.int) none (some 2)).length=n0 at l19;refine ⟨_,_,rfl,rfl,_,rfl,Oo,Oo,?_⟩;obtain ⟨ps0,hps0⟩:=TO.at_;refine pH (λi σ H'=>∃o1 o2 o3 o4 o5 o6 o7 o8 o9 o10:Option V,σ=[some (.ref a),o1,o2,o3,o4,o5,o6,o7,o8,o9,o10]/\aU tA H H'/\iZ H' tA KK KL) ⟨_,_,_,_,_,_,_,_,_,_,rfl,s1.but,TO.same s1⟩ ?_ ?_
 ·rintro i σ H1 hi ⟨o1,o2,o3,o4,o5,o6,o7,o8,o9,o10,rfl,S1,TO1⟩;refine ⟨_,rfl,_,rfl,?_⟩;refine JC (fS.butT S1 hps0 hS) hl Oo λp H2 T2 s2 hp2=>?_;refine ⟨_,rfl,?_⟩;refine ET (n:=1000000) (T2.less Oo) λv3 x y es fs nF nW m H3 T3 b3 e3 Z rx ry R1 R2=>?_;refine ⟨v3,_,rfl,eZ.of e3,rfl,?_⟩;refine ⟨_,_,rfl,_,_,rfl,_,_,rfl,_,_,rfl,rfl,?_⟩;obtain ⟨m',hm',R2⟩:=R2;obtain ⟨M,hmM,ZM,hM4,few,f1,f4,w4⟩:=common Z;refine xP (by show 6<=64;decide) λc4 G4 hc4 g4 u4=>?_;refine ⟨_,rfl,?_⟩;refine eO (n:=900000) ((T3.same u4).less Oo) Dd Kk λz G5 z0 z1 T5 b5=>?_;obtain ⟨mz,rfl⟩:∃m:Nat,z=(m:Int):=⟨z.toNat,Oo⟩;have np4:c4≠p:=T3.ne hc4;obtain ⟨pp,hpp,pp0,pp7⟩:∃pp:Int,([.int 0,.int 1,.int 1,.int 2,.int 5,.int 7]:List V)[mz]?=some (.int pp)/\0<=pp/\pp<=7:=by
   rcases (show mz=0\/mz=1\/mz=2\/mz=3\/mz=4\/mz=5 by omega) with rfl | rfl | rfl | rfl | rfl | rfl
   ·exact ⟨0,rfl,Dd,Dd⟩
   ·exact ⟨1,rfl,Dd,Dd⟩
   ·exact ⟨1,rfl,Dd,Dd⟩
   ·exact ⟨2,rfl,Dd,Dd⟩
   ·exact ⟨5,rfl,Dd,Dd⟩
   ·exact ⟨7,rfl,Dd,Dd⟩
  refine ixL (b5.at np4 g4) (iB hpp) ?_;refine ⟨_,rfl,_,rfl,?_⟩;refine xP (by show 4<=64;decide) λc6 G6 hc6 g6 u6=>?_;refine ⟨_,rfl,?_⟩;refine eO (n:=800000) ((T5.same u6).less Oo) Dd Kk λz G7 z0 z1 T7 b7=>?_;obtain ⟨mt,rfl⟩:∃m:Nat,z=(m:Int):=⟨z.toNat,Oo⟩;have np6:c6≠p:=T5.ne hc6;obtain ⟨tt,htt,tt0,tt3⟩:∃pp:Int,([.int 0,.int 0,.int 1,.int 3]:List V)[mt]?=some (.int pp)/\0<=pp/\pp<=3:=by
   rcases (show mt=0\/mt=1\/mt=2\/mt=3 by omega) with rfl | rfl | rfl | rfl
   ·exact ⟨0,rfl,Dd,Dd⟩
   ·exact ⟨0,rfl,Dd,Dd⟩
   ·exact ⟨1,rfl,Dd,Dd⟩
   ·exact ⟨3,rfl,Dd,Dd⟩
  refine ixL (b7.at np6 g6) (iB htt) ?_;refine ⟨_,_,rfl,rfl,?_⟩;refine ⟨_,rfl,rfl,?_⟩;refine .inr ⟨_,rfl,?_⟩;refine ⟨_,_,rfl,rfl,?_⟩;obtain ⟨ee,hee,ee0,ee1⟩:∃ee:Int,(if decide (V.int pp=V.int 0)=true then (1:Int) else 0)=ee/\(pp=0->ee=1)/\(ee=0\/ee=1):=by
   by_cases h:pp=0
   ·exact ⟨1,by rw [if_pos (bV (congrArg V.int h))],λ_=>rfl,.inr rfl⟩
   ·exact ⟨0,by rw [if_neg (by rw [decide_eq_true_eq];exact λz=>h (by injection z))],λz=>absurd z h,.inl rfl⟩
  rw [hee];obtain ⟨dd,hdd,dd1,dd2⟩:∃dd:Int,pp+tt+ee=dd/\0<dd/\dd<=20/\pp<=dd:=⟨_,rfl,Oo,Oo,Oo⟩;show iF [.int pp,.int (pp+tt+ee)] _ _ _;rw [hdd];refine jE dd1 (bB (show dd.natAbs<=20 by omega) Kk) λq8 H8 hq8 e8 s8=>?_;obtain ⟨shq,sh0,sh1,shd,shn,shl⟩:=MP pp0 dd2.2 dd1 dd2.1;have lowS:=gA (n:=pp) dd1;obtain ⟨sf,hsf⟩:∃sf,sf=lw pp dd:=⟨_,rfl⟩;rw [<-hsf] at e8 shq sh0 sh1 shd shn shl lowS;obtain ⟨sh,hsh⟩:∃sh,sh=rv sf:=⟨_,rfl⟩;have fqs:dL sh=sf:=by rw [hsh];exact OP lowS
  have rest:=SC lowS;rw [<-hsh] at shq sh0 sh1 rest;refine ⟨_,rfl,?_⟩;refine tU e8 rfl ?_;refine ⟨_,rfl,?_⟩;refine tU e8 rfl ?_;refine ⟨_,_,rfl,rfl,?_⟩;refine ⟨_,rfl,?_⟩;refine tU e8 rfl ?_;refine jE lowS.pos (bB shd Kk) λq9 H9 hq9 e9 s9=>?_;rw [rest] at e9;have d0:0<dd.toNat:=Oo;have d1:dd.toNat<=1000:=Oo;have shq':=HG shq d0 sh0 sh1;have t59:dX G5 H9:=((u6.t.trans ((T5.same u6).t b7)).trans s8.t).trans s9.t;have t39:dX H3 H9:=(u4.t.trans ((T3.same u4).t b5)).trans t59;have B9:aU p H2 H9:=((((b3.trans u4.but).trans b5).trans u6.but).trans b7).trans (s8.trans s9).but;have S19:bC H1 H9:=bC.thru hp2 s2 B9;have rx9:=rx.flat t39 (qZ es);have ry9:=ry.flat t39 (qZ fs);have RA:=aBy R1 f1 f4 w4 hmM hM4 few;have RB:=aBy R2 f1 f4 w4 (aQ hm' hmM) hM4 few;have wx:uY K H9 (es.map cv) x:=aBx R1 rx9;have wy:uY K H9 (fs.map cv) y:=aBx R2 ry9;have f64:(rise nF M).length<=64:=aQ few Dd;have rs9:cO H9 (iT (dL sh)) (.ref q8):=by rw [fqs];exact eS (s9 _ _ e8)
  have rr9:cO H9 (iT (dL (1-sh))) (.ref q9):=eS e9;have IB:=RA.mx RB f1 f4 Oo sh0 sh1;have TB:=IB.tg (W:=nW) (aQ few Dd);have SD:=aAb IB TB RA RB shq d0 f64 (zz hM4 d1) Kk (zs d1);have SW:=aBs f1 f4 hM4 w4 few SD;have sh0':0<=1-sh:=by grind
  have sh1':1-sh<=1:=by grind
  refine ⟨_,rfl,_,rfl,_,rfl,?_⟩;refine kL wx wy (.inl rs9) IB RA RB shq d0 (zd d1) w4 f64 λv10 H10 s10 w10=>?_;refine ⟨_,rfl,?_⟩;refine YX (qY w10) SW Dd Dd ?_;generalize htx:PyData.shown (.tuple ((mE nF nW M (es.map cv) (fs.map cv) sh).map SB))=tx;refine ⟨_,rfl,_,rfl,_,rfl,?_⟩;refine pJ (by show 2<=64;decide) λb1 K1 hb1 j1 k1=>?_;refine ⟨_,rfl,_,rfl,?_⟩;refine pJ (by show 2<=64;decide) λb2 K2 hb2 j2 k2=>?_;refine xP (by show 2<=64;decide) λb3 K3 hb3 j3 k3=>?_;have S10:bC H9 K3:=((s10.trans k1).trans k2).trans k3;have pE:∀(r:Nat) (v:V),([.ref b1,.ref b2]:List V)[r]?=some v->∃b y' sv m0,v=.ref b/\K3 b=some (.tup [y',sv])/\cO K3 (xM (if r=0 then es else fs)) y'/\cO K3 (iT (dL (if r=0 then sh else 1-sh))) sv/\m0<=M/\iC nF nW m0 (if r=0 then es else fs)/\pQ nF nW M (LN^5) (5^20) LN ((if r=0 then es else fs).map cv)/\Qn dd.toNat 1 (if r=0 then sh else 1-sh):=λr v hv=>by
   match r,hv with
   | 0,hv =>
    cases hv;exact ⟨b1,x,_,m,rfl,(k2.trans k3) _ _ j1,rx9.same S10,rs9.same S10,hmM,R1,RA,shq⟩
   | 1,hv =>
    cases hv;exact ⟨b2,y,_,m',rfl,k3 _ _ j2,ry9.same S10,rr9.same S10,aQ hm' hmM,R2,RB,shq'⟩
   | r+2,hv=>simp at hv
  have TO3:=TO1.same (S19.trans S10);refine JF (pE:=λr=>if r=0 then es else fs) (pS:=λr=>if r=0 then sh else 1-sh) (Ds:=dd.toNat) j3 rfl ZM Oo pE d0 d1 rfl IB TO3 λv11 H11 b11 TO11 r11=>?_;obtain ⟨ps3,hps3⟩:=TO3.at_;have t11:dX K3 H11:=λb us hb=>b11.at (λz=>by rw [z,hps3] at hb;cases hb) hb;refine rrW r11 SW Dd Dd ?_;rw [show PyData.shown (YW (mE nF nW M ((if 0=0 then es else fs).map cv) ((if 1=0 then es else fs).map cv) (if 0=0 then sh else 1-sh)))=tx from htx];refine ⟨rfl,_,rfl,?_⟩;refine oM (by simp) ?_;have t911:=S10.t.trans t11;have wx11:=wx.t t911;have wy11:=wy.t t911;have ws11:xC K H11 (dL sh) (.ref q8):=.inl (rs9.flat t911 (eT _));have wr11:xC K H11 (dL (1-sh)) (.ref q9):=.inl (rr9.flat t911 (eT _));have w11:uY K H11 (mE nF nW M (es.map cv) (fs.map cv) sh) v10:=w10.t (((k1.trans k2).trans k3).t.trans t11);refine ⟨λb H'=>bC H11 H'/\b=false,?_,?_⟩
  ·refine ⟨_,rfl,_,rfl,_,rfl,?_⟩;refine BX w11 TB (λc hc=>IB.all TB _ (aJ _) hc) SD w4 λH12 s12=>?_;refine ⟨_,_,rfl,rfl,?_⟩;refine ⟨_,rfl,?_⟩;refine oM rfl ?_;have IC:=RB.mx RA f1 f4 Oo sh0' sh1';refine ⟨_,rfl,_,rfl,_,rfl,?_⟩;refine kL (wy11.t s12.t) (wx11.t s12.t) (wr11.t s12.t) IC RB RA shq' d0 (zd d1) w4 f64 λv13 H13 s13 w13=>?_;have em:mE nF nW M (fs.map cv) (es.map cv) (1-sh)=mE nF nW M (es.map cv) (fs.map cv) sh:=NW (λc=>by unfold mA;grind) (λc j _=>by unfold mX;grind);rw [em] at w13;refine YX (qY w13) SW Dd Dd ?_;refine ⟨_,rfl,?_⟩;refine YX (qY (w11.t (s12.trans s13).t)) SW Dd Dd ?_;refine ⟨rfl,_,rfl,s12.trans s13,?_⟩;simp
  rintro b H12 ⟨s12,rfl⟩;refine oN ?_;have I1:=RA.mx RB (s:=1) f1 f4 Oo Dd Dd;have I0:=RA.mx RB (s:=0) f1 f4 Oo Dd Dd;have q1:Qn 1 1 (1:Rat):=Qn.one' _;have q0:Qn 1 1 (0:Rat):=Qn.zero _ _;have E1:mE nF nW M (es.map cv) (fs.map cv) 1=es.map cv:=AQ I1 (I1.tg (aQ few Dd)) R1 RA f4 hM4 (λc=>by unfold mA;grind) (λc j=>by unfold mX;grind);have E0:mE nF nW M (es.map cv) (fs.map cv) 0=fs.map cv:=AQ I0 (I0.tg (aQ few Dd)) R2 RB f4 hM4 (λc=>by unfold mA;grind) (λc j=>by unfold mX;grind);refine ⟨λb H'=>bC H12 H'/\b=false,?_,?_⟩
  ·refine ⟨_,rfl,_,rfl,?_⟩;refine pJ (by show 2<=64;decide) λq13 H13 hq13 e13 s13=>?_;have s1213:=s12.trans s13;refine kL (wx11.t s1213.t) (wy11.t s1213.t) (s:=1) (.inl (by rw [AY];exact eS e13)) I1 RA RB q1 Dd (zd Dd) w4 f64 λv14 H14 s14 w14=>?_;rw [E1] at w14;refine ⟨_,rfl,?_⟩;refine reK (qY w14) (qY (wx11.t (s1213.trans s14).t)) (sG _) (sG _) ?_;rw [FD];refine ⟨_,rfl,?_⟩;refine oM Dd ?_;refine ⟨_,rfl,_,rfl,?_⟩;refine pJ (by show 2<=64;decide) λq15 H15 hq15 e15 s15=>?_;have s1215:=(s1213.trans s14).trans s15;refine kL (wx11.t s1215.t) (wy11.t s1215.t) (s:=0) (.inl (by rw [mG];exact eS e15)) I0 RA RB q0 Dd (zd Dd) w4 f64 λv16 H16 s16 w16=>?_;rw [E0] at w16;refine ⟨_,rfl,?_⟩;refine reK (qY w16) (qY (wy11.t (s1215.trans s16).t)) (sG _) (sG _) ?_;rw [FD];exact ⟨_,rfl,((s13.trans s14).trans s15).trans s16,rfl⟩
  rintro b H13 ⟨s13,rfl⟩;refine oN ?_;have IS:=RA.mx RA f1 f4 Oo sh0 sh1;have ES:mE nF nW M (es.map cv) (es.map cv) sh=es.map cv:=AQ IS (IS.tg (aQ few Dd)) R1 RA f4 hM4 (λc=>by unfold mA;grind) (λc j=>by unfold mX;grind);have s1113:=s12.trans s13;refine ⟨_,rfl,_,rfl,_,rfl,?_⟩;refine kL (wx11.t s1113.t) (wx11.t s1113.t) (ws11.t s1113.t) IS RA RA shq d0 (zd d1) w4 f64 λv14 H14 s14 w14=>?_;rw [ES] at w14;refine ⟨_,rfl,?_⟩;refine reK (qY w14) (qY (wx11.t (s1113.trans s14).t)) (sG _) (sG _) ?_;rw [FD];refine ⟨_,rfl,?_⟩;refine oM Dd ?_;have S14:=s1113.trans s14;refine ⟨_,_,_,_,_,_,_,_,_,_,rfl,?_,TO11.same S14⟩;intro x' ob hx;have n:=fF.ne hx;rw [fF.at n] at hx;exact fF.of n (S14 _ _ (b11.at n ((S19.trans S10) _ _ (S1.at n hx))))
 ·rintro σ H2 ⟨o1,o2,o3,o4,o5,o6,o7,o8,o9,o10,rfl,_⟩;exact k H2
end
end Kt
namespace Kw
open PySem L2 Mf Kt
theorem JG{K:PySem.W.Frag}{tA a:Addr}{H:Hp}{E:XK}{ns:List Int}(hS:fS K H a (ns.map V.int))(hl:ns.length<=63)(hT:H tA=some (.tbl #[])):pB K tA [.ref a] H (λv _=>v=.bl true) E:=by
 unfold pB;exact ⟨a,ns,rfl,hS,hl,⟨.inl hT⟩,λ_=>rfl⟩
def spT(K:PySem.W.Frag)(tabs:List (Addr × Addr)):Sp:=match tabs with
 | [(_,t)]=>pB K t
 | _=>λ_ H Q _=>Q (.bl true) H
theorem aBt{K:PySem.W.Frag}{tabs:List (Addr × Addr)}{a:Addr}{H:Hp}{E:XK}{ns:List Int}(hS:fS K H a (ns.map V.int))(hl:ns.length<=63)(hT:IO tabs H):spT K tabs [.ref a] H (λv _=>v=.bl true) E:=by
 unfold spT;split
 ·exact JG hS hl (hT.tab _ (bQ.mpr rfl))
 ·rfl
theorem aDq{α:Type}{us:List α}(h:us.length=1):∃a,us=[a]:=match us,h with | [a],_=>⟨a,rfl⟩
theorem aBS{α:Type}{us:List α}(h:us.length=2):∃a b,us=[a,b]:=match us,h with | [a,b],_=>⟨a,b,rfl⟩
theorem aDp{α:Type}{us:List α}(h:us.length=3):∃a b c,us=[a,b,c]:=match us,h with | [a,b,c],_=>⟨a,b,c,rfl⟩
theorem aDo{α:Type}{us:List α}(h:us.length=4):∃a b c d,us=[a,b,c,d]:=match us,h with | [a,b,c,d],_=>⟨a,b,c,d,rfl⟩
theorem aDn{α:Type}{us:List α}(h:us.length=5):∃a b c d e,us=[a,b,c,d,e]:=match us,h with | [a,b,c,d,e],_=>⟨a,b,c,d,e,rfl⟩
theorem aAz{K:PySem.W.Frag}{x q:Str}{st:Stmt}{f:Addr}{fd:FuncData}(F:jA K x q st f fd)(P:FuncData->Prop)(h:P fd):∃fd,P fd:=⟨fd,h⟩
inductive Dn (K:PySem.W.Frag) (n:Str) (st:Stmt):Prop
 | mk {f:Addr} {oc:Value} {od:Option Addr} {kV dc pm:Value} {an:Option Addr} {cd ct:Value} {sl:Array (Option Value)} (a:PySem.W.nsIn K mainGlobals n=some (some (.ref f))) (l:K.lookup f=some ⟨oc,od,.func (PySem.W.fnOf n n (mY st) (iX st) (bA st) .none kV dc pm an cd ct),sl⟩) (c:PySem.W.codeIn K cd n=true) (k:PySem.W.keepIn K (.ref f)=true):Dn K n st
theorem fnd(l:PySem.W.OpenLaw)(w:World){K:PySem.W.Frag}{h:Heap}{mg:Str->Option Value}(X:K.In h)(G:h.Ns mainGlobals mg)(base:Heap){n:Str}{st:Stmt}{L:Nat}{ps:List Str}{sp:Sp}(d:Dn K n st)(o:∀{f:Addr}{fd:FuncData},jA K n n st f fd->dZ l.prog w K mg base dQ L f fd ps sp)(b:∀(kV doc pm:Value) (an:Option Addr) (cdv ct:Value) (us:List Value),us.length=ps.length->bindArgs (PySem.W.fnOf n n (mY st) (iX st) (bA st) .none kV doc pm an cdv ct) ⟨us,[]⟩=pure (ps.zip us):=by intro _ _ _ _ _ _ us hl;first | (obtain ⟨_,rfl⟩:=aDq hl;rfl) | (obtain ⟨_,_,rfl⟩:=aBS hl;rfl) | (obtain ⟨_,_,_,rfl⟩:=aDp hl;rfl) | (obtain ⟨_,_,_,_,rfl⟩:=aDo hl;rfl) | (obtain ⟨_,_,_,_,_,rfl⟩:=aDn hl;rfl)):gK dQ l.prog w K mg base L n ps sp:=by
 obtain ⟨a,l',c,k⟩:=d;exact ⟨_,_,o (AX l' c k),PySem.W.mg_of X G a,k,(AX l' c k).binds b⟩
theorem fnc(l:PySem.W.OpenLaw)(w:World){K:PySem.W.Frag}{h:Heap}{mg:Str->Option Value}(X:K.In h)(G:h.Ns mainGlobals mg)(base:Heap){n:Str}{f:Addr}{fd:FuncData}{L:Nat}{ps:List Str}{sp:Sp}(a:PySem.W.nsIn K mainGlobals n=some (some (.ref f)))(k:PySem.W.keepIn K (.ref f)=true)(b:pR K fd ps [])(o:dZ l.prog w K mg base dQ L f fd ps sp):gK dQ l.prog w K mg base L n ps sp:=⟨_,_,o,PySem.W.mg_of X G a,k,b⟩
open PySem.W (nsIn fnOf codeIn keepIn mg_of mg_none_of) in
theorem aAV{l:PySem.W.OpenLaw}{w:World}{K:PySem.W.Frag}{h:Heap}{mg:Str->Option Value}{fa:Addr}{c_ONE:Addr}{c_NOUGHT:Addr}{tok_LOOKS_ON:Tok}(X:K.In h)(G:h.Ns mainGlobals mg)(hfa:mg "law" = some (.ref fa))
  (u_ONE:nsIn K mainGlobals "ONE" = some (some (.ref c_ONE)))
  (u_NOUGHT:nsIn K mainGlobals "NOUGHT" = some (some (.ref c_NOUGHT)))
  (u_LOOKS_ON:nsIn K mainGlobals "LOOKS_ON" = some (some (.int 0 tok_LOOKS_ON)))
  (o_ONE:qB K c_ONE [1,1]=true)
  (o_NOUGHT:qB K c_NOUGHT [0,1]=true)
  (d0:Dn K "_law_frac" sQ4)
  (d1:Dn K "_law_tape" YN)
  (d2:Dn K "_law_pick" sQ7)
  (d3:Dn K "_law_shares" MT)
  (d4:Dn K "_law_says" RZ)
  (d5:Dn K "_law_sizes" YO)
  (d6:Dn K "_law_next" sQ5)
  (d7:Dn K "_law_rule" SA)
  (d8:Dn K "common_divisor" YJ)
  (d9:Dn K "plus" XV)
  (d10:Dn K "times" XT)
  (d11:Dn K "less" YB)
  (d12:Dn K "one_more" XX)
  (d13:Dn K "ones_more" RQ)
  (d14:Dn K "looks_on" YA)
  (d15:Dn K "noughts" RS)
  (d16:Dn K "counts_behind" YI)
  (d17:Dn K "counts_come_to" YH)
  (d18:Dn K "rule_within" RN)
  (d19:Dn K "rule_faces" XU)
  (d20:Dn K "amounts" RY)
  (d21:Dn K "over" XW)
  (d22:Dn K "parts_of" RP)
  (d23:Dn K "says_of_parts" JK)
  (d24:Dn K "mixed" XZ)
  (d25:Dn K "_law_plus" sQ8)
  (d26:Dn K "_law_times" YM)
  (d27:Dn K "_law_pair" sQ6)
  (d28:Dn K "_law_counts" sQ2)
  (d29:Dn K "_law_rows" sQ9)
  (d30:Dn K "_law_amount_of" sQ0)
  (d31:Dn K "_law_amounts" sQ1)
  (a32:nsIn K mainGlobals "_law_due" = some (some (.ref f32))) (l32:K.lookup f32=some ⟨oc32,od32,.func (fnOf "_law_due" "_law_due" (mY RV) (iX RV) (bA RV) .none kV32 dc32 pm32 an32 (.ref cA32) ct32),sl32⟩) (c32:codeIn K (.ref cA32) "_law_due" = true) (k32:keepIn K (.ref f32)=true) (hh32:KI K cA32 tA=true)
  (d33:Dn K "is_whole" YC)
  (d34:Dn K "is_fraction" YF)
  (d35:Dn K "is_share" YE)
  (d36:Dn K "is_tuple_of" YD)
  (d37:Dn K "are_shares" RX)
  (d38:Dn K "total" XS)
  (d39:Dn K "are_parts" YL)
  (d40:Dn K "are_says" YK)
  (d41:Dn K "is_counts" RW)
  (d42:Dn K "is_entry" YG)
  (d43:Dn K "is_rule" MS)
  (d44:Dn K "law" RU) (z0:nsIn K mainGlobals "list" = some none) (z1:nsIn K mainGlobals "len" = some none) (z2:nsIn K mainGlobals "abs" = some none) (z3:nsIn K mainGlobals "range" = some none) (z4:nsIn K mainGlobals "sum" = some none) (z5:nsIn K mainGlobals "max" = some none) (z6:nsIn K mainGlobals "int" = some none) (z7:nsIn K mainGlobals "bool" = some none) (z8:nsIn K mainGlobals "sorted" = some none) (z9:nsIn K mainGlobals "dict" = some none) (z10:nsIn K mainGlobals "isinstance" = some none) (z11:nsIn K mainGlobals "all" = some none) (z12:nsIn K mainGlobals "tuple" = some none) (z13:nsIn K mainGlobals "zip" = some none) (z14:nsIn K mainGlobals "repr" = some none) :
  ∃fd:FuncData,(∀(s:Shared) (v:Value),BindsTo s fd ⟨[v],[]⟩ [("_law_script",v)])/\∀base:Heap,K.In base->base.Ns mainGlobals mg->BM mg base->dZ l.prog w K mg base dQ 9 fa fd ["_law_script"] (pB K tA):=by
 obtain ⟨a44,l44,c44,k44⟩:=d44;have e:=hfa.symm.trans (mg_of X G a44);cases e;generalize hcl:(⟨c_ONE,c_NOUGHT,tok_LOOKS_ON⟩:Cl)=c;have T:kY K mg c:=by rw [<-hcl];exact ⟨mg_none_of X G z0,mg_none_of X G z1,mg_none_of X G z2,mg_none_of X G z3,mg_none_of X G z4,mg_none_of X G z5,mg_none_of X G z6,mg_none_of X G z7,mg_none_of X G z8,mg_none_of X G z9,mg_none_of X G z10,mg_none_of X G z11,mg_none_of X G z12,mg_none_of X G z13,mg_none_of X G z14,mg_of X G u_ONE,mg_of X G u_NOUGHT,mg_of X G u_LOOKS_ON,o_ONE,o_NOUGHT⟩
 have F44:=AX (st:=RU) l44 c44 k44;refine aAz F44 _ ⟨λs v=>.of_eq rfl,λbase _ _ hbm=>?_⟩;have N:=@fnd l w K h mg X G base;have GQ4:=N d0 λF=>oQ4 F T;have GQ14:=N d1 λF=>aDh F T;have GQ7:=N d2 λF=>oQ7 F T;have GQ12:=N d3 λF=>aDj F T GQ7 GQ4;have GQ11:=N d4 λF=>aDk F T GQ7 GQ12;have GQ13:=N d5 λF=>aDi F T GQ7;have GQ5:=N d6 λF=>oQ5 F T;have GQ10:=N d7 λF=>aDl F T GQ11 GQ5;have GQ20:=N d8 λF=>aDb F T;have GQ39:=N d9 λF=>aCS F T GQ20;have GQ43:=N d10 λF=>aCO F T GQ20;have GQ31:=N d11 λF=>aC0 F T GQ39;have GQ35:=N d12 λF=>aCW F T;have GQ36:=N d13 λF=>aCV F T GQ35;have GQ32:=N d14 λF=>aCZ F T;have GQ34:=N d15 λF=>aCX F T;have GQ21:=N d16 λF=>aDa F T GQ32 GQ36;have GQ22:=N d17 λF=>aC9 F T GQ34 GQ21;have GQ41:=N d18 λF=>aCQ F T GQ22;have GQ40:=N d19 λF=>aCR F T;have GQ16:=N d20 λF=>aDf F T GQ34 GQ40 GQ32 GQ43 GQ36 GQ39;have GQ37:=N d21 λF=>aCU F T GQ43;have GQ38:=N d22 λF=>aCT F T GQ16 GQ43;have GQ42:∀n:Nat,gK dQ l.prog w K mg base (4+n) "says_of_parts" ["one","other"] (lI K n):=λn=>by
  induction n with
  | zero=>exact N d23 λF=>aCx F T
  | succ n ih=>exact N d23 λF=>aCP n F T GQ37 GQ39 ih
 have GQ33:=N d24 λF=>aCY F T GQ38 GQ31 (GQ42 2) GQ41 GQ40;have GQ8:=N d25 λF=>oQ8 F T GQ4;have GQ15:=N d26 λF=>aDg F T GQ4;have GQ6:=N d27 λF=>oQ6 F T GQ7 GQ13 GQ10;have GQ2:=N d28 λF=>oQ2 F T;have GQ9:=N d29 λF=>oQ9 F T;have GQ0:=N d30 λF=>oQ0 F T GQ2 GQ15;have GQ1:=N d31 λF=>oQ1 F T GQ9 GQ0 GQ2 GQ8;have F32:=AX (st:=RV) l32 c32 k32;have b32:=F32.binds (ps:=["_law_faces","_law_parts"]) λ_ _ _ _ _ _ us hl=>by obtain ⟨_,_,rfl⟩:=aBS hl;rfl
 have GQ3:=fnc l w X G base a32 k32 b32 (oQ3 F32 T rfl hh32 hbm GQ1 GQ15 GQ8 GQ4);have GQ29:=N d33 λF=>aC2 F T;have GQ25:=N d34 λF=>aC6 F T GQ29 GQ20;have GQ27:=N d35 λF=>aC4 F T GQ25;have GQ28:=N d36 λF=>aC3 F T;have GQ19:=N d37 λF=>aDc F T GQ28 GQ27;have GQ44:=N d38 λF=>aCN F T GQ39;have GQ17:=N d39 λF=>aDe F T GQ19 GQ44;have GQ18:=N d40 λF=>aDd F T GQ17;have GQ23:=N d41 λF=>aC8 F T GQ28 GQ29;have GQ24:=N d42 λF=>aC7 F T GQ28 GQ23 GQ18;have GQ26:=N d43 λF=>aC5 F T GQ24 GQ22;exact aC1 F44 T GQ14 GQ7 GQ6 GQ4 GQ33 GQ3 GQ26
end Kw
namespace PySem.W.Fast
def tw5454125503434196028 := ()
def tw12674506470459648173 := ()
def tw8775164390344557761 := ()
def tw2578047787932489800 := ()
def tw9603384386647584336 := ()
def tw5642899676158770641 := ()
def tw12091189968613000323 := ()
def tw7941698939447029150 := ()
def tw12052957283961441003 := ()
def tw16516608650886733354 := ()
def tw17028243620797047811 := ()
def tw6773115373002285303 := ()
def tw6424220238553935831 := ()
def tw11277611330122269062 := ()
def tw826818562979473935 := ()
def tw6225900899321434680 := ()
def tw4492290412084803901 := ()
def tw5104283496732050777 := ()
def tw3516606762636920417 := ()
def tw15260613940172107372 := ()
def tw503385603064771003 := ()
def tw1255354036077225520 := ()
def tw758487440774916476 := ()
end PySem.W.Fast
open PySem PySem.W PyProof.Rows
set_option maxRecDepth 100000 in
set_option maxHeartbeats 0 in
theorem PySem.Challenge.cw_earlystop_k29_mixed_holds : PySem.Challenge.rw_earlystop_k29_mixed.Holds := by
  w_on;o_law;k_head;(case hw=>w_witness2)
  k_fill
  refine L2.LZ (l:=PySem.Challenge.rw_earlystop_k29_mixed) (n:=63) (k:=9) (x := "_law_script") (CX:=L2.dQ) (tabs:=λ_=>[(314,312)]) (sp:=λK tabs=>Kw.spT K tabs) ["_law_due"] rfl Dd rfl ⟨rfl,Dd,Dd,rfl⟩ (λw h Y=>PySem.W.km_in_of Y) (λy hy=>by rw [bQ.mp hy];exact Option.isSome_iff_exists.mp (by kernel_rfl)) (λw=>by kernel_rfl) (λw t ht=>by rw [bQ.mp ht];kernel_rfl) ?F (λK tabs H a ns hl hO hS=>Kw.aBt hS hl hO) (λ_ _ _ _ z=>z)
  case F =>
    intro w mg fa h KX G hmg
    refine' Kw.aAV KX G hmg ?u_ONE ?u_NOUGHT ?u_LOOKS_ON ?o_ONE ?o_NOUGHT ?d0 ?d1 ?d2 ?d3 ?d4 ?d5 ?d6 ?d7 ?d8 ?d9 ?d10 ?d11 ?d12 ?d13 ?d14 ?d15 ?d16 ?d17 ?d18 ?d19 ?d20 ?d21 ?d22 ?d23 ?d24 ?d25 ?d26 ?d27 ?d28 ?d29 ?d30 ?d31 ?a32 ?l32 ?c32 ?k32 ?hh32 ?d33 ?d34 ?d35 ?d36 ?d37 ?d38 ?d39 ?d40 ?d41 ?d42 ?d43 ?d44 ?z0 ?z1 ?z2 ?z3 ?z4 ?z5 ?z6 ?z7 ?z8 ?z9 ?z10 ?z11 ?z12 ?z13 ?z14
    (case u_ONE|u_NOUGHT|u_LOOKS_ON|a32|l32|c32|k32|z0|z1|z2|z3|z4|z5|z6|z7|z8|z9|z10|z11|z12|z13|z14=>k_is);(case d0|d1|d2|d3|d4|d5|d6|d7|d8|d9|d10|d11|d12|d13|d14|d15|d16|d17|d18|d19|d20|d21|d22|d23|d24|d25|d26|d27|d28|d29|d30|d31|d33|d34|d35|d36|d37|d38|d39|d40|d41|d42|d43|d44=>refine' Kw.Dn.mk ?a ?l ?c ?k;(case a=>k_is);(case l=>k_is);(case c=>k_is);(case k=>k_is));(case o_ONE=>kernel_rfl);(case o_NOUGHT=>kernel_rfl);(case hh32=>kernel_rfl)
