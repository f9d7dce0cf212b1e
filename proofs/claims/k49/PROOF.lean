import PyProof.Rows.All
import Wide.All
import OpenK.AllK
import Wide.FinOn
import Lean
import PyProof.EqAt
import PyProof.EqKinds
import PyProof.TupleCall
import KE.IntBitsLaws
import PyProof.ZipIter
import KE.KRevIter
import PyProof.ListMulRoad
import PyProof.AutoListH
import PyProof.Rows.SeqMore
import PyProof.Rows.SumAny
import PyProof.SliceStr2
import PyProof.WalksMore
import KE.KSortTup
import PyProof.AttrMissHeap
import PyProof.TupleIter
import KE.KDictOf
import PyProof.DictWalks
import PyProof.DictValues
import KE.KDictList
import PyProof.Rows.MinMaxN
import PyProof.Rows.TupDisplay
import PyProof.DictTruth
import PyProof.Rows.SortRev
import PyProof.Rows.CallKwBuiltin
import PyProof.ListRange
import PySem.Challenge.RW_earlystop_k49_best_by_bounds
set_option Elab.async false
set_option linter.all false
set_option maxHeartbeats 0
set_option maxRecDepth 100000
def Oo{p:Prop}(h:p:=by first|lia|omega):p:=h
def Dd{p:Prop}(h:p:=by decide):p:=h
def Kk{p:Prop}(h:p:=by decide +kernel):p:=h
abbrev Aa:=PySem.W.Frag
abbrev Ab:=List (List Nat)
abbrev Ac:=List (List Int)
abbrev Ad:=List (PySem.Addr × PySem.Obj)
abbrev Ae:=List Nat
abbrev Af:=List Int
abbrev Ag:=List PySem.Value
abbrev Ah:=List PySem.Str
abbrev Ai:=Array PySem.Value
namespace PySem
abbrev aA:=@List.length_map
abbrev aB:=@List.getElem?_eq_getElem
abbrev aC:=@Heap.get?_push_of_some
abbrev aF:=@List.getElem?_eq_some_iff
abbrev aG:=@List.mem_of_getElem?
abbrev aI:=@Nat.le_refl
abbrev aL:=@List.getElem?_map
abbrev aM:=@Nat.le_trans
abbrev aN:=@Nat.lt_of_lt_of_le
abbrev aO:=@List.mem_append_right
abbrev aP:=@Nat.pow_le_pow_right
abbrev aS:=@List.mem_cons_self
abbrev aT:=@List.mem_cons_of_mem
abbrev aV:=@Heap.lt_size
abbrev aW:=@List.size_toArray
abbrev aX:=@List.mem_map
abbrev aZ:=@List.mem_cons
abbrev bA:=@List.length_range
abbrev bB:=@Heap.get?_push_size
abbrev bC:=@Nat.lt_of_le_of_lt
abbrev bE:=@List.length_append
abbrev bF:=@List.map_append
abbrev bG:=@Rat.mul_nonneg
abbrev bH:=@List.getD_eq_getElem?_getD
abbrev bI:=@List.map_cons
abbrev bJ:=@List.mem_singleton
abbrev bL:=@Nat.lt_irrefl
abbrev bM:=@Classical.byContradiction
abbrev bR:=@Bool.false_ne_true
abbrev bS:=@Nat.mul_le_mul_right
abbrev bT:=@List.length_cons
abbrev bU:=@List.mem_range
abbrev bY:=@List.mem_append_left
abbrev cA:=@Nat.ne_of_lt
abbrev cB:=@List.mem_append
abbrev cG:=@Nat.zero_le
abbrev cJ:=@decide_eq_false
abbrev cK:=@List.length_take
abbrev cL:=@decide_eq_true
abbrev cN:=@List.getElem?_range
abbrev cO:=@List.getElem?_append_left
abbrev cP:=@List.take_length
abbrev cQ:=@Bool.and_eq_true
abbrev cR:=@List.mem_filter
abbrev cU:=@Option.map_eq_some_iff
abbrev cW:=@List.getElem?_append_right
abbrev cZ:=@List.mem_iff_getElem?
abbrev dB:=@Heap.get?_update_ne
abbrev dS:=@List.length_replicate
abbrev eI:=@List.map_congr_left
abbrev eK:=@List.getElem?_eq_none
abbrev fF:=@Int.natAbs_mul
abbrev fG:=@Heap.size_push
abbrev fT:=@List.take_add_one
abbrev fW:=@Option.some.inj
abbrev kC:=@Nat.le_of_dvd
abbrev lW:=@Nat.dvd_trans
abbrev nH:=@Nat.mul_pos
end PySem
open PySem
namespace L2
open PySem PySem.Spec PyProof.Rows
abbrev fE:=Sum Int Str
def AD:fE->Value->Bool
 | .inl k,v=>Value.isInt k v
 | .inr x,v=>Value.isStrOf x v
def aEp(w:World):fE->Int
 | .inl k=>hashInt k
 | .inr x=>hashStr w x
def gQ:∀{k:fE}{v:Value},AD k v=true->(∃i t,k=Sum.inl i/\v=Value.int i t)\/(∃x t,k=Sum.inr x/\v=Value.str x t)
 | .inl i,v,h=>by
  obtain ⟨t,e⟩:=Value.isInt_shape (k:=i) (v:=v) h;exact .inl ⟨i,t,rfl,e⟩
 | .inr x,v,h=>by
  obtain ⟨t,e⟩:=Value.isStrOf_shape (x:=x) (v:=v) h;exact .inr ⟨x,t,rfl,e⟩
def NA(i:Int)(t:Tok):AD (.inl i) (.int i t)=true:=by simp [AD,Value.isInt]
def MZ(x:Str)(t:Tok):AD (.inr x) (.str x t)=true:=by simp [AD,Value.isStrOf]
def aBu(a b:Int):decide ((Sum.inl a:fE)=Sum.inl b)=(a == b):=by
 by_cases e:a=b
 ·subst e;simp
 ·have h:¬(Sum.inl a:fE)=Sum.inl b:=λq=>e (Sum.inl.inj q);rw [cJ h];exact (beq_eq_false_iff_ne.mpr e).symm
def aBr(a b:Str):decide ((Sum.inr a:fE)=Sum.inr b)=decide (a=b):=by
 by_cases e:a=b
 ·subst e;simp
 ·have h:¬(Sum.inr a:fE)=Sum.inr b:=λq=>e (Sum.inr.inj q);rw [cJ h,cJ e]
def aBt(a:Int)(b:Str):decide ((Sum.inl a:fE)=Sum.inr b)=false:=cJ (λq=>nomatch q)
def aBs(a:Str)(b:Int):decide ((Sum.inr a:fE)=Sum.inl b)=false:=cJ (λq=>nomatch q)
def fX(prog:Program)(w:World):PySem.KeyKind prog w fE where
 is:=AD
 hash:=aEp w
 inj:=λv a b ha hb=>by
  rcases gQ ha with ⟨i,t,rfl,rfl⟩ | ⟨x,t,rfl,rfl⟩
  ·rcases gQ hb with ⟨j,u,rfl,e⟩ | ⟨y,u,rfl,e⟩
   ·injection e with e1 _;rw [e1]
   ·exact nomatch e
  ·rcases gQ hb with ⟨j,u,rfl,e⟩ | ⟨y,u,rfl,e⟩
   ·exact nomatch e
   ·injection e with e1 _;rw [e1]
 byValue:=λk v h=>by
  rcases gQ h with ⟨i,t,rfl,rfl⟩ | ⟨x,t,rfl,rfl⟩ <;> rfl
 pyHash:=λhv h=>by
  rcases gQ hv with ⟨i,t,rfl,rfl⟩ | ⟨x,t,rfl,rfl⟩
  ·exact wpAny_pyHash_int h
  ·exact wpAny_pyHash_str h
 eqBool:=λhu hv h=>by
  rcases gQ hu with ⟨i,t,rfl,rfl⟩ | ⟨x,t,rfl,rfl⟩
  ·rcases gQ hv with ⟨j,u,rfl,rfl⟩ | ⟨y,u,rfl,rfl⟩
   ·rw [aBu] at h;exact wpAny_eqBool_int h
   ·rw [aBt] at h;exact SeqAt.EqAt.int_str i t y u _ _ _ _ h
  ·rcases gQ hv with ⟨j,u,rfl,rfl⟩ | ⟨y,u,rfl,rfl⟩
   ·rw [aBs] at h;exact SeqAt.EqAt.str_int x t j u _ _ _ _ h
   ·rw [aBr] at h;exact wpAny_eqBool_str h
 «strs» := λk x t v h=>by
  rcases gQ h with ⟨i,u,rfl,e⟩ | ⟨y,u,rfl,e⟩
  ·exact nomatch e
  ·injection e with e1 _;subst e1;cases v <;> rfl
def FJ(prog:Program)(w:World)(i:Int)(t:Tok):(fX prog w).is (.inl i) (.int i t)=true:=NA i t
def FI(prog:Program)(w:World)(x:Str)(t:Tok):(fX prog w).is (.inr x) (.str x t)=true:=MZ x t
inductive V where
 | non | bl (b:Bool) | int (i:Int) | str (x:Str) | byt (b:Array UInt8) | flt (b:UInt64) | ref (a:Addr) | ty (n:String)
 deriving DecidableEq
def dN:V->Value->Prop
 | .non,u=>u=Value.none
 | .bl b,u=>u=Value.bool b
 | .int i,u=>∃t,u=Value.int i t
 | .str x,u=>∃t,u=Value.str x t
 | .byt b,u=>∃t,u=Value.bytes b t
 | .flt b,u=>∃t,u=Value.float b t
 | .ref a,u=>u=Value.ref a
 | .ty n,u=>u=Value.type n
abbrev dF:List V->Ag->Prop:=Paired dN
theorem dF.length{xs:List V}{us:Ag}(r:dF xs us):xs.length=us.length:=Paired.length r
theorem dF.get:∀{xs:List V}{us:Ag}{i:Nat}{x:V},dF xs us->xs[i]?=some x->∃u,us[i]?=some u/\dN x u
 | _,_,_,_,.nil,e=>by simp at e
 | _,_,0,_,.cons r _,e=>by simp at e;subst e;exact ⟨_,rfl,r⟩
 | _,_,i+1,x,.cons _ t,e=>by
  obtain ⟨u,h1,h2⟩:=dF.get (i:=i) (x:=x) t (by simpa using e);exact ⟨u,by simpa using h1,h2⟩
theorem dF.set{x:V}{u:Value}(r:dN x u):∀{xs:List V}{us:Ag}(i:Nat),dF xs us->dF (xs.set i x) (us.set i u)
 | _,_,_,.nil=>.nil
 | _,_,0,.cons _ t=>.cons r t
 | _,_,i+1,.cons q t=>.cons q (dF.set r i t)
theorem dF.append:∀{xs ys:List V}{us ws:Ag},dF xs us->dF ys ws->dF (xs++ys) (us++ws)
 | _,_,_,_,.nil,s=>s
 | _,_,_,_,.cons r t,s=>.cons r (dF.append t s)
theorem dF.take:∀{xs:List V}{us:Ag}(n:Nat),dF xs us->dF (xs.take n) (us.take n)
 | _,_,0,_=>.nil
 | _,_,_+1,.nil=>.nil
 | _,_,n+1,.cons r t=>.cons r (dF.take n t)
theorem dF.drop:∀{xs:List V}{us:Ag}(n:Nat),dF xs us->dF (xs.drop n) (us.drop n)
 | _,_,0,r=>r
 | _,_,_+1,.nil=>.nil
 | _,_,n+1,.cons _ t=>dF.drop n t
def sK:Option V->Option Value->Prop
 | some v,some u=>dN v u
 | none,none=>True
 | _,_=>False
def KV{κ:Type}:List (κ × V)->List (κ × Value)->Prop:=Paired λ(p:κ × V) (q:κ × Value)=>p.1=q.1/\dN p.2 q.2
def kV:fE->V
 | .inl i=>.int i
 | .inr x=>.str x
inductive HO where
 /-- a list -/
 | lst (xs:List V)
 /-- a tuple (never changes) -/
 | tup (xs:List V)
 /-- a dict whose keys are ints and texts;one whose keys are tuples of ints and texts (the empty one is both) -/
 | dK (kvs:List (fE × V)) | dT (kvs:List (List fE × V))
 /-- a set of ints: its members,its size -/
 | set (S:Int->Bool) (n:Nat)
 /-- an instance of the class at C,its dict at dx,its attributes -/
 | ins (C dx:Addr) (fs:List (Str × V))
 /-- the dict of the instance at x -/
 | own (x:Addr)
 /-- the dict of an exception -/
 | xd (fs:List (Str × V))
 /-- a bound method,f of x -/
 | met (f x:Addr)
 /-- a range object lo,lo+1,.. below hi -/
 | rng (lo hi:Int)
 /-- a thing that is known to the object (the script;a dict while a loop walks it): read,never written while it is so -/
 | frz (o:Obj) (u:HO)
 /-- a code object's table -/
 | tbl (ps:Ai)
 /-- any other thing,by what is true of its one object (a def of one's own: SetO a S n:=HO.ext λh=>..) -/
 | ext (φ:Heap->Prop)
abbrev Hp:=Addr->Option HO
def upd(H:Hp)(a:Addr)(o:HO):Hp:=λb=>if b=a then some o else H b
def bO{H:Hp}{a:Addr}{o:HO}:upd H a o a=some o:=by unfold upd;rw [if_pos rfl]
def dC{H:Hp}{a b:Addr}{o:HO}(h:b≠a):upd H a o b=H b:=by unfold upd;rw [if_neg h]
def pN{H:Hp}{a b:Addr}{o u:HO}(h:H a=some o)(h':H b=some u)(d:o≠u):a≠b:=by
 intro e;subst e;rw [h] at h';exact d (fW h')
def dE{H:Hp}{a b:Addr}{o:HO}(h:H a=some o)(h':H b=none):a≠b:=by
 intro e;subst e;rw [h] at h';cases h'
section
variable(P:Program)(w:World)
def fH(H:Hp)(h:Heap)(a:Addr):HO->Prop
 | .lst xs=>xs.length<=sizeLine/\∃(its:Ag) (n:Nat),dF xs its/\h.get? a=some { cls:=.type "list",data:=.seq its.toArray n }
 | .tup xs=>(xs.length<=sizeLine/\∃o,h.get? a=some o/\o.dict=none)/\∃its:Ag,dF xs its/\IsTup h a its.toArray
 | .dK kvs=>kvs.length<=sizeLine/\(a == sysModules)=false/\∃vs,KV kvs vs/\h.DictOf (fX P w) a vs
 | .dT kvs=>kvs.length<=sizeLine/\(a == sysModules)=false/\∃xs:List (List fE × Addr × Value),
   Paired (λ(p:List fE × V) (q:List fE × Addr × Value)=>p.1=q.1/\H q.2.1=some (.tup (p.1.map kV))/\dN p.2 q.2.2) kvs xs /\
   ∃o es ep,h.get? a=some o/\o.ExactDict/\o.data=.dict es ep/\es.toList=xs.map (entryOfKey (tupleKind (fX P w)))/\(xs.map (·.1)).Nodup
 | .set S n=>h.SetOf (intKind P w) a S n
 | .ins C dx fs=>H dx=some (.own a)/\fs.length<=1000/\dx≠a/\h.get? a=some (PySem.W.instObj C dx) /\
   ∃mA,h.Ns1 dx mA/\(∀f,sK (fs.lookup f) (mA f))/\PySem.Within mA (fs.map (·.1))
 | .own _=>∃o,h.get? a=some o
 | .xd fs=>∃mA,h.Ns1 a mA/\∀f,sK (fs.lookup f) (mA f)
 | .rng lo hi=>∃t u v,h.get? a=some { cls:=.type "range",data:=.fields #[.int lo t,.int hi u,.int 1 v] }
 | .frz o u=>h.get? a=some o/\fH H h a u
 | .tbl ps=>h.get? a=some { cls:=.none,data:=.fields ps }
 | .met f x=>h.get? a=some (PySem.W.methodObj (.ref f) (.ref x))
 | .ext φ=>φ h/\(∃o,h.get? a=some o)/\∀h1 h2:Heap,φ h1->(∀o,h1.get? a=some o->h2.get? a=some o)->φ h2
def pQ(H:Hp)(h:Heap):Prop:=∀a o,H a=some o->fH P w H h a o
end
section
variable{P:Program}{w:World}{H H':Hp}{h h':Heap}{a:Addr}{o:HO}
theorem fH.lt(x:fH P w H h a o):a<h.objs.size:=by
 cases o with
 | lst xs=>obtain ⟨_,_,_,_,e⟩:=x;exact aV e
 | tup xs=>obtain ⟨_,_,_,p⟩:=x;exact p.lt
 | dK kvs=>obtain ⟨_,_,_,_,o,_,_,e,_⟩:=x;exact aV e
 | dT kvs=>obtain ⟨_,_,_,_,o,_,_,e,_⟩:=x;exact aV e
 | set S n=>obtain ⟨o,_,_,_,e,_⟩:=x;exact aV e
 | ins C dx fs=>obtain ⟨_,_,_,e,_⟩:=x;exact aV e
 | own y=>obtain ⟨_,e⟩:=x;exact aV e
 | xd fs=>obtain ⟨_,⟨_,_,_,e,_⟩,_⟩:=x;exact aV e
 | rng lo hi=>obtain ⟨_,_,_,e⟩:=x;exact aV e
 | frz ob u=>obtain ⟨e,_⟩:=x;exact aV e
 | tbl ps=>exact aV (show h.get? a=some _ from x)
 | met f y=>exact aV (show h.get? a=some _ from x)
 | ext φ=>obtain ⟨_,⟨_,e⟩,_⟩:=x;exact aV e
theorem Paired.mapP{α β:Type}{F G:α->β->Prop}:∀{l₁:List α}{l₂:List β},Paired F l₁ l₂->(∀a b,F a b->G a b)->Paired G l₁ l₂
 | _,_,.nil,_=>.nil
 | _,_,.cons r t,f=>.cons (f _ _ r) (Paired.mapP t f)
def fH.stay(x:fH P w H h a o)(k:∀b u,(b=a\/H b=some (.own a))->h.get? b=some u->h'.get? b=some u)
  (ho:∀b,H b=some (.own a)->H' b=some (.own a)) (ht:∀b xs,H b=some (.tup xs)->H' b=some (.tup xs)):fH P w H' h' a o:=by
 induction o with
 | lst xs=>obtain ⟨z,its,n,r,e⟩:=x;exact ⟨z,its,n,r,k _ _ (.inl rfl) e⟩
 | tup xs=>obtain ⟨⟨z,on,en,dn⟩,its,r,ob,e,c⟩:=x;exact ⟨⟨z,on,k _ _ (.inl rfl) en,dn⟩,its,r,ob,k _ _ (.inl rfl) e,c⟩
 | dK kvs=>obtain ⟨z,y,vs,r,ob,es,ep,e,c⟩:=x;exact ⟨z,y,vs,r,ob,es,ep,k _ _ (.inl rfl) e,c⟩
 | dT kvs =>
  obtain ⟨z,y,xs,r,ob,es,ep,e,c⟩:=x;exact ⟨z,y,xs,Paired.mapP r λp q z=>⟨z.1,ht _ _ z.2.1,z.2.2⟩,ob,es,ep,k _ _ (.inl rfl) e,c⟩
 | set S n=>obtain ⟨ob,es,ep,t,e,c⟩:=x;exact ⟨ob,es,ep,t,k _ _ (.inl rfl) e,c⟩
 | ins C dx fs =>
  obtain ⟨d,z,ne,e,mA,⟨od,es,ep,e2,c⟩,r⟩:=x;exact ⟨ho _ d,z,ne,k _ _ (.inl rfl) e,mA,⟨od,es,ep,k _ _ (.inr d) e2,c⟩,r⟩
 | own y=>obtain ⟨ob,e⟩:=x;exact ⟨ob,k _ _ (.inl rfl) e⟩
 | xd fs=>obtain ⟨mA,⟨od,es,ep,e,c⟩,r⟩:=x;exact ⟨mA,⟨od,es,ep,k _ _ (.inl rfl) e,c⟩,r⟩
 | rng lo hi=>obtain ⟨t,u,v,e⟩:=x;exact ⟨t,u,v,k _ _ (.inl rfl) e⟩
 | frz ob u ih=>obtain ⟨e,q⟩:=x;exact ⟨k _ _ (.inl rfl) e,ih q⟩
 | tbl ps =>
  have e:h.get? a=some { cls:=.none,data:=.fields ps }:=x;show h'.get? a=some { cls:=.none,data:=.fields ps };exact k a _ (.inl rfl) e
 | met f y =>
  have e:h.get? a=some (PySem.W.methodObj (.ref f) (.ref y)):=x;show h'.get? a=some (PySem.W.methodObj (.ref f) (.ref y));exact k a _ (.inl rfl) e
 | ext φ=>obtain ⟨p,⟨o,e⟩,st⟩:=x;exact ⟨st _ _ p λo q=>k _ _ (.inl rfl) q,⟨o,k _ _ (.inl rfl) e⟩,st⟩
theorem pQ.lt(x:pQ P w H h)(e:H a=some o):a<h.objs.size:=(x a o e).lt
def pQ.fresh(x:pQ P w H h)(e:h.objs.size<=a):H a=none:=by
 cases q:H a with
 | none=>rfl
 | some u=>exact absurd (aN (x.lt q) e) (bL _)
def pQ.kept(x:pQ P w H h)(k:∀b u,h.get? b=some u->h'.get? b=some u):pQ P w H h':=λa o e =>
 (x a o e).stay (λb u _ q=>k b u q) (λ_ q=>q) λ_ _ q=>q
def pQ.laid(x:pQ P w H h)(k:∀b u,h.get? b=some u->h'.get? b=some u)(hp:h.objs.size<=a)(new:fH P w (upd H a o) h' a o):pQ P w (upd H a o) h':=λb u e=>by
 have hn:=x.fresh hp;by_cases hb:b=a
 ·subst hb;rw [bO] at e;cases e;exact new
 ·rw [dC hb] at e;exact (x b u e).stay (λc v _ q=>k c v q) (λc q=>by rw [dC (dE q hn)];exact q) λc xs q=>by rw [dC (dE q hn)];exact q
end
def Rd(H:Hp)(a:Addr)(u:HO):Prop:=H a=some u\/∃o,H a=some (.frz o u)
def Rd.ok{P:Program}{w:World}{H:Hp}{h:Heap}{a:Addr}{u:HO}(r:Rd H a u)(x:pQ P w H h):fH P w H h a u:=by
 rcases r with r | ⟨o,r⟩
 ·exact x a u r
 ·obtain ⟨_,q⟩:=x a _ r;exact q
def Mut:Option HO->Prop
 | some (.lst _)=>True
 | some (.dK _)=>True
 | some (.dT _)=>True
 | some (.set _ _)=>True
 | some (.ins _ _ _)=>True
 | some (.ext _)=>True
 | _=>False
section
variable{P:Program}{w:World}{H:Hp}{h h':Heap}{x e:Addr}{o':HO}
def pQ.write(ok:pQ P w H h)(mu:Mut (H x))(he:e=x\/H e=some (.own x))(k:∀b u,b≠e->h.get? b=some u->h'.get? b=some u)(heo:∃u,h'.get? e=some u)
  (new:fH P w (upd H x o') h' x o'):pQ P w (upd H x o') h':=λb u q=>by
 have nown:∀c y,H c=some (.own y)->c≠x:=λc y r z=>by subst z;rw [r] at mu;exact mu
 have ntup:∀c xs,H c=some (.tup xs)->c≠x:=λc xs r z=>by subst z;rw [r] at mu;exact mu
 by_cases hb:b=x
 ·subst hb;rw [bO] at q;cases q;exact new
 ·rw [dC hb] at q;by_cases hbe:b=e
  ·have q':H b=some (.own x):=by
    rcases he with z | z
    ·exact absurd (hbe.trans z) hb
    ·rw [hbe];exact z
   rw [q] at q';cases q';obtain ⟨v,hv⟩:=heo;exact ⟨v,by rw [hbe];exact hv⟩
  ·refine (ok b u q).stay (λc v hc r=>k c v ?_ r) (λc r=>by rw [dC (nown c b r)];exact r) λc xs r=>by rw [dC (ntup c xs r)];exact r
   rcases hc with rfl | hc
   ·exact hbe
   ·rintro rfl;rcases he with z | z
    ·exact nown c b hc z
    ·rw [hc] at z;cases z;exact hb rfl
end
structure Un(fs ex:List Addr)(H H':Hp)(h h':Heap):Prop where
 keep:∀b o,h.get? b=some o->H b=none->b ∉ fs->b ∉ ex->h'.get? b=some o
 slot:∀b o,h.get? b=some o->H b=none->b∈fs->b ∉ ex->∃sl,h'.get? b=some { o with slots:=sl }
 free:∀b o,h.get? b=some o->H b=none->b ∉ ex->H' b=none
 there:∀b o,h.get? b=some o->b ∉ ex->∃o',h'.get? b=some o'
 tups:∀b xs,H b=some (.tup xs)->H' b=some (.tup xs)
 frzs:∀b o u,H b=some (.frz o u)->H' b=some (.frz o u)
 tbls:∀b ps,H b=some (.tbl ps)->∃more,H' b=some (.tbl (ps++more))
section
variable{fs fs' ex ex':List Addr}{H H1 H2:Hp}{h h1 h2 h':Heap}{a x e:Addr}{o:HO}
def Un.any(u:Un fs ex H H1 h h1){b:Addr}{ob:Obj}(q:h.get? b=some ob)(n:H b=none)(hx:b ∉ ex):∃sl,h1.get? b=some { ob with slots:=sl }:=by
 by_cases hb:b∈fs
 ·exact u.slot b ob q n hb hx
 ·exact ⟨ob.slots,u.keep b ob q n hb hx⟩
def Un.kept(k:∀b u,h.get? b=some u->h'.get? b=some u):Un fs ex H H h h' :=
 ⟨λb ob q _ _ _=>k b ob q,λb ob q _ _ _=>⟨ob.slots,k b ob q⟩,λ_ _ _ n _=>n,λb ob q _=>⟨ob,k b ob q⟩,λ_ _ q=>q,λ_ _ _ q=>q,λ_ ps q=>⟨#[],by rw [q];simp⟩⟩
def Un.refl:Un fs ex H H h h:=Un.kept λ_ _ q=>q
def Un.laid(k:∀b u,h.get? b=some u->h'.get? b=some u)(hp:h.objs.size<=a)(hn:H a=none):Un fs ex H (upd H a o) h h' where
 keep:=λb u q _ _ _=>k b u q
 slot:=λb u q _ _ _=>⟨u.slots,k b u q⟩
 free:=λb u q n _=>by rw [dC (cA (aN (aV q) hp))];exact n
 there:=λb u q _=>⟨u,k b u q⟩
 tups:=λb xs q=>by rw [dC (dE q hn)];exact q
 frzs:=λb u xs q=>by rw [dC (dE q hn)];exact q
 tbls:=λb ps q=>⟨#[],by rw [dC (dE q hn),q];simp⟩
def Un.write(mu:Mut (H x))(he:e=x\/H e=some (.own x))(k:∀b u,b≠e->h.get? b=some u->h'.get? b=some u)(heo:∃u,h'.get? e=some u):Un fs ex H (upd H x o) h h':=by
 have hx:∀b,H b=none->b≠x:=λb n z=>by subst z;rw [n] at mu;exact mu
 have hb:∀b,H b=none->b≠e:=λb n z=>by
  subst z;rcases he with r | r
  ·exact hx b n r
  ·rw [n] at r;cases r
 have hm:∀b u,H b=some u->¬Mut (some u)->b≠x:=λb u q nm z=>by subst z;rw [q] at mu;exact nm mu
 refine ⟨λb u q n _ _=>k b u (hb b n) q,λb u q n _ _=>⟨u.slots,k b u (hb b n) q⟩,λb u q n _=>by rw [dC (hx b n)];exact n,λb u q _=>?_,
  λb xs q=>by rw [dC (hm b _ q λz=>z)];exact q,λb u xs q=>by rw [dC (hm b _ q λz=>z)];exact q,λb ps q=>⟨#[],by rw [dC (hm b _ q λz=>z),q];simp⟩⟩
 by_cases hbe:b=e
 ·subst hbe;exact heo
 ·exact ⟨u,k b u hbe q⟩
end
def trk(h:Heap)(H:Hp):List Addr:=(List.range h.objs.size).filter λa=>(H a).isSome
def CQ(h:Heap)(H:Hp):Heap:=PySem.W.hideAll h (trk h H)
def NE(h:Heap)(H:Hp):(CQ h H).objs.size=h.objs.size:=PySem.W.hideAll_size _ _
def RY{h:Heap}{H:Hp}{b:Addr}{o:Obj}(e:h.get? b=some o)(n:H b=none):(CQ h H).get? b=some o :=
 PySem.W.hideAll_get _ e λhm=>by
  have q:(H b).isSome=true:=(cR.mp hm).2;rw [n] at q;simp at q
def WY{h:Heap}{H:Hp}{b:Addr}{o:Obj}(e:(CQ h H).get? b=some o):h.get? b=some o/\H b=none:=by
 have e':h.get? b=some o:=PySem.W.of_hideAll (trk h H) e;refine ⟨e',?_⟩;cases q:H b with
 | none=>rfl
 | some x =>
  have hm:b∈trk h H:=cR.mpr ⟨bU.mpr (aV e'),by simp [q]⟩;have z:(CQ h H).get? b=none:=PySem.W.hideAll_none (trk h H) hm;rw [z] at e;cases e
structure Mod(K:Aa)(mg:Str->Option Value)(base:Heap):Prop where
 kin:K.In base
 glob:base.Ns mainGlobals mg
 blt:∃mb,base.Ns builtinsNs mb/\∀x:Str,x ≠ "__name__" -> mb x=bootBuiltins x
 nolimit:base.NoLimit
/-- the context: a def's body (or a comprehension's block) running. base: fixed through the whole law;s₀,H₀: the entry;outer: the frames whose slots others may change (a def's callers);stack: all frames that run;
   ex: iterators that were made ahead of the entry and are walked here (a comprehension's);fn: the names whose cells were made at the entry (a def: all;a comprehension's block: its own);calm: not within an except suite;pn: pins that every state bears;xe: what is wanted of an exception that leaves the code -/
structure Cx where
 prog:Program
 w:World
 K:Aa
 mg:Str->Option Value
 base:Heap
 A:Around
 N:Ah
 s₀:Shared
 H₀:Hp
 env:Env
 outer:List Env
 stack:List Env
 ex:List Addr
 fn:Str->Bool
 calm:Bool
 pn:Ad
 xe:Value->Shared->Prop
def frs(l:List Env):List Addr:=l.filterMap (·.frame)
abbrev Cx.fs(X:Cx):List Addr:=frs X.outer
def Vis(sc:Scope)(x:Str):Prop:=sc.names.lookup x=some .local\/sc.names.lookup x=some .cell\/sc.names.lookup x=some .free
def Loc(sc:Scope)(x:Str):Prop:=sc.names.lookup x=some .local\/sc.names.lookup x=some .cell
def aEP(env:Env)(h:Heap)(m:Str->Option Value)(x:Str)(u:Value):Prop :=
 (env.kindOf x=some .local/\m x=some u)\/((env.kindOf x=some .cell\/env.kindOf x=some .free)/\∃c,env.cells.lookup x=some c/\h.IsCell c (some u))
structure Cx.Ok(X:Cx):Prop where
 mod:Mod X.K X.mg X.base
 kind:X.env.scope.kind=.function
 glob:X.env.globals=mainGlobals
 blt:X.env.builtins=builtinsNs
 above:X.s₀.heap.objs.size<=X.env.locals
 inj:∀x y c,X.env.cells.lookup x=some c->X.env.cells.lookup y=some c->x=y
 has:∀x,(X.env.kindOf x=some .cell\/X.env.kindOf x=some .free)->∃c,X.env.cells.lookup x=some c
 cab:∀x c,X.fn x=true->X.env.cells.lookup x=some c->X.s₀.heap.objs.size<=c
 hd:X.calm=true->X.A.handled=none
 frames:X.A.frames=some X.stack
 stk:X.stack=X.outer\/(X.stack=X.env::X.outer/\X.env.frame=some X.env.locals)
 exf:∀b∈X.ex,b≠X.env.locals/\∀x c,X.env.cells.lookup x=some c->c≠b
 bs:∀b o,X.base.get? b=some o->X.s₀.heap.get? b=some o/\X.H₀ b=none
 bsz:X.base.objs.size<=X.s₀.heap.objs.size
 noex:∀b o,X.base.get? b=some o->b ∉ X.ex
 exfs:∀b∈X.ex,b ∉ X.fs
 funs:X.s₀.heap.FunFrames X.base X.outer
 frf:∀b∈X.fs,X.H₀ b=none
structure cI(X:Cx)(pins:Ad)(σ:List (Option V))(H:Hp)(s:Shared):Prop where
 ok:X.Ok
 os:s.os=X.s₀.os
 bare:AllBare s.gens
 base:Un X.fs X.ex X.H₀ H X.s₀.heap s.heap
 loc:∃m,s.heap.Ns X.env.locals m/\∀(i:Nat) (x:Str) (v:V),X.N[i]?=some x->σ[i]?=some (some v)->Vis X.env.scope x->∃u,dN v u/\aEP X.env s.heap m x u
 cell:∀x c,X.env.cells.lookup x=some c->∃v,s.heap.IsCell c v
 free:H X.env.locals=none
 freeC:∀x c,X.env.cells.lookup x=some c->H c=none
 pin:∀p∈X.pn++pins,s.heap.get? p.1=some p.2/\H p.1=none/\p.1≠X.env.locals/\p.1 ∉ X.fs/\∀v,p.2.data ≠ .cell v
 hok:pQ X.prog X.w H s.heap
 len:σ.length=X.N.length
section
variable{X:Cx}{pins:Ad}{σ:List (Option V)}{H H':Hp}{s:Shared}{h':Heap}
def Cx.Ok.nofr(ok:X.Ok){b:Addr}{o:Obj}(e:X.base.get? b=some o):b ∉ X.fs:=λhb=>by
 have:=(ok.funs.mem hb).1;rw [e] at this;cases this
theorem cI.bs(I:cI X pins σ H s):∀b o,X.base.get? b=some o->s.heap.get? b=some o/\H b=none:=λb o e =>
 ⟨I.base.keep b o (I.ok.bs b o e).1 (I.ok.bs b o e).2 (I.ok.nofr e) (I.ok.noex b o e),I.base.free b o (I.ok.bs b o e).1 (I.ok.bs b o e).2 (I.ok.noex b o e)⟩
def cI.bk(I:cI X pins σ H s):∀b o,X.base.get? b=some o->s.heap.get? b=some o:=λb o e=>(I.bs b o e).1
theorem cI.mod(I:cI X pins σ H s):Mod X.K X.mg X.base:=I.ok.mod
def cI.kIn(I:cI X pins σ H s):X.K.In s.heap:=I.ok.mod.kin.keeps I.bk
theorem cI.lt(I:cI X pins σ H s):X.env.locals<s.heap.objs.size:=let ⟨_,hn,_⟩:=I.loc;hn.lt
def cI.sz(I:cI X pins σ H s):X.s₀.heap.objs.size<=s.heap.objs.size:=aM I.ok.above (Nat.le_of_lt I.lt)
def cI.nofs(I:cI X pins σ H s){a:Addr}(h:s.heap.objs.size<=a):a ∉ X.fs:=λhb=>by
 obtain ⟨_,o,ho,_⟩:=I.ok.funs.mem hb;exact absurd (aN (aV ho) (aM I.sz h)) (bL _)
def cI.cne(I:cI X pins σ H s):∀x c,X.env.cells.lookup x=some c->c≠X.env.locals:=λx c e z=>by
 obtain ⟨v,o,ho,hd⟩:=I.cell x c e;obtain ⟨m,⟨o',es,ep,ho',hd',_⟩,_⟩:=I.loc;rw [z,ho'] at ho;cases ho;rw [hd'] at hd;cases hd
theorem cI.funs(I:cI X pins σ H s):s.heap.FunFrames X.base X.outer:=by
 have all:∀(l:List Env),(∀b∈frs l,b∈X.fs)->X.s₀.heap.FunFrames X.base l->s.heap.FunFrames X.base l:=by
  intro l
  induction l with
  | nil=>intro _ _;trivial
  | cons env r ih =>
   intro hs hl;obtain ⟨hk,⟨L,o,hf,hn,ho,hd⟩,hr⟩:=hl;have hL:L∈X.fs:=hs L (by unfold frs;rw [List.filterMap_cons,hf];exact aS);obtain ⟨sl,e⟩:=I.base.slot L o ho (I.ok.frf L hL) hL λz=>I.ok.exfs L z hL;exact ⟨hk,⟨L,_,hf,hn,e,hd⟩,ih (λb hb=>hs b (by unfold frs;rw [List.filterMap_cons,hf];exact aT _ hb)) hr⟩
 exact all X.outer (λ_ hb=>hb) I.ok.funs
theorem cI.stack(I:cI X pins σ H s):s.heap.FunFrames X.base X.stack:=by
 rcases I.ok.stk with e | ⟨e,hf⟩
 ·rw [e];exact I.funs
 ·rw [e];obtain ⟨m,hn,_⟩:=I.loc;refine .cons (by rw [I.ok.kind];decide) hf hn ?_ I.funs;exact Heap.get?_none_of_le (aM I.ok.bsz I.ok.above)
def cI.stkSub(I:cI X pins σ H s):∀b∈frs X.stack,b∈X.env.locals::X.fs:=λb hb=>by
 rcases I.ok.stk with e | ⟨e,hf⟩
 ·rw [e] at hb;exact aT _ hb
 ·rw [e] at hb;unfold frs at hb;rw [List.filterMap_cons,hf] at hb;exact hb
def cI.stkFree(I:cI X pins σ H s):∀b∈frs X.stack,H b=none:=λb hb=>by
 rcases aZ.mp (I.stkSub b hb) with e | hb
 ·rw [e];exact I.free
 ·obtain ⟨_,o,ho,_⟩:=I.ok.funs.mem hb;exact I.base.free b o ho (I.ok.frf b hb) λz=>I.ok.exfs b z hb
def cI.step{g':Array GenState}{t':Nat}{d':Drawn}{ch:List Addr}(I:cI X pins σ H s)
  (hch:∀b∈ch,(b∈X.ex\/X.s₀.heap.objs.size<=b)/\b≠X.env.locals/\(∀x c,X.env.cells.lookup x=some c->c≠b)/\∀p∈X.pn++pins,p.1≠b)
  (keep:∀b o,b≠X.env.locals->b ∉ X.fs->b ∉ ch->s.heap.get? b=some o->H b=none->h'.get? b=some o)
  (slot:∀b o,b≠X.env.locals->b∈X.fs->b ∉ ch->s.heap.get? b=some o->H b=none->∃sl,h'.get? b=some { o with slots:=sl }) (free:∀b o,b ∉ ch->s.heap.get? b=some o->H b=none->H' b=none)
  (there:∀b o,b ∉ ch->s.heap.get? b=some o->∃o',h'.get? b=some o')
  (tups:∀b xs,H b=some (.tup xs)->H' b=some (.tup xs)) (frzs:∀b o u,H b=some (.frz o u)->H' b=some (.frz o u)) (tbls:∀b ps,H b=some (.tbl ps)->∃more,H' b=some (.tbl (ps++more)))
  (ns:∀m,s.heap.Ns X.env.locals m->h'.Ns X.env.locals m) (hok:pQ X.prog X.w H' h') (hg:AllBare g') :
  cI X pins σ H' { s with heap:=h',gens:=g',drawn:=d',toks:=t' }:=by
 have neL:∀b o,X.s₀.heap.get? b=some o->b≠X.env.locals:=λb o e=>cA (aN (aV e) I.ok.above);have neC:∀b o,X.s₀.heap.get? b=some o->b ∉ X.ex->b ∉ ch:=λb o e hx hb=>by
  rcases (hch b hb).1 with z | z
  ·exact hx z
  ·exact absurd (aN (aV e) z) (bL _)
 have cellK:∀x c,X.env.cells.lookup x=some c->∀v,s.heap.IsCell c v->h'.IsCell c v:=λx c e v ⟨o,ho,hd⟩=>by
  have nch:c ∉ ch:=λz=>(hch c z).2.2.1 x c e rfl;by_cases hc:c∈X.fs
  ·obtain ⟨sl,q⟩:=slot c o (I.cne x c e) hc nch ho (I.freeC x c e);exact ⟨_,q,hd⟩
  ·exact ⟨o,keep c o (I.cne x c e) hc nch ho (I.freeC x c e),hd⟩
 refine ⟨I.ok,I.os,hg,⟨λb o e n hb hx=>?_,λb o e n hb hx=>?_,λb o e n hx=>?_,λb o e hx=>?_,λb xs e=>tups b xs (I.base.tups b xs e),λb o xs e=>frzs b o xs (I.base.frzs b o xs e),λb ps e=>?_⟩,?_,λx c e=>?_,?_,λx c e=>?_,λp hp=>?_,hok,I.len⟩
 ·exact keep b o (neL b o e) hb (neC b o e hx) (I.base.keep b o e n hb hx) (I.base.free b o e n hx)
 ·obtain ⟨sl,e1⟩:=I.base.slot b o e n hb hx;obtain ⟨sl',e2⟩:=slot b _ (neL b o e) hb (neC b o e hx) e1 (I.base.free b o e n hx);exact ⟨sl',e2⟩
 ·obtain ⟨o',e1⟩:=I.base.there b o e hx;exact free b o' (neC b o e hx) e1 (I.base.free b o e n hx)
 ·obtain ⟨o',e1⟩:=I.base.there b o e hx;exact there b o' (neC b o e hx) e1
 ·obtain ⟨m1,e1⟩:=I.base.tbls b ps e;obtain ⟨m2,e2⟩:=tbls b _ e1;exact ⟨m1++m2,by rw [e2,Array.append_assoc]⟩
 ·obtain ⟨m,hn,hl⟩:=I.loc;refine ⟨m,ns m hn,λi x v e1 e2 e3=>?_⟩;obtain ⟨u,r,l⟩:=hl i x v e1 e2 e3;refine ⟨u,r,?_⟩;rcases l with l | ⟨k,c,e,z⟩
  ·exact .inl l
  ·exact .inr ⟨k,c,e,cellK x c e _ z⟩
 ·obtain ⟨v,z⟩:=I.cell x c e;exact ⟨v,cellK x c e v z⟩
 ·obtain ⟨m,⟨o,_,_,ho,_⟩,_⟩:=I.loc;exact free _ o (λz=>(hch _ z).2.1 rfl) ho I.free
 ·obtain ⟨v,o,ho,hd⟩:=I.cell x c e;exact free c o (λz=>(hch c z).2.2.1 x c e rfl) ho (I.freeC x c e)
 ·obtain ⟨e,n,ne,nf,d⟩:=I.pin p hp;have nch:p.1 ∉ ch:=λz=>(hch p.1 z).2.2.2 p hp rfl;exact ⟨keep p.1 p.2 ne nf nch e n,free p.1 p.2 nch e n,ne,nf,d⟩
def cI.un{t':Nat}(I:cI X pins σ H s)(u:Un X.fs [] H H' s.heap h')(hok:pQ X.prog X.w H' h'):cI X pins σ H' { s with heap:=h',toks:=t' }:=by
 obtain ⟨m,⟨o,es,ep,ho,r⟩,_⟩:=id I.loc;obtain ⟨sl,hL⟩:=u.any ho I.free (by simp);exact I.step (g':=s.gens) (d':=s.drawn) (ch:=[]) (λ_ z=>nomatch z) (λb o _ hb _ e n=>u.keep b o e n hb (by simp)) (λb o _ hb _ e n=>u.slot b o e n hb (by simp)) (λb o _ e n=>u.free b o e n (by simp)) (λb o _ e=>u.there b o e (by simp)) u.tups u.frzs u.tbls (λm' hm=>by
  obtain ⟨o',es',ep',ho',r'⟩:=hm;rw [ho] at ho';cases ho';exact ⟨_,es',ep',hL,r'⟩) hok I.bare
def cI.call{g':Array GenState}{t':Nat}{d':Drawn}{ch:List Addr}(I:cI X pins σ H s)(u:Un (frs X.stack) ch H H' s.heap h')(hok:pQ X.prog X.w H' h')(hg:AllBare g')
  (hch:∀b∈ch,(b∈X.ex\/X.s₀.heap.objs.size<=b)/\b≠X.env.locals/\(∀x c,X.env.cells.lookup x=some c->c≠b)/\∀p∈X.pn++pins,p.1≠b) :
  cI X pins σ H' { s with heap:=h',gens:=g',drawn:=d',toks:=t' }:=by
 obtain ⟨m,⟨o,es,ep,ho,r⟩,_⟩:=id I.loc;obtain ⟨sl,hL⟩:=u.any ho I.free λz=>(hch _ z).2.1 rfl;exact I.step (ch:=ch) hch (λb o hL hb hc e n=>u.keep b o e n (λz=>(aZ.mp (I.stkSub b z)).elim hL hb) hc) (λb o _ _ hc e n=>u.any e n hc) (λb o hc e n=>u.free b o e n hc) (λb o hc e=>u.there b o e hc) u.tups u.frzs u.tbls (λm' hm=>by
  obtain ⟨o',es',ep',ho',r'⟩:=hm;rw [ho] at ho';cases ho';exact ⟨_,es',ep',hL,r'⟩) hok hg
def cI.turned{t':Nat}{it:Addr}(I:cI X pins σ H s)(k:∀b o,b≠it->s.heap.get? b=some o->h'.get? b=some o)(hn:H it=none)(hL:it≠X.env.locals)
  (h1:it∈X.ex\/X.s₀.heap.objs.size<=it) (h2:∀x c,X.env.cells.lookup x=some c->c≠it) (h3:∀p∈X.pn++pins,p.1≠it):cI X pins σ H { s with heap:=h',toks:=t' }:=by
 have nit:∀b u,H b=some u->b≠it:=λb u e z=>by rw [z,hn] at e;cases e
 refine I.step (g':=s.gens) (d':=s.drawn) (ch:=[it]) (λb hb=>?_) (λb o _ _ hc e _=>k b o (λz=>hc (by simp [z])) e) (λb o _ _ hc e _=>⟨o.slots,k b o (λz=>hc (by simp [z])) e⟩) (λ_ _ _ _ n=>n)
  (λb o hc e=>⟨o,k b o (λz=>hc (by simp [z])) e⟩) (λ_ _ e=>e) (λ_ _ _ e=>e) (λb ps e=>⟨#[],by rw [e];simp⟩) (λm hm=>?_) (λb u e=>?_) I.bare
 ·have e:b=it:=by simpa using hb
  subst e;exact ⟨h1,hL,h2,h3⟩
 ·obtain ⟨o,es,ep,ho,r⟩:=hm;exact ⟨o,es,ep,k _ o (Ne.symm hL) ho,r⟩
 ·refine (I.hok b u e).stay (λc v hc q=>k c v ?_ q) (λ_ q=>q) λ_ _ q=>q;rcases hc with z | z
  ·rw [z];exact nit b u e
  ·exact nit c _ z
def cI.tok(I:cI X pins σ H s)(t:Nat):cI X pins σ H { s with toks:=t }:=I.un (h':=s.heap) (t':=t) Un.refl I.hok
theorem cI.kept{t':Nat}(I:cI X pins σ H s)(k:∀b u,s.heap.get? b=some u->h'.get? b=some u):cI X pins σ H { s with heap:=h',toks:=t' }:=I.un (Un.kept k) (I.hok.kept k)
theorem cI.laid{a:Addr}{o:HO}{t':Nat}(I:cI X pins σ H s)(k:∀b u,s.heap.get? b=some u->h'.get? b=some u)(hp:s.heap.objs.size<=a)(new:fH X.prog X.w (upd H a o) h' a o) :
  cI X pins σ (upd H a o) { s with heap:=h',toks:=t' }:=I.un (Un.laid k hp (I.hok.fresh hp)) (I.hok.laid k hp new)
theorem cI.write{x e:Addr}{o:HO}{t':Nat}(I:cI X pins σ H s)(mu:Mut (H x))(he:e=x\/H e=some (.own x))(k:∀b u,b≠e->s.heap.get? b=some u->h'.get? b=some u)(heo:∃u,h'.get? e=some u)
  (new:fH X.prog X.w (upd H x o) h' x o):cI X pins σ (upd H x o) { s with heap:=h',toks:=t' }:=I.un (Un.write mu he k heo) (I.hok.write mu he k heo new)
def cI.pins_of{pins':Ad}(I:cI X pins σ H s)(h:∀p∈pins',s.heap.get? p.1=some p.2/\H p.1=none/\p.1≠X.env.locals/\p.1 ∉ X.fs/\∀v,p.2.data ≠ .cell v):cI X pins' σ H s :=
 ⟨I.ok,I.os,I.bare,I.base,I.loc,I.cell,I.free,I.freeC,λp hp=>(cB.mp hp).elim (λz=>I.pin p (bY _ z)) (h p),I.hok,I.len⟩
def FE{N:Ah}(hN:N.Nodup){i j:Nat}{x:Str}(a:N[i]?=some x)(b:N[j]?=some x):i=j:=by
 obtain ⟨h1,e1⟩:=aF.mp a;obtain ⟨h2,e2⟩:=aF.mp b;exact (List.getElem_inj hN).mp (e1.trans e2.symm)
def rA{M:Model}{A:Around}{E:Value->Shared->Prop}{i:Nat}{x:Str}{v:V}{u:Value}{Q:Unit->Shared->Prop}(I:cI X pins σ H s)(hN:X.N.Nodup)(hi:X.N[i]?=some x)(hx:Loc X.env.scope x)(r:dN v u)
  (h:∀s',cI X pins (σ.set i (some v)) H s'->(∃a,Heap.SameBut a s.heap s'.heap/\(a=X.env.locals\/X.env.cells.lookup x=some a))->Q () s') (hf:X.fn x=true\/X.env.scope.names.lookup x=some .local:=by first | exact .inl rfl | exact .inr rfl | assumption):wpAny M A (storeName X.env x u) Q E s:=by
 obtain ⟨m,hn,hl⟩:=id I.loc;have hcls:(X.env.scope.kind == .class || (X.env.scope.kind == .module&&X.env.locals != X.env.globals))=false:=by rw [I.ok.kind];rfl
 have hiσ:i<σ.length:=by rw [I.len];exact (aF.mp hi).1
 have cne:=I.cne;have tracked:∀{a:Addr} {h':Heap},(∃o,s.heap.get? a=some o/\H a=none)->Heap.SameBut a s.heap h'->pQ X.prog X.w H h':=λ{a h'} ha hs b ob e=>by
  obtain ⟨_,_,hfree⟩:=ha;refine (I.hok b ob e).stay (λc w' hc q=>(hs.2 c ?_).trans q) (λ_ q=>q) λ_ _ q=>q;rintro rfl;rcases hc with rfl | hc
  ·rw [hfree] at e;cases e
  ·rw [hfree] at hc;cases hc
 rcases hx with hk | hk
 ·refine wpAny_storeName_local hk hn (λh' hn' hs=>?_) hcls;obtain ⟨oL,_,_,hoL,_⟩:=id hn;refine h _ ⟨I.ok,I.os,I.bare,⟨λb o e n hb hx=>?_,λb o e n hb hx=>?_,I.base.free,λb o e hx=>?_,I.base.tups,I.base.frzs,I.base.tbls⟩,⟨_,hn',λj y v' e1 e2 e3=>?_⟩,λy c e=>?_,I.free,I.freeC,λp hp=>?_,tracked ⟨oL,hoL,I.free⟩ hs,by simpa using I.len⟩ ⟨_,hs,.inl rfl⟩
  ·exact (hs.2 b (cA (aN (aV e) I.ok.above))).trans (I.base.keep b o e n hb hx)
  ·obtain ⟨sl,e1⟩:=I.base.slot b o e n hb hx;exact ⟨sl,(hs.2 b (cA (aN (aV e) I.ok.above))).trans e1⟩
  ·obtain ⟨o',e1⟩:=I.base.there b o e hx;exact ⟨o',(hs.2 b (cA (aN (aV e) I.ok.above))).trans e1⟩
  ·by_cases hj:j=i
   ·subst hj;rw [hi] at e1;cases e1;rw [List.getElem?_set_self hiσ] at e2;cases e2;exact ⟨u,r,.inl ⟨hk,by simp⟩⟩
   ·rw [List.getElem?_set_ne (Ne.symm hj)] at e2;obtain ⟨u',r',q⟩:=hl j y v' e1 e2 e3;refine ⟨u',r',?_⟩;rcases q with ⟨k,e⟩ | ⟨k,c,e,z⟩
    ·refine .inl ⟨k,?_⟩;have:y≠x:=λe=>hj (FE hN e1 (e ▸ hi));simp [this,e]
    ·exact .inr ⟨k,c,e,z.sameBut hs (cne y c e)⟩
  ·obtain ⟨w',z⟩:=I.cell y c e;exact ⟨w',z.sameBut hs (cne y c e)⟩
  ·obtain ⟨e,n,ne,nf,d⟩:=I.pin p hp;exact ⟨(hs.2 p.1 ne).trans e,n,ne,nf,d⟩
 ·have hfn:X.fn x=true:=by
   rcases hf with z | z
   ·exact z
   ·rw [z] at hk;cases hk
  obtain ⟨c,hc⟩:=I.ok.has x (.inl hk);obtain ⟨w',z⟩:=I.cell x c hc;refine wpAny_storeName_cell I.ok.kind hk hc z (λh' hc' hs=>?_);obtain ⟨oc,hoc,hocd⟩:=id z;refine h { s with heap:=h' } ⟨I.ok,I.os,I.bare,⟨λb o e n hb hx=>?_,λb o e n hb hx=>?_,I.base.free,λb o e hx=>?_,I.base.tups,I.base.frzs,I.base.tbls⟩,⟨m,hn.sameBut hs (Ne.symm (cne x c hc)),λj y v' e1 e2 e3=>?_⟩,λy c' e=>?_,I.free,I.freeC,λp hp=>?_,tracked ⟨oc,hoc,I.freeC x c hc⟩ hs,by simpa using I.len⟩ ⟨c,hs,.inr hc⟩
  ·exact (hs.2 b (cA (aN (aV e) (I.ok.cab x c hfn hc)))).trans (I.base.keep b o e n hb hx)
  ·obtain ⟨sl,e1⟩:=I.base.slot b o e n hb hx;exact ⟨sl,(hs.2 b (cA (aN (aV e) (I.ok.cab x c hfn hc)))).trans e1⟩
  ·obtain ⟨o',e1⟩:=I.base.there b o e hx;exact ⟨o',(hs.2 b (cA (aN (aV e) (I.ok.cab x c hfn hc)))).trans e1⟩
  ·by_cases hj:j=i
   ·subst hj;rw [hi] at e1;cases e1;rw [List.getElem?_set_self hiσ] at e2;cases e2;exact ⟨u,r,.inr ⟨.inl hk,c,hc,hc'⟩⟩
   ·rw [List.getElem?_set_ne (Ne.symm hj)] at e2;obtain ⟨u',r',q⟩:=hl j y v' e1 e2 e3;refine ⟨u',r',?_⟩;rcases q with q | ⟨k,c',e,z'⟩
    ·exact .inl q
    ·refine .inr ⟨k,c',e,z'.sameBut hs ?_⟩;rintro rfl;exact hj (FE hN e1 (I.ok.inj _ _ _ e hc ▸ hi))
  ·by_cases hcc:c'=c
   ·subst hcc;exact ⟨_,hc'⟩
   ·obtain ⟨w2,z2⟩:=I.cell y c' e;exact ⟨w2,z2.sameBut hs hcc⟩
  ·obtain ⟨e,n,ne,nf,d⟩:=I.pin p hp;refine ⟨(hs.2 p.1 ?_).trans e,n,ne,nf,d⟩;intro q;rw [q,hoc] at e;have q':oc=p.2:=fW e;exact d w' (by rw [<-q'];exact hocd)
def oF{M:Model}{A:Around}{E:Value->Shared->Prop}{i:Nat}{x:Str}{v:V}{u:Value}{Q:Unit->Shared->Prop}(I:cI X pins σ H s)(hN:X.N.Nodup)(hi:X.N[i]?=some x)(hx:Loc X.env.scope x)(r:dN v u)
  (h:∀s',cI X pins (σ.set i (some v)) H s'->Q () s') (hf:X.fn x=true\/X.env.scope.names.lookup x=some .local:=by first | exact .inl rfl | exact .inr rfl | assumption):wpAny M A (storeName X.env x u) Q E s :=
 rA I hN hi hx r (λs' I' _=>h s' I') hf
def cI.call'{s':Shared}{ch:List Addr}(I:cI X pins σ H s)(ho:s'.os=s.os)(u:Un (frs X.stack) ch H H' s.heap s'.heap)(hok:pQ X.prog X.w H' s'.heap)(hg:AllBare s'.gens)
  (hch:∀b∈ch,(b∈X.ex\/X.s₀.heap.objs.size<=b)/\b≠X.env.locals/\(∀x c,X.env.cells.lookup x=some c->c≠b)/\∀p∈X.pn++pins,p.1≠b):cI X pins σ H' s':=by
 obtain ⟨h',g',d',t',o'⟩:=s';have e:o'=s.os:=ho;subst e;exact I.call (g':=g') (t':=t') (d':=d') u hok hg hch
end
abbrev XK:=Value->Option Addr->Hp->Prop
abbrev St:=List (Option V)
abbrev _root_.Am:=Option V
abbrev _root_.Al:=List V
abbrev VK:=V->Hp->Prop
abbrev TE:=St->Hp->VK->Prop
abbrev TT:=St->Hp->(Bool->Hp->Prop)->Prop
abbrev TA:=St->Hp->(Al->Hp->Prop)->Prop
structure uI where
 nx:St->Hp->Prop
 rt:VK
 bk:St->Hp->Prop:=λ_ _=>False
 ct:St->Hp->Prop:=λ_ _=>False
abbrev TS:=uI->St->Hp->Prop
def EP(X:Cx)(pins:Ad)(σ:St)(Q:VK)(u:Value)(s':Shared):Prop:=∃v H',cI X pins σ H' s'/\dN v u/\Q v H'
def TP(X:Cx)(pins:Ad)(σ:St)(Q:Bool->Hp->Prop)(b:Bool)(s':Shared):Prop:=∃H',cI X pins σ H' s'/\Q b H'
def AP(X:Cx)(pins:Ad)(σ:St)(Q:Al->Hp->Prop)(us:Ag)(s':Shared):Prop:=∃vs H',cI X pins σ H' s'/\dF vs us/\Q vs H'
def SP(X:Cx)(pins:Ad)(D:uI)(f:Flow)(s':Shared):Prop :=
 match f with
 | .next=>∃σ' H',cI X pins σ' H' s'/\D.nx σ' H'
 | .brk=>∃σ' H',cI X pins σ' H' s'/\D.bk σ' H'
 | .cont=>∃σ' H',cI X pins σ' H' s'/\D.ct σ' H'
 | .ret u=>∃v σ' H',cI X pins σ' H' s'/\dN v u/\D.rt v H'
def PE(X:Cx)(e:Expr)(t:TE):Prop :=
 ∀(pins:Ad) (s:Shared) (σ:St) (H:Hp) (Q:VK),cI X pins σ H s->t σ H Q->wpAny (model X.prog X.w) X.A (eval e X.env) (EP X pins σ Q) X.xe s
def PT(X:Cx)(e:Expr)(t:TT):Prop :=
 ∀(pins:Ad) (s:Shared) (σ:St) (H:Hp) (Q:Bool->Hp->Prop),cI X pins σ H s->t σ H Q->wpAny (model X.prog X.w) X.A (isTrue e X.env (eval e X.env)) (TP X pins σ Q) X.xe s
def PW(X:Cx)(e:Expr)(t:TT):Prop :=
 ∀(whole:Sem Value) (pins:Ad) (s:Shared) (σ:St) (H:Hp) (Q:Bool->Hp->Prop),cI X pins σ H s->t σ H Q->wpAny (model X.prog X.w) X.A (isTrue e X.env whole) (TP X pins σ Q) X.xe s
def PW.pt{X:Cx}{e:Expr}{t:TT}(h:PW X e t):PT X e t:=h _
def PA(X:Cx)(es:List Expr)(t:TA):Prop :=
 ∀(pos:Pos) (pins:Ad) (s:Shared) (σ:St) (H:Hp) (Q:Al->Hp->Prop),cI X pins σ H s->t σ H Q->wpAny (model X.prog X.w) X.A (spliced (backTo pos (starEach es X.env))) (AP X pins σ Q) X.xe s
def PS(X:Cx)(st:Stmt)(t:TS):Prop :=
 ∀(pins:Ad) (s:Shared) (σ:St) (H:Hp) (D:uI),cI X pins σ H s->t D σ H->wpAny (model X.prog X.w) X.A (exec st X.env) (SP X pins D) X.xe s
def IU(X:Cx)(st:List Stmt)(t:TS):Prop :=
 ∀(pins:Ad) (s:Shared) (σ:St) (H:Hp) (D:uI),cI X pins σ H s->t D σ H->wpAny (model X.prog X.w) X.A (execs st X.env) (SP X pins D) X.xe s
def thn{α:Type}{t:Sem α}{Q Q':α->Shared->Prop}{M:Model}{A:Around}{E:Value->Shared->Prop}{s:Shared}(h:wpAny M A t Q E s)(hQ:∀a s,Q a s->Q' a s):wpAny M A t Q' E s:=wpAny_mono h hQ λ_ _ x=>x
section
variable{X:Cx}
def aAi(i:Nat):TE:=λσ H Q=>∃v,σ[i]?=some (some v)/\Q v H
def tC(v:V):TE:=λ_ H Q=>Q v H
def aBf{i:Nat}{x:Str}{pos:Pos}(hN:X.N[i]?=some x)(hv:Vis X.env.scope x)(hd:(x == ("__debug__" : Str))=false:=by decide)(hcd:(x == ("__classdict__" : Str))=false:=by decide):PE X (.Name x pos) (aAi i):=by
 intro pins s σ H Q I h;obtain ⟨v,e,h⟩:=h;obtain ⟨m,hn,hl⟩:=I.loc;obtain ⟨u,r,l⟩:=hl i x v hN e hv;have fin:EP X pins σ Q u s:=⟨v,H,I,r,h⟩;rcases l with ⟨hk,hm⟩ | ⟨hk,c,hc,hcell⟩
 ·exact wpAny_Name (wpAny_loadName_local I.ok.kind hk hn hm fin) hd
 ·rcases hk with hk | hk
  ·exact wpAny_Name (wpAny_loadName_cell I.ok.kind hk hc hcell fin) hd
  ·exact wpAny_Name (wpAny_loadName_free I.ok.kind hk hc hcell fin hcd) hd
def pe_int{i j pos}:PE X (.Constant (.int i) j pos) (tC (.int i)):=λ_ _ _ H _ I h=>wpAny_Constant_int ⟨.int i,H,I.tok _,⟨_,rfl⟩,h⟩
def pe_bl{b j pos}:PE X (.Constant (.bool b) j pos) (tC (.bl b)):=λ_ _ _ H _ I h=>Constant_bool ⟨.bl b,H,I,rfl,h⟩
def pe_str{x j pos}:PE X (.Constant (.str x) j pos) (tC (.str x)):=λ_ _ _ H _ I h=>Calls.Constant_str ⟨.str x,H,I.tok _,⟨_,rfl⟩,h⟩
def Gl(X:Cx)(x:Str):Prop:=X.env.kindOf x=some .globalImplicit
def wV{E:Value->Shared->Prop}{pins:Ad}{s:Shared}{σ:St}{H:Hp}{x:Str}{u:Value}{pos:Pos}{Q:Value->Shared->Prop}(I:cI X pins σ H s)(hg:Gl X x)(hm:X.mg x=some u)(h:Q u s)
  (hd:(x == ("__debug__" : Str))=false:=by decide):wpAny (model X.prog X.w) X.A (eval (.Name x pos) X.env) Q E s :=
 Calls.Name_function_global I.ok.kind hg (Calls.loadGlobal_global (by rw [I.ok.glob];exact I.mod.glob.keeps I.bk) hm h) hd
def pD{E:Value->Shared->Prop}{pins:Ad}{s:Shared}{σ:St}{H:Hp}{x:Str}{u:Value}{pos:Pos}{Q:Value->Shared->Prop}(I:cI X pins σ H s)(hg:Gl X x)(hm:X.mg x=none)(hv:bootBuiltins x=some u)(h:Q u s)
  (hn:x ≠ "__name__" := by decide) (hd:(x == ("__debug__" : Str))=false:=by decide):wpAny (model X.prog X.w) X.A (eval (.Name x pos) X.env) Q E s:=by
 obtain ⟨mb,h1,h2⟩:=I.mod.blt;exact Calls.Name_function_global I.ok.kind hg (Calls.loadGlobal_builtin (by rw [I.ok.glob];exact I.mod.glob.keeps I.bk) hm (by rw [I.ok.blt];exact h1.keeps I.bk) ((h2 x hn).trans hv) h) hd
def WP{x:Str}{v:V}{u:Value}{pos:Pos}(hg:Gl X x)(hm:X.mg x=some u)(r:dN v u)(hd:(x == ("__debug__" : Str))=false:=by decide):PE X (.Name x pos) (tC v) :=
 λ_ _ _ H _ I h=>wV I hg hm ⟨v,H,I,r,h⟩ hd
def WV{x:Str}{v:V}{u:Value}{pos:Pos}(hg:Gl X x)(hm:X.mg x=none)(hv:bootBuiltins x=some u)(r:dN v u)(hn:x ≠ "__name__" := by decide)(hd:(x == ("__debug__" : Str))=false:=by decide):PE X (.Name x pos) (tC v) :=
 λ_ _ _ H _ I h=>pD I hg hm hv ⟨v,H,I,r,h⟩ hn hd
variable{a b:Expr}{ta tb:TE}{pos:Pos}
def tB(t:TE):TT:=λσ H Q=>t σ H λx H1=>∃c,x=.bl c/\Q c H1
def aA1{e:Expr}{t:TE}(h:PE X e t)(he:∀whole,isTrue e X.env whole=(do let v <-whole;standAt e.pos;holding [v] (truthy v)):=by intro _;rfl):PT X e (tB t):=by
 intro pins s σ H Q I hw;refine isTrue_plain (thn (h pins s σ H _ I hw) λv s1 ⟨x,H1,I1,r1,q1⟩=>?_) (he _);obtain ⟨d,rfl,q⟩:=q1;cases r1;exact wpAny_truthy_bool ⟨H1,I1,q⟩
variable{tA tB':TT}{rest:List Expr}
def aCp(t u:TT):TT:=λσ H Q=>t σ H λc H1=>if c=true then u σ H1 Q else Q false H1
def tOr(t u:TT):TT:=λσ H Q=>t σ H λc H1=>if c=true then Q true H1 else u σ H1 Q
def aCj(t:TT):TT:=λσ H Q=>t σ H λc H1=>Q (!c) H1
def WC(ha:PT X a tA):PW X (.BoolOp .And [a] pos) tA:=by
 intro wh pins s σ H Q I h;refine isTrue_and (thn (ha pins s σ H Q I h) λc s1 e=>?_);cases c with
 | true=>exact isTrue_and_nil e
 | false=>exact e
def aAZ(ha:PT X a tA):PW X (.BoolOp .Or [a] pos) tA:=by
 intro wh pins s σ H Q I h;refine isTrue_or (thn (ha pins s σ H Q I h) λc s1 e=>?_);cases c with
 | false=>exact isTrue_or_nil e
 | true=>exact e
def aA0(ha:PT X a tA)(hb:PW X (.BoolOp .And (b::rest) pos) tB'):PW X (.BoolOp .And (a::b::rest) pos) (aCp tA tB'):=by
 intro wh pins s σ H Q I h;refine isTrue_and (thn (ha pins s σ H _ I h) λc s1 ⟨H1,I1,q1⟩=>?_);cases c with
 | true=>exact hb wh pins s1 σ H1 Q I1 q1
 | false=>exact ⟨H1,I1,q1⟩
def aCF(ha:PT X a tA)(hb:PW X (.BoolOp .Or (b::rest) pos) tB'):PW X (.BoolOp .Or (a::b::rest) pos) (tOr tA tB'):=by
 intro wh pins s σ H Q I h;refine isTrue_or (thn (ha pins s σ H _ I h) λc s1 ⟨H1,I1,q1⟩=>?_);cases c with
 | true=>exact ⟨H1,I1,q1⟩
 | false=>exact hb wh pins s1 σ H1 Q I1 q1
def aA2(ha:PT X a tA):PT X (.UnaryOp .Not a pos) (aCj tA):=by
 intro pins s σ H Q I h;exact isTrue_not (ha pins s σ H (λc H1=>Q (!c) H1) I h)
def tIf(t:TT)(ta tb:TE):TE:=λσ H Q=>t σ H λc H1=>if c=true then ta σ H1 Q else tb σ H1 Q
def RB{c:Expr}(hc:PT X c tA)(ha:PE X a ta)(hb:PE X b tb):PE X (.IfExp c a b pos) (tIf tA ta tb):=by
 intro pins s σ H Q I h;refine wpAny_IfExp (thn (hc pins s σ H _ I h) λd s1 ⟨H1,I1,q1⟩=>?_);cases d with
 | true=>exact ha pins s1 σ H1 Q I1 q1
 | false=>exact hb pins s1 σ H1 Q I1 q1
end
def fI(K:Aa)(H:Hp)(a:Addr)(xs:Al):Prop :=
 Rd H a (.lst xs) \/
  ∃(o:Obj) (its:Ai) (n:Nat),K.lookup a=some o/\o.cls=.type "list" /\ o.dict=none/\o.data=.seq its n/\its.size<=sizeLine/\dF xs its.toList
def iJ(K:Aa)(H:Hp)(a:Addr)(xs:Al):Prop :=
 Rd H a (.tup xs) \/
  ∃(o:Obj) (its:Ai) (n:Nat),K.lookup a=some o/\o.cls=.type "tuple" /\ o.data=.seq its n/\its.size<=sizeLine/\dF xs its.toList
def aEO:Value->Am
 | .none=>some .non
 | .bool b=>some (.bl b)
 | .int i _=>some (.int i)
 | .str x _=>some (.str x)
 | .bytes b _=>some (.byt b)
 | .float b _=>some (.flt b)
 | .ref a=>some (.ref a)
 | .type n=>some (.ty n)
 | _=>none
def dN.abs{x:V}{u:Value}(r:dN x u):aEO u=some x:=by
 cases x with
 | non=>cases r;rfl
 | bl _=>cases r;rfl
 | int _=>obtain ⟨t,rfl⟩:=r;rfl
 | str _=>obtain ⟨t,rfl⟩:=r;rfl
 | byt _=>obtain ⟨t,rfl⟩:=r;rfl
 | flt _=>obtain ⟨t,rfl⟩:=r;rfl
 | ref _=>cases r;rfl
 | ty _=>cases r;rfl
def dN.inj{x y:V}{u:Value}(r:dN x u)(q:dN y u):x=y:=fW (r.abs.symm.trans q.abs)
theorem dF.inj:∀{xs ys:Al}{us:Ag},dF xs us->dF ys us->xs=ys
 | _,_,_,.nil,.nil=>rfl
 | _,_,_,.cons r t,.cons r' t'=>by rw [r.inj r',dF.inj t t']
section
variable{X:Cx}{pins:Ad}{σ:St}{H:Hp}{s:Shared}{a:Addr}{xs ys:Al}
def fI.of{K:Aa}(h:H a=some (.lst xs)):fI K H a xs:=.inl (.inl h)
def iJ.of{K:Aa}(h:H a=some (.tup xs)):iJ K H a xs:=.inl (.inl h)
def cI.list(I:cI X pins σ H s)(h:fI X.K H a xs):∃its:Ag,dF xs its/\PlainL s.heap a its.toArray/\xs.length<=sizeLine:=by
 rcases h with h | ⟨o,its,n,hk,hc,hd,hs,hz,r⟩
 ·obtain ⟨z,its,n,r,e⟩:=h.ok I.hok;exact ⟨its,r,⟨_,n,e,rfl,rfl,rfl⟩,z⟩
 ·refine ⟨its.toList,r,⟨o,n,I.kIn a o hk,hc,hd,by simpa using hs⟩,?_⟩;have e:=r.length;simp only [Array.length_toList] at e;exact Oo
def cI.tuple(I:cI X pins σ H s)(h:iJ X.K H a xs):∃its:Ag,dF xs its/\IsTup s.heap a its.toArray/\xs.length<=sizeLine:=by
 rcases h with h | ⟨o,its,n,hk,hc,hs,hz,r⟩
 ·obtain ⟨⟨z,_⟩,its,r,p⟩:=h.ok I.hok;exact ⟨its,r,p,z⟩
 ·refine ⟨its.toList,r,⟨o,I.kIn a o hk,hc,n,by simpa using hs⟩,?_⟩;have e:=r.length;simp only [Array.length_toList] at e;exact Oo
def cI.list_inj(I:cI X pins σ H s)(h:fI X.K H a xs)(h':fI X.K H a ys):xs=ys:=by
 obtain ⟨its,r,⟨o,n,e,_,_,d⟩,_⟩:=I.list h;obtain ⟨its',r',⟨o',n',e',_,_,d'⟩,_⟩:=I.list h';rw [e] at e';cases e';rw [d] at d';injection d' with d1 _;have:its=its':=by simpa using congrArg Array.toList d1
 subst this;exact r.inj r'
def cI.tuple_inj(I:cI X pins σ H s)(h:iJ X.K H a xs)(h':iJ X.K H a ys):xs=ys:=by
 obtain ⟨its,r,⟨o,e,_,n,d⟩,_⟩:=I.tuple h;obtain ⟨its',r',⟨o',e',_,n',d'⟩,_⟩:=I.tuple h';rw [e] at e';cases e';rw [d] at d';injection d' with d1 _;have:its=its':=by simpa using congrArg Array.toList d1
 subst this;exact r.inj r'
end
abbrev Cx.wish(X:Cx)(E:Value->Shared->Prop):Cx:={ X with xe:=E }
abbrev Cx.nox(X:Cx):Cx:=X.wish λ_ _=>False
theorem Cx.Ok.wish{X:Cx}(ok:X.Ok)(E:Value->Shared->Prop):(X.wish E).Ok :=
 ⟨ok.mod,ok.kind,ok.glob,ok.blt,ok.above,ok.inj,ok.has,ok.cab,ok.hd,ok.frames,ok.stk,ok.exf,ok.bs,ok.bsz,ok.noex,ok.exfs,ok.funs,ok.frf⟩
def Cx.Ok.unwish{X:Cx}{E:Value->Shared->Prop}(ok:(X.wish E).Ok):X.Ok :=
 ⟨ok.mod,ok.kind,ok.glob,ok.blt,ok.above,ok.inj,ok.has,ok.cab,ok.hd,ok.frames,ok.stk,ok.exf,ok.bs,ok.bsz,ok.noex,ok.exfs,ok.funs,ok.frf⟩
section
variable{X:Cx}{pins:Ad}{σ:St}{H:Hp}{s:Shared}{E:Value->Shared->Prop}
theorem cI.wish(I:cI X pins σ H s)(E:Value->Shared->Prop):cI (X.wish E) pins σ H s:=⟨I.ok.wish E,I.os,I.bare,I.base,I.loc,I.cell,I.free,I.freeC,I.pin,I.hok,I.len⟩
theorem cI.unwish(I:cI (X.wish E) pins σ H s):cI X pins σ H s:=⟨I.ok.unwish,I.os,I.bare,I.base,I.loc,I.cell,I.free,I.freeC,I.pin,I.hok,I.len⟩
theorem SP.unwish{D:uI}{f:Flow}{s':Shared}(h:SP (X.wish E) pins D f s'):SP X pins D f s':=by
 cases f with
 | next=>obtain ⟨σ',H',I,q⟩:=h;exact ⟨σ',H',I.unwish,q⟩
 | brk=>obtain ⟨σ',H',I,q⟩:=h;exact ⟨σ',H',I.unwish,q⟩
 | cont=>obtain ⟨σ',H',I,q⟩:=h;exact ⟨σ',H',I.unwish,q⟩
 | ret u=>obtain ⟨v,σ',H',I,r,q⟩:=h;exact ⟨v,σ',H',I.unwish,r,q⟩
theorem IU.nox{st:List Stmt}{t:TS}(h:IU X.nox st t):IU X st t:=λpins s σ H D I hw =>
 wpAny_mono (h pins s σ H D (I.wish _) hw) (λ_ _ q=>q.unwish) λ_ _ z=>False.elim z
end
section
variable{X:Cx}{st:Stmt}{rest:List Stmt}{t u:TS}{e:Expr}{te:TE}{pos:Pos}
def ZA:TS:=λD σ H=>D.nx σ H
def aCg(t u:TS):TS:=λD σ H=>t { D with nx:=u D } σ H
def pss_nil:IU X [] ZA:=λ_ _ σ H _ I h=>wpAny_execs_nil ⟨σ,H,I,h⟩
def QT(h1:PS X st t)(h2:IU X rest u):IU X (st::rest) (aCg t u):=by
 intro pins s σ H D I h;refine wpAny_execs_cons (thn (h1 pins s σ H { D with nx:=u D } I h) λf s1 q=>?_);cases f with
 | next =>
  obtain ⟨σ',H',I',q⟩:=q;exact h2 pins s1 σ' H' D I' q
 | ret v=>exact q
 | brk=>exact q
 | cont=>exact q
def WF(h1:PS X st t):IU X [st] t:=by
 intro pins s σ H D I h;refine wpAny_execs_cons (thn (h1 pins s σ H D I h) λf s1 q=>?_);cases f with
 | next=>exact wpAny_execs_nil q
 | ret v=>exact q
 | brk=>exact q
 | cont=>exact q
def cI.quiet{pins:Ad}{σ:St}{H:Hp}{s:Shared}(I:cI X pins σ H s):interactive X.env=false:=by simp [interactive,I.ok.kind]
def ZE(te:TE):TS:=λD σ H=>te σ H λ_ H1=>D.nx σ H1
def WG(he:PE X e te)(hs:swapsWith e none pos.line X.env=pure false:=by rfl):PS X (.Expr e pos) (ZE te):=by
 intro pins s σ H D I h;exact wpAny_Expr_any (thn (he pins s σ H _ I h) λv s1 ⟨x,H1,I1,r1,q1⟩=>⟨σ,H1,I1,q1⟩) I.quiet hs
def aCh(te:TE):TS:=λD σ H=>te σ H D.rt
def aA4(he:PE X e te):PS X (.Return (some e) pos) (aCh te):=by
 intro pins s σ H D I h;exact wpAny_Return_some (thn (he pins s σ H _ I h) λv s1 ⟨x,H1,I1,r1,q1⟩=>⟨x,σ,H1,I1,r1,q1⟩)
def aCl(c:TT)(t u:TS):TS:=λD σ H=>c σ H λb H1=>if b=true then t D σ H1 else u D σ H1
def aCG{c:Expr}{a b:List Stmt}{tc:TT}(hc:PT X c tc)(ha:IU X a t)(hb:IU X b u):PS X (.If c a b pos) (aCl tc t u):=by
 intro pins s σ H D I h;refine wpAny_If (thn (hc pins s σ H _ I h) λd s1 ⟨H1,I1,q1⟩=>?_);cases d with
 | true=>exact ha pins s1 σ H1 D I1 q1
 | false=>exact hb pins s1 σ H1 D I1 q1
end
abbrev TG:=V->St->Hp->(St->Hp->Prop)->Prop
abbrev TV:=Al->St->Hp->(St->Hp->Prop)->Prop
def PG(X:Cx)(target:Expr)(t:TG):Prop :=
 ∀(pins:Ad) (s:Shared) (σ:St) (H:Hp) (v:V) (u:Value) (Q:St->Hp->Prop),cI X pins σ H s->dN v u->t v σ H Q ->
  wpAny (model X.prog X.w) X.A (assign target X.env u) (λ_ s'=>∃σ' H',cI X pins σ' H' s'/\Q σ' H') X.xe s
def PGs(X:Cx)(ts:List Expr)(t:TV):Prop :=
 ∀(pins:Ad) (s:Shared) (σ:St) (H:Hp) (vs:Al) (us:Ag) (Q:St->Hp->Prop),cI X pins σ H s->dF vs us->t vs σ H Q ->
  wpAny (model X.prog X.w) X.A (assignInOrder ((assignEach ts X.env).map (·.2)) us) (λ_ s'=>∃σ' H',cI X pins σ' H' s'/\Q σ' H') X.xe s
abbrev YN:=V->V->V->Hp->(Hp->Prop)->Prop
def aBW(X:Cx)(t:YN):Prop :=
 ∀(pins:Ad) (s:Shared) (σ:St) (H:Hp) (o i v:V) (ov iv u:Value) (Q:Hp->Prop),cI X pins σ H s->dN o ov->dN i iv->dN v u->t o i v H Q ->
  wpAny (model X.prog X.w) X.A (setItem ov iv u) (λ_ s'=>∃H',cI X pins σ H' s'/\Q H') X.xe s
section
variable{X:Cx}{pos:Pos}
def nE(i:Nat):TG:=λv σ H Q=>Q (σ.set i (some v)) H
def WN{i:Nat}{x:Str}(hN:X.N.Nodup)(hi:X.N[i]?=some x)(hx:Loc X.env.scope x)(hf:X.fn x=true\/X.env.scope.names.lookup x=some .local:=by first | exact .inl rfl | exact .inr rfl | assumption):PG X (.Name x pos) (nE i):=by
 intro pins s σ H v u Q I r h;exact wpAny_assign_Name (oF I hN hi hx r (λs' I'=>⟨_,H,I',h⟩) hf)
def aBA:TV:=λvs σ H Q=>vs=[]/\Q σ H
def RZ(t:TG)(u:TV):TV:=λvs σ H Q=>∃v r,vs=v::r/\t v σ H λσ' H'=>u r σ' H' Q
def pgs_nil:PGs X [] aBA:=by
 intro pins s σ H vs us Q I r h;obtain ⟨e,h⟩:=h;subst e;cases r;exact assignInOrder_nil ⟨σ,H,I,h⟩
def QZ{e:Expr}{es:List Expr}{t:TG}{u:TV}(h1:PG X e t)(h2:PGs X es u)
  (hs:(assignEach (e::es) X.env).map (·.2)=assign e X.env::(assignEach es X.env).map (·.2):=by rfl):PGs X (e::es) (RZ t u):=by
 intro pins s σ H vs us Q I r h;obtain ⟨v,vr,e1,h⟩:=h;subst e1;cases r with
 | cons r rr =>
  rw [hs];refine assignInOrder_cons (thn (h1 pins s σ H _ _ _ I r h) λ_ s1 ⟨σ1,H1,I1,q1⟩=>?_);exact h2 pins s1 σ1 H1 _ _ Q I1 rr q1
def aBz(K:Aa)(n:Nat)(t:TV):TG:=λv σ H Q=>∃a xs,v=.ref a/\iJ K H a xs/\xs.length=n/\t xs σ H Q
def aBd{es:List Expr}{k:Nat}{t:TV}{n:Nat}(hc:X.calm=true)(h:PGs X es t)
  (hn:(assignEach es X.env).length=n:=by rfl) (hst:(assignEach es X.env).findIdx? (·.1)=none:=by rfl):PG X (.Tuple es k pos) (aBz X.K n t):=by
 intro pins s σ H v u Q I r hw;obtain ⟨a,xs,e1,hq,hl,hw⟩:=hw;subst e1;cases r;obtain ⟨its,rv,ht,hz⟩:=I.tuple hq;refine assign_Tuple_tuple (I.ok.hd hc) ht (by simp [hn,<-hl,rv.length]) hst λh' hx=>?_;have I1:cI X pins σ H { s with heap:=h' }:=I.kept (t':=s.toks) λb o e=>hx b o (cA (aV e)) e;exact h pins _ σ H xs _ Q I1 (by simpa using rv) hw
def aCZ(to ti:TE)(t:YN):TG:=λv σ H Q=>to σ H λo H1=>ti σ H1 λi H2=>t o i v H2 λH3=>Q σ H3
def aBe{o i:Expr}{to ti:TE}{t:YN}(ho:PE X o to)(hi:PE X i ti)(hs:aBW X t)
  (ha:∀v,assign (.Subscript o i pos) X.env v=(do
   let ov <-holding [v] (eval o X.env)
   let iv <-holding [v,ov] (eval i X.env)
   standAt pos
   holding [v,ov,iv] (setItem ov iv v)
   release [v,ov,iv] []):=by intro _;rfl):PG X (.Subscript o i pos) (aCZ to ti t):=by
 intro pins s σ H v u Q I r h;rw [ha];refine wpAny_bind (wpAny_holding (thn (ho pins s σ H _ I h) λov s1 ⟨x,H1,I1,r1,q1⟩=>?_));refine wpAny_bind (wpAny_holding (thn (hi pins s1 σ H1 _ I1 q1) λiv s2 ⟨y,H2,I2,r2,q2⟩=>?_));refine wpAny_bind (wpAny_standAt (wpAny_bind (wpAny_holding (thn (hs pins s2 σ H2 x y v ov iv u _ I2 r1 r2 r q2) λ_ s3 ⟨H3,I3,q3⟩=>?_))));exact wpAny_release ⟨σ,H3,I3,q3⟩
def yW(te:TE)(g:TG):TS:=λD σ H=>te σ H λx H1=>g x σ H1 D.nx
def aA9{tg e:Expr}{te:TE}{g:TG}(he:PE X e te)(hg:PG X tg g)(hs:swapsWithSole [tg] e pos.line X.env=pure false:=by rfl)(hw:swappedStores [tg] e X.env=pure none:=by rfl)
  (h1:(assignEach [tg] X.env).map (·.2)=[assign tg X.env]:=by rfl):PS X (.Assign [tg] e pos) (yW te g):=by
 intro pins s σ H D I h;refine wpAny_Assign_stores (thn (he pins s σ H _ I h) λv s1 ⟨x,H1,I1,r1,q1⟩=>?_) hs hw;rw [h1];exact thn (hg pins s1 σ H1 x v _ I1 r1 q1) λ_ s2 q=>q
def aA3{i:Nat}{x:Str}{e:Expr}{te:TE}{pos':Pos}(hN:X.N.Nodup)(hi:X.N[i]?=some x)(hx:Loc X.env.scope x)(he:PE X e te)(hs:swapsWith e (some (.Name x pos')) pos.line X.env=pure false:=by rfl)(hf:X.fn x=true\/X.env.scope.names.lookup x=some .local:=by first | exact .inl rfl | exact .inr rfl | assumption) :
  PS X (.Assign [.Name x pos'] e pos) (yW te (nE i)):=by
 intro pins s σ H D I h;refine wpAny_Assign_Name (thn (he pins s σ H _ I h) λv s1 ⟨y,H1,I1,r1,q1⟩=>?_) hs;exact oF I1 hN hi hx r1 (λs2 I2=>⟨_,H1,I2,q1⟩) hf
def aCi(i j:Nat)(ta:TA):TS:=λD σ H=>ta σ H λvs H1=>∃v w,vs=[v,w]/\D.nx ((σ.set i (some v)).set j (some w)) H1
def aA5{i j:Nat}{x y:Str}{a b:Expr}{ta:TA}{px py pt:Pos}{kt k2 pt2}(hc:X.calm=true)(hN:X.N.Nodup)(hi:X.N[i]?=some x)(hj:X.N[j]?=some y)(hij:i≠j)
  (hx:X.env.scope.names.lookup x=some .local) (hy:X.env.scope.names.lookup y=some .local) (ha:PA X [a,b] ta)
  (hw:swappedStores [.Tuple [.Name x px,.Name y py] kt pt] (.Tuple [a,b] k2 pt2) X.env=pure (some [x,y]))
  (hs:swapsWithSole [.Tuple [.Name x px,.Name y py] kt pt] (.Tuple [a,b] k2 pt2) pos.line X.env=pure false:=by rfl) :
  PS X (.Assign [.Tuple [.Name x px,.Name y py] kt pt] (.Tuple [a,b] k2 pt2) pos) (aCi i j ta):=by
 intro pins s σ H D I h;rw [exec_Assign_arm];refine wpAny_bind (wpAny_standAt ?_);rw [hs];refine wpAny_bind (wpAny_pure ?_);rw [if_neg Dd];refine wpAny_bind (Tuple_ (thn (ha _ pins s σ H _ I h) λus s1 ⟨vs,H1,I1,r1,q1⟩=>?_));obtain ⟨v,w,e1,q1⟩:=q1;subst e1;obtain ⟨u1,u2,rfl,rv,rw'⟩:∃u1 u2,us=[u1,u2]/\dN v u1/\dN w u2:=by
  cases r1 with
  | cons p q =>
   cases q with
   | cons p' q' =>
    cases q';exact ⟨_,_,rfl,p,p'⟩
 refine wpAny_newObj_type ?_ (by show 2<=sizeLine;decide);have I2:cI X pins σ H1 { s1 with heap:=s1.heap.push { cls:=.type "tuple",data:=.seq [u1,u2].toArray } }:=I1.kept (t':=s1.toks) λb o e=>aC _ e;rw [hw];refine wpAny_bind (wpAny_pure ?_);show wpAny (model X.prog X.w) X.A (do rule "assign.swapped-stores";let items <-unpackItems (.ref s1.heap.objs.size) 2 none;assignInOrder [λv=>bindName X.env y v,λv=>bindName X.env x v] items.reverse;pure Flow.next) _ _ _;refine wpAny_bind (wpAny_rule (wpAny_bind (unpackItems_tuple (items:=#[u1,u2]) (I.ok.hd hc) (IsTup.new s1.heap _) λh' hx'=>?_)));have I3:=I2.kept (h':=h') (t':=s1.toks) λb o e=>hx' b o (cA (aV e)) e;show wpAny _ _ (assignInOrder [λv=>bindName X.env y v,λv=>bindName X.env x v] [u2,u1] >>= λ_=>pure Flow.next) _ _ _;refine wpAny_bind (assignInOrder_cons (wpAny_bindName (oF I3 hN hj (.inl hy) rw' (λs2 I4=>?_) (.inr hy))));refine assignInOrder_cons (wpAny_bindName (oF I4 hN hi (.inl hx) rv (λs3 I5=>assignInOrder_nil (wpAny_pure ?_)) (.inr hx)));rw [List.set_comm _ _ (Ne.symm hij)] at I5;exact ⟨_,H1,I5,q1⟩
end
section
variable{X:Cx}{pos:Pos}
def BK(c:TT)(tb:TS):TS:=λD σ H=>∃W:Nat->St->Hp->Prop,(∃m,W m σ H)/\∀m σ H,W m σ H ->
 c σ H λb H1=>if b=true then ∃N:St->Hp->Prop,(∀σ' H',N σ' H'->∃m',m' < m/\W m' σ' H')/\tb { D with nx:=N,ct:=N,bk:=D.nx } σ H1 else D.nx σ H1
def QU{c:Expr}{body:List Stmt}{tc:TT}{tb:TS}(hp:PassesOwn (model X.prog X.w) X.A X.env X.xe)(hc:PT X c tc)(hb:IU X body tb):PS X (.While c body [] pos) (BK tc tb):=by
 intro pins s σ H D I h;obtain ⟨W,⟨m0,w0⟩,turn⟩:=h;refine wpAny_While (codeAny_whileLoop (λn s'=>∃σ' H',cI X pins σ' H' s'/\W n σ' H') ?_ m0 ⟨σ,H,I,w0⟩);rintro n s1 ⟨σ1,H1,I1,w1⟩;refine wpAny_passesOwn hp (thn (hc pins s1 σ1 H1 _ I1 (turn n σ1 H1 w1)) λb s2 ⟨H2,I2,q2⟩=>?_);cases b with
 | true =>
  obtain ⟨N,hN,q2⟩:=q2;rw [if_pos rfl];refine wpAny_passesOwn hp (thn (hb pins s2 σ1 H2 _ I2 q2) λf s3 q3=>?_);cases f with
  | next =>
   obtain ⟨σ3,H3,I3,n3⟩:=q3;obtain ⟨m',hm,w3⟩:=hN σ3 H3 n3;exact ⟨m',hm,σ3,H3,I3,w3⟩
  | cont =>
   obtain ⟨σ3,H3,I3,n3⟩:=q3;obtain ⟨m',hm,w3⟩:=hN σ3 H3 n3;exact ⟨m',hm,σ3,H3,I3,w3⟩
  | brk=>exact q3
  | ret v=>exact q3
 | false =>
  rw [if_neg bR];exact wpAny_execs_nil ⟨σ1,H2,I2,q2⟩
end
structure It where
 go:Nat->Hp->Prop
 yld:Nat->Hp->V->Hp->Prop
 stop:Nat->Hp->Prop
def jE(X:Cx)(pins:Ad)(H:Hp)(b:Addr):Prop :=
 H b=none/\b≠X.env.locals/\b ∉ X.fs/\(b∈X.ex\/X.s₀.heap.objs.size<=b)/\(∀x c,X.env.cells.lookup x=some c->c≠b)/\∀p∈X.pn++pins,p.1≠b
def cI.fpOk{X:Cx}{pins:Ad}{σ:St}{H H':Hp}{s:Shared}{b:Addr}(I:cI X pins σ H s)(hb:s.heap.objs.size<=b)(hn:H' b=none):jE X pins H' b:=by
 refine ⟨hn,Nat.ne_of_gt (aN I.lt hb),I.nofs hb,.inr (aM I.sz hb),λx c e z=>?_,λp hp z=>?_⟩
 ·obtain ⟨v,q⟩:=I.cell x c e;exact absurd (aN q.lt (by rw [z];exact hb)) (bL _)
 ·exact absurd (aN (aV (I.pin p hp).1) (by rw [z];exact hb)) (bL _)
structure DO(P:Program)(w:World)(K:Aa)(tg:Expr)(J:It)(fp:List Addr)(it:Addr)(tn:Nat->Heap->Prop):Prop where
 mem:it∈fp
 obj:∀i h,tn i h->∀b∈fp,∃o,h.get? b=some o/\∀v,o.data ≠ .cell v
 keep:∀i h h',tn i h->(∀b∈fp,∀o,h.get? b=some o->h'.get? b=some o)->tn i h'
 item:∀(X:Cx),X.prog=P->X.w=w->X.K=K->X.calm=true->∀(i:Nat) (pins:Ad) (s:Shared) (σ:St) (H:Hp) (E:Value->Shared->Prop),cI X pins σ H s->(∀b∈fp,jE X pins H b)->tn i s.heap->J.go i H ->
  wpAny (model P w) X.A (pyNext (.ref it)) (λr s1=>∃u,r=some u /\
   wpAny (model P w) X.A (letOwnedTupleGo tg (.ref it) u) (λ_ s2=>∃x H',cI X pins σ H' s2/\dN x u/\J.yld i H x H'/\tn (i+1) s2.heap/\∀b∈fp,H' b=none) E s1) E s
 done:∀(X:Cx),X.prog=P->X.w=w->X.K=K->X.calm=true->∀(i:Nat) (pins:Ad) (s:Shared) (σ:St) (H:Hp) (E:Value->Shared->Prop),cI X pins σ H s->(∀b∈fp,jE X pins H b)->tn i s.heap->J.stop i H ->
  wpAny (model P w) X.A (pyNext (.ref it)) (λr s1=>r=none/\cI X pins σ H s1) E s
 self:∀(A:Around) (i:Nat) (s:Shared) (Q:Value->Shared->Prop) (E:Value->Shared->Prop),tn i s.heap->Q (.ref it) s->wpAny (model P w) A (pyIter (.ref it)) Q E s
abbrev TI:=St->Hp->(It->Hp->Prop)->Prop
def PIE(X:Cx)(pins:Ad)(σ:St)(tg:Expr)(R:It->Hp->Prop)(itv:Value)(s2:Shared):Prop :=
 ∃(it:Addr) (fp:List Addr) (tn:Nat->Heap->Prop) (J:It) (H':Hp),itv=.ref it/\cI X pins σ H' s2/\DO X.prog X.w X.K tg J fp it tn/\tn 0 s2.heap/\(∀b∈fp,jE X pins H' b)/\R J H'
def PI(X:Cx)(tg iter:Expr)(wi:TI):Prop :=
 ∀(pins:Ad) (s:Shared) (σ:St) (H:Hp) (R:It->Hp->Prop),cI X pins σ H s->wi σ H R ->
  wpAny (model X.prog X.w) X.A (eval iter X.env) (λv s1=>wpAny (model X.prog X.w) X.A (pyIter v) (PIE X pins σ tg R) X.xe s1) X.xe s
def KH{M:Model}{A:Around}{E:Value->Shared->Prop}{s:Shared}{tg:Expr}{it:Addr}{u:Value}{o:Obj}{n:String}{vs:Ai}{Q:Unit->Shared->Prop}(ho:s.heap.get? it=some o)(hc:o.cls=.type n)(hd:o.data=.fields vs)
    (hn:["enumerate","zip","dict_itemiterator","dict_reverseitemiterator","odict_iterator","itertools.zip_longest","itertools.pairwise"].contains n=false) (hQ:Q () s):wpAny M A (letOwnedTupleGo tg (.ref it) u) Q E s:=by
  unfold letOwnedTupleGo;cases tg <;> first
    | exact wpAny_pure hQ
    | (cases u <;> first
        | exact wpAny_pure hQ
        | (refine wpAny_bind (wpAny_load ho ?_)
           rw [hc,hd];show wpAny M A (if (["enumerate","zip","dict_itemiterator","dict_reverseitemiterator","odict_iterator","itertools.zip_longest","itertools.pairwise"].contains n&&vs[0]? == some (rawInt _))=true then _ else _) Q E s;rw [if_neg (by intro h;rw [hn,Bool.false_and] at h;cases h)];exact wpAny_pure hQ))
def ZZ(K:Aa)(a:Addr):It :=
 ⟨λi H=>∃xs x,fI K H a xs/\xs[i]?=some x,λi H x H'=>H'=H/\∀xs,fI K H a xs->xs[i]?=some x,λi H=>∃xs,fI K H a xs/\xs.length<=i⟩
def Itt(K:Aa)(a:Addr):It :=
 ⟨λi H=>∃xs x,iJ K H a xs/\xs[i]?=some x,λi H x H'=>H'=H/\∀xs,iJ K H a xs->xs[i]?=some x,λi H=>∃xs,iJ K H a xs/\xs.length<=i⟩
def YS(lo:Int)(n:Nat):It:=⟨λi _=>i<n,λi H x H'=>H'=H/\x=.int (lo+i),λi _=>n<=i⟩
def LX{P:Program}{w:World}{K:Aa}{tg:Expr}(a it:Addr):DO P w K tg (ZZ K a) [it] it (λi h=>h.IsListIter it a i) where
 mem:=by simp
 obj:=λi h st b hb=>by
  have e:b=it:=by simpa using hb
  subst e;obtain ⟨o,e,c,d⟩:=st;exact ⟨o,e,λv z=>by rw [d] at z;cases z⟩
 keep:=λi h h' st k=>st.at λo e=>k it (by simp) o e
 item:=by
  intro X hP hw hK hc i pins s σ H E I hf st hg;subst hP hw hK;obtain ⟨xs,x,hq,hx⟩:=hg;obtain ⟨its,rv,p,hz⟩:=I.list hq;obtain ⟨u,hu,ru⟩:=rv.get hx;obtain ⟨f0,f1,f2,f3,f4,f5⟩:=hf it (by simp);refine wpAny_pyNext_list_item st p.isList (x:=u) (by simpa using hu) λh' st' sb=>?_;have I1:cI X pins σ H { s with heap:=h' }:=I.turned (t':=s.toks) (λb o hb e=>(sb.2 b hb).trans e) f0 f1 f3 f4 f5;obtain ⟨o,e,c,d⟩:=id st';exact ⟨u,rfl,KH (s:={ s with heap:=h' }) e c d Dd ⟨x,H,I1,ru,⟨rfl,λys hy=>by rw [I.list_inj hy hq];exact hx⟩,st',λb hb=>(hf b hb).1⟩⟩
 done:=by
  intro X hP hw hK hc i pins s σ H E I hf st hg;subst hP hw hK;obtain ⟨xs,hq,hx⟩:=hg;obtain ⟨its,rv,p,hz⟩:=I.list hq;obtain ⟨f0,f1,f2,f3,f4,f5⟩:=hf it (by simp);have hl:=rv.length;exact wpAny_pyNext_list_end (I.ok.hd hc) st p.isList (by simp;exact Oo) λh' eb=>⟨rfl,I.turned (t':=s.toks) (λb o hb e=>eb b o hb e) f0 f1 f3 f4 f5⟩
 self:=λ_ _ _ _ _ st h=>wpAny_pyIter_listiter st h
def GX{P:Program}{w:World}{K:Aa}{tg:Expr}(a it:Addr):DO P w K tg (Itt K a) [it] it (λi h=>h.IsTupleIter it a i) where
 mem:=by simp
 obj:=λi h st b hb=>by
  have e:b=it:=by simpa using hb
  subst e;obtain ⟨o,e,c,d⟩:=st;exact ⟨o,e,λv z=>by rw [d] at z;cases z⟩
 keep:=λi h h' st k=>st.at λo e=>k it (by simp) o e
 item:=by
  intro X hP hw hK hc i pins s σ H E I hf st hg;subst hP hw hK;obtain ⟨xs,x,hq,hx⟩:=hg;obtain ⟨its,rv,p,hz⟩:=I.tuple hq;obtain ⟨u,hu,ru⟩:=rv.get hx;obtain ⟨f0,f1,f2,f3,f4,f5⟩:=hf it (by simp);refine wpAny_pyNext_tuple_item st (show s.heap.IsTuple a its.toArray from p) (x:=u) (by simpa using hu) λh' st' sb=>?_;have I1:cI X pins σ H { s with heap:=h' }:=I.turned (t':=s.toks) (λb o hb e=>(sb.2 b hb).trans e) f0 f1 f3 f4 f5;obtain ⟨o,e,c,d⟩:=id st';exact ⟨u,rfl,KH (s:={ s with heap:=h' }) e c d Dd ⟨x,H,I1,ru,⟨rfl,λys hy=>by rw [I.tuple_inj hy hq];exact hx⟩,st',λb hb=>(hf b hb).1⟩⟩
 done:=by
  intro X hP hw hK hc i pins s σ H E I hf st hg;subst hP hw hK;obtain ⟨xs,hq,hx⟩:=hg;obtain ⟨its,rv,p,hz⟩:=I.tuple hq;obtain ⟨f0,f1,f2,f3,f4,f5⟩:=hf it (by simp);have hl:=rv.length;exact wpAny_pyNext_tuple_end (I.ok.hd hc) st (show s.heap.IsTuple a its.toArray from p) (by simp;exact Oo) λh' eb=>⟨rfl,I.turned (t':=s.toks) (λb o hb e=>eb b o hb e) f0 f1 f3 f4 f5⟩
 self:=λ_ _ _ _ _ st h=>wpAny_pyIter_tupleiter st h
def GY{P:Program}{w:World}{K:Aa}{tg:Expr}(it:Addr)(lo:Int)(n:Nat):DO P w K tg (YS lo n) [it] it (λi h=>IsRangeIter h it (lo+(i:Nat)*1) ((n:Int)-(i:Nat)) 1) where
 mem:=by simp
 obj:=λi h st b hb=>by
  have e:b=it:=by simpa using hb
  subst e;exact ⟨_,st,λv z=>by
   have z':Data.fields _=Data.cell v:=z;cases z'⟩
 keep:=λi h h' st k=>k it (by simp) _ st
 item:=by
  intro X hP hw hK hc i pins s σ H E I hf st hg;subst hP hw hK;obtain ⟨f0,f1,f2,f3,f4,f5⟩:=hf it (by simp);have W:=Walks.range (prog:=X.prog) (w:=X.w) (I.ok.hd hc) it lo 1 n;refine W.item i s _ _ hg st λv h' tk hv st' kk=>?_;obtain ⟨t,rfl⟩:=hv;have I1:cI X pins σ H { s with heap:=h',toks:=tk }:=I.turned (λb o hb e=>kk b o (by simpa using hb) e) f0 f1 f3 f4 f5;refine ⟨_,rfl,KH (s:={ s with heap:=h',toks:=tk }) (n := "range_iterator") st' rfl rfl Dd ⟨.int (lo+i),H,I1,⟨t,?_⟩,⟨rfl,rfl⟩,st',λb hb=>(hf b hb).1⟩⟩;rw [Int.mul_one]
 done:=by
  intro X hP hw hK hc i pins s σ H E I hf st hg;subst hP hw hK;obtain ⟨f0,f1,f2,f3,f4,f5⟩:=hf it (by simp);exact wpAny_pyNext_range_end (I.ok.hd hc) st (by have:n<=i:=hg;exact Oo) λh' eb=>⟨rfl,I.turned (t':=s.toks) (λb o hb e=>eb b o hb e) f0 f1 f3 f4 f5⟩
 self:=λ_ _ _ _ _ st h=>wpAny_pyIter_rangeiter st h
section
variable{X:Cx}{tg:Expr}
def ZQ(K:Aa)(tl:TE):TI:=λσ H R=>tl σ H λx H1=>∃a,x=.ref a/\(∃xs,fI K H1 a xs)/\R (ZZ K a) H1
def aCY(K:Aa)(tl:TE):TI:=λσ H R=>tl σ H λx H1=>∃a,x=.ref a/\(∃xs,iJ K H1 a xs)/\R (Itt K a) H1
def WM{l:Expr}{tl:TE}(hl:PE X l tl):PI X tg l (ZQ X.K tl):=by
 intro pins s σ H R I h;refine thn (hl pins s σ H _ I h) λv s1 ⟨x,H1,I1,r1,q1⟩=>?_;obtain ⟨a,e,⟨xs,hq⟩,q⟩:=q1;subst e;cases r1;obtain ⟨its,rv,p,hz⟩:=I1.list hq;refine wpAny_pyIter_list p.isList ⟨s1.heap.objs.size,[s1.heap.objs.size],_,_,H1,rfl,I1.kept (t':=s1.toks) λb o e=>aC _ e,LX a _,⟨_,bB _ rfl,rfl,rfl⟩,λb hb=>?_,q⟩;have e:b=s1.heap.objs.size:=by simpa using hb
 subst e;exact I1.fpOk (aI _) (I1.hok.fresh (aI _))
def aBc{l:Expr}{tl:TE}(hl:PE X l tl):PI X tg l (aCY X.K tl):=by
 intro pins s σ H R I h;refine thn (hl pins s σ H _ I h) λv s1 ⟨x,H1,I1,r1,q1⟩=>?_;obtain ⟨a,e,⟨xs,hq⟩,q⟩:=q1;subst e;cases r1;obtain ⟨its,rv,p,hz⟩:=I1.tuple hq;refine wpAny_pyIter_tuple (show s1.heap.IsTuple a its.toArray from p) ⟨s1.heap.objs.size,[s1.heap.objs.size],_,_,H1,rfl,I1.kept (t':=s1.toks) λb o e=>aC _ e,GX a _,⟨_,bB _ rfl,rfl,rfl⟩,λb hb=>?_,q⟩;have e:b=s1.heap.objs.size:=by simpa using hb
 subst e;exact I1.fpOk (aI _) (I1.hok.fresh (aI _))
def QN{pins:Ad}{σ:St}{H:Hp}{s:Shared}{R:It->Hp->Prop}{E:Value->Shared->Prop}{lo hi:Int}{t u v:Tok}{tk:Nat}(I:cI X pins σ H s)(h1:-(2^62)<=lo)(h2:lo<2^62)(h3:-(2^62)<=hi)(h4:hi<2^62)
  (q:R (YS lo (hi-lo).toNat) H):wpAny (model X.prog X.w) X.A (pyIter (.ref s.heap.objs.size)) (PIE X pins σ tg R) E { s with heap:=s.heap.push { cls:=.type "range",data:=.fields #[.int lo t,.int hi u,.int 1 v] },toks:=tk }:=by
 refine wpAny_pyIter_range (IsRange.new ..) (small_one h1 h2 h3 h4) ?_;have I1:cI X pins σ H { s with heap:=s.heap.push { cls:=.type "range",data:=.fields #[.int lo t,.int hi u,.int 1 v] },toks:=tk }:=I.kept λb o e=>aC _ e;refine ⟨(s.heap.push { cls:=.type "range",data:=.fields #[.int lo t,.int hi u,.int 1 v] }).objs.size,[(s.heap.push { cls:=.type "range",data:=.fields #[.int lo t,.int hi u,.int 1 v] }).objs.size],_,_,H,rfl,
  I1.kept (t':=tk) λb o e=>aC _ e,GY _ lo (hi-lo).toNat,?_,λb hb=>?_,q⟩
 ·have e1:lo+((0:Nat):Int)*1=lo:=by simp
  have e2:(((hi-lo).toNat:Nat):Int)-((0:Nat):Int)=Builtin.Range.rangeSize lo hi 1:=by rw [rangeSize_one];split <;> omega
  show IsRangeIter _ _ (lo+((0:Nat):Int)*1) ((((hi-lo).toNat:Nat):Int)-((0:Nat):Int)) 1;rw [e1,e2];exact bB _ rfl
 ·have e:b=(s.heap.push { cls:=.type "range",data:=.fields #[.int lo t,.int hi u,.int 1 v] }).objs.size:=by simpa using hb
  subst e;exact I1.fpOk (aI _) (I1.hok.fresh (aI _))
def ZP(ta:TA):TI:=λσ H R=>ta σ H λvs H1=>∃j:Int,vs=[.int j]/\-(2^62)<=j/\j<2^62/\R (YS 0 j.toNat) H1
def MS{a:Expr}{ta:TA}{p pos:Pos}(hg:Gl X "range")(hm:X.mg "range" = none)(ha:PA X [a] ta)(hs:starEach [a] X.env=[(false,eval a X.env)]:=by rfl):PI X tg (.Call (.Name "range" p) [a] [] pos) (ZP ta):=by
 intro pins s σ H R I h;refine Call_ (pD I hg hm boot_range (PyProof.Rows.callWith_type1 (thn (ha pos pins s σ H _ I h) λus s1 ⟨vs,H1,I1,r1,q1⟩=>?_) hs rfl));obtain ⟨j,e,q1,q2,q⟩:=q1;subst e;cases r1 with
 | cons r rr =>
  cases rr;obtain ⟨t,rfl⟩:=r;exact call_range_1 (QN I1 Oo Oo q1 q2 (by simpa using q))
def aCm(wi:TI)(g:TG)(tb:TS):TS:=λD σ H=>wi σ H λJ H1=>∃W:Nat->Nat->St->Hp->Prop,(∃m,W 0 m σ H1)/\∀i m σ H,W i m σ H ->
 (J.stop i H/\D.nx σ H)\/(J.go i H/\∃N:St->Hp->Prop,(∀σ' H',N σ' H'->∃m',m' < m/\W (i+1) m' σ' H')/\∀x H',J.yld i H x H'->g x σ H' λσ2 H2=>tb { D with nx:=N,ct:=N,bk:=D.nx } σ2 H2)
def sF(fp:List Addr)(h:Heap):Ad:=fp.filterMap λb=>(h.get? b).map λo=>(b,o)
def iT{fp:List Addr}{h:Heap}{b:Addr}{o:Obj}(hb:b∈fp)(e:h.get? b=some o):(b,o)∈sF fp h:=List.mem_filterMap.mpr ⟨b,hb,by rw [e];rfl⟩
def MV{fp:List Addr}{h:Heap}{p:Addr × Obj}(hp:p∈sF fp h):p.1∈fp/\h.get? p.1=some p.2:=by
 obtain ⟨b,hb,e⟩:=List.mem_filterMap.mp hp;cases q:h.get? b with
 | none=>rw [q] at e;cases e
 | some o =>
  rw [q] at e;have e':(b,o)=p:=fW e;subst e';exact ⟨hb,q⟩
def cI.pinned{pins:Ad}{σ:St}{H:Hp}{s:Shared}{fp:List Addr}(I:cI X pins σ H s)(hf:∀b∈fp,jE X pins H b)(ho:∀b∈fp,∃o,s.heap.get? b=some o/\∀v,o.data ≠ .cell v):cI X (pins++sF fp s.heap) σ H s :=
 I.pins_of λp hp=>(cB.mp hp).elim (λz=>I.pin p (aO _ z)) λz=>by
  obtain ⟨hb,e⟩:=MV z;obtain ⟨f0,f1,f2,_⟩:=hf p.1 hb;obtain ⟨o,e',d⟩:=ho p.1 hb;rw [e] at e';cases e';exact ⟨e,f0,f1,f2,d⟩
def cI.unpinned{pins pl:Ad}{σ:St}{H:Hp}{s:Shared}(I:cI X (pins++pl) σ H s):cI X pins σ H s:=I.pins_of λp hp=>I.pin p (aO _ (bY _ hp))
def aA6{iter:Expr}{body:List Stmt}{wi:TI}{g:TG}{tb:TS}{pos:Pos}(hp:PassesOwn (model X.prog X.w) X.A X.env X.xe)(hc:X.calm=true)(hi:PI X tg iter wi)(hg:PG X tg g)(hb:IU X body tb)
  (hs:∀x,foldedSetIterable iter X.env x=pure x:=by intro _;rfl):PS X (.For tg iter body [] pos) (aCm wi g tb):=by
 intro pins s σ H D I h;refine wpAny_For (thn (hi pins s σ H _ I h) λv s1 h1=>thn h1 λitv s2 h2=>?_) hs;obtain ⟨it,fp,tn,J,H2,e,I2,T,st2,f2,W,⟨m0,w0⟩,turn⟩:=h2;subst e;have stat:∀{H':Hp},(∀b∈fp,H' b=none)->∀b∈fp,jE X pins H' b:=λhn b hb=>⟨hn b hb,(f2 b hb).2⟩;refine codeAny_forLoop_any (λn s'=>∃i σ' H',cI X pins σ' H' s'/\tn i s'.heap/\(∀b∈fp,H' b=none)/\W i n σ' H') ?_ m0 ⟨0,σ,H2,I2,st2,λb hb=>(f2 b hb).1,w0⟩;rintro n s3 ⟨i,σ3,H3,I3,st3,fr3,w3⟩;rcases turn i n σ3 H3 w3 with ⟨stop,qn⟩ | ⟨go,N,hN,step⟩
 ·refine wpAny_passesOwn hp (thn (T.done X rfl rfl rfl hc i pins s3 σ3 H3 X.xe I3 (stat fr3) st3 stop) λr s4 ⟨hr,I4⟩=>?_);subst hr;exact wpAny_execs_nil ⟨σ3,H3,I4,qn⟩
 ·refine wpAny_passesOwn hp (thn (T.item X rfl rfl rfl hc i pins s3 σ3 H3 X.xe I3 (stat fr3) st3 go) λr s4 ⟨u,hr,h4⟩=>?_);subst hr;refine wpAny_passesOwn hp (thn h4 λ_ s5 ⟨x,H5,I5,r5,y5,st5,fr5⟩=>?_);have I5':=I5.pinned (stat fr5) (T.obj _ _ st5);refine wpAny_passesOwn hp (thn (hg _ s5 σ3 H5 x u _ I5' r5 (step x H5 y5)) λ_ s6 ⟨σ6,H6,I6,q6⟩=>?_);refine wpAny_passesOwn hp (thn (hb _ s6 σ6 H6 _ I6 q6) λf s7 q7=>?_);have again:∀{σ7:St} {H7:Hp},cI X (pins++sF fp s5.heap) σ7 H7 s7->N σ7 H7->∃m,m<n/\∃i σ' H',cI X pins σ' H' s7/\tn i s7.heap/\(∀b∈fp,H' b=none)/\W i m σ' H':=λ{σ7 H7} I7 n7=>by
   obtain ⟨m',hm,w7⟩:=hN σ7 H7 n7;refine ⟨m',hm,i+1,σ7,H7,I7.unpinned,T.keep _ _ _ st5 λb hb o e=>(I7.pin (b,o) (aO _ (aO _ (iT hb e)))).1,λb hb=>?_,w7⟩;obtain ⟨o,e,d⟩:=T.obj _ _ st5 b hb;exact (I7.pin (b,o) (aO _ (aO _ (iT hb e)))).2.1
  cases f with
  | next=>obtain ⟨σ7,H7,I7,n7⟩:=q7;exact again I7 n7
  | cont=>obtain ⟨σ7,H7,I7,n7⟩:=q7;exact again I7 n7
  | brk=>obtain ⟨σ7,H7,I7,q7⟩:=q7;exact ⟨σ7,H7,I7.unpinned,q7⟩
  | ret v=>obtain ⟨x7,σ7,H7,I7,r7,q7⟩:=q7;exact ⟨x7,σ7,H7,I7.unpinned,r7,q7⟩
end
def kG{K:Aa}{a:Addr}{xs:Al}{g:TG}{tb:TS}{D:uI}{σ:St}{H:Hp}(Pv:Nat->St->Hp->Prop)(h0:Pv 0 σ H)(hl:∀i σ H,i<=xs.length->Pv i σ H->fI K H a xs)
  (hs:∀i x σ H,xs[i]?=some x->Pv i σ H->g x σ H λσ2 H2=>tb { D with nx:=Pv (i+1),ct:=Pv (i+1),bk:=D.nx } σ2 H2) (hd:∀σ H,Pv xs.length σ H->D.nx σ H) :
  ∃W:Nat->Nat->St->Hp->Prop,(∃m,W 0 m σ H)/\∀i m σ H,W i m σ H ->
   ((ZZ K a).stop i H/\D.nx σ H)\/((ZZ K a).go i H/\∃N:St->Hp->Prop,(∀σ' H',N σ' H'->∃m',m' < m/\W (i+1) m' σ' H')/\∀x H',(ZZ K a).yld i H x H'->g x σ H' λσ2 H2=>tb { D with nx:=N,ct:=N,bk:=D.nx } σ2 H2):=by
 refine ⟨λi m σ H=>m=xs.length-i/\i<=xs.length/\Pv i σ H,⟨xs.length,by simp,cG _,h0⟩,?_⟩;rintro i m σ H ⟨rfl,hi,p⟩;have q:=hl i σ H hi p;by_cases hlt:i<xs.length
 ·refine .inr ⟨⟨xs,xs[i],q,by simp [hlt]⟩,Pv (i+1),λσ' H' p'=>⟨xs.length-(i+1),Oo,rfl,hlt,p'⟩,λx H' y=>?_⟩;obtain ⟨e,y⟩:=y;subst e;exact hs i x σ _ (y xs q) p
 ·have e:i=xs.length:=Oo;subst e;exact .inl ⟨⟨xs,q,aI _⟩,hd σ H p⟩
def KL{K:Aa}{a:Addr}{xs:Al}{g:TG}{tb:TS}{D:uI}{σ:St}{H:Hp}(Pv:Nat->St->Hp->Prop)(h0:Pv 0 σ H)(hl:∀i σ H,i<=xs.length->Pv i σ H->iJ K H a xs)
  (hs:∀i x σ H,xs[i]?=some x->Pv i σ H->g x σ H λσ2 H2=>tb { D with nx:=Pv (i+1),ct:=Pv (i+1),bk:=D.nx } σ2 H2) (hd:∀σ H,Pv xs.length σ H->D.nx σ H) :
  ∃W:Nat->Nat->St->Hp->Prop,(∃m,W 0 m σ H)/\∀i m σ H,W i m σ H ->
   ((Itt K a).stop i H/\D.nx σ H)\/((Itt K a).go i H/\∃N:St->Hp->Prop,(∀σ' H',N σ' H'->∃m',m' < m/\W (i+1) m' σ' H')/\∀x H',(Itt K a).yld i H x H'->g x σ H' λσ2 H2=>tb { D with nx:=N,ct:=N,bk:=D.nx } σ2 H2):=by
 refine ⟨λi m σ H=>m=xs.length-i/\i<=xs.length/\Pv i σ H,⟨xs.length,by simp,cG _,h0⟩,?_⟩;rintro i m σ H ⟨rfl,hi,p⟩;have q:=hl i σ H hi p;by_cases hlt:i<xs.length
 ·refine .inr ⟨⟨xs,xs[i],q,by simp [hlt]⟩,Pv (i+1),λσ' H' p'=>⟨xs.length-(i+1),Oo,rfl,hlt,p'⟩,λx H' y=>?_⟩;obtain ⟨e,y⟩:=y;subst e;exact hs i x σ _ (y xs q) p
 ·have e:i=xs.length:=Oo;subst e;exact .inl ⟨⟨xs,q,aI _⟩,hd σ H p⟩
def fS{lo:Int}{n:Nat}{g:TG}{tb:TS}{D:uI}{σ:St}{H:Hp}(Pv:Nat->St->Hp->Prop)(h0:Pv 0 σ H)
  (hs:∀i σ H,i<n->Pv i σ H->g (.int (lo+i)) σ H λσ2 H2=>tb { D with nx:=Pv (i+1),ct:=Pv (i+1),bk:=D.nx } σ2 H2) (hd:∀σ H,Pv n σ H->D.nx σ H) :
  ∃W:Nat->Nat->St->Hp->Prop,(∃m,W 0 m σ H)/\∀i m σ H,W i m σ H ->
   ((YS lo n).stop i H/\D.nx σ H)\/((YS lo n).go i H/\∃N:St->Hp->Prop,(∀σ' H',N σ' H'->∃m',m' < m/\W (i+1) m' σ' H')/\∀x H',(YS lo n).yld i H x H'->g x σ H' λσ2 H2=>tb { D with nx:=N,ct:=N,bk:=D.nx } σ2 H2):=by
 refine ⟨λi m σ H=>m=n-i/\i<=n/\Pv i σ H,⟨n,by simp,cG _,h0⟩,?_⟩;rintro i m σ H ⟨rfl,hi,p⟩;by_cases hlt:i<n
 ·refine .inr ⟨hlt,Pv (i+1),λσ' H' p'=>⟨n-(i+1),Oo,rfl,hlt,p'⟩,λx H' y=>?_⟩;obtain ⟨e,y⟩:=y;subst e y;exact hs i σ _ hlt p
 ·have e:i=n:=Oo;subst e;exact .inl ⟨aI _,hd σ H p⟩
abbrev R2:=V->V->Hp->VK->Prop
def uG(X:Cx)(f:Value->Value->Sem Value)(r:R2):Prop :=
 ∀(pins:Ad) (s:Shared) (σ:St) (H:Hp) (x y:V) (v u:Value) (Q:VK),cI X pins σ H s->dN x v->dN y u->r x y H Q ->
  wpAny (model X.prog X.w) X.A (f v u) (EP X pins σ Q) X.xe s
def UnR(X:Cx)(f:Value->Sem Value)(r:V->Hp->VK->Prop):Prop :=
 ∀(pins:Ad) (s:Shared) (σ:St) (H:Hp) (x:V) (v:Value) (Q:VK),cI X pins σ H s->dN x v->r x H Q ->
  wpAny (model X.prog X.w) X.A (f v) (EP X pins σ Q) X.xe s
def iA(X:Cx)(f:Value)(r:Al->Hp->VK->Prop):Prop :=
 ∀(pins:Ad) (s:Shared) (σ:St) (H:Hp) (xs:Al) (us:Ag) (Q:VK),cI X pins σ H s->dF xs us->r xs H Q ->
  wpAny (model X.prog X.w) X.A (call f us) (EP X pins σ Q) X.xe s
def US(r:R2)(ta tb:TE):TE:=λσ H Q=>ta σ H λx H1=>tb σ H1 λy H2=>r x y H2 Q
def tUn(r:V->Hp->VK->Prop)(ta:TE):TE:=λσ H Q=>ta σ H λx H1=>r x H1 Q
def rI(C:Int->Int->Prop)(g:Int->Int->V):R2:=λx y H Q=>∃i j,x=.int i/\y=.int j/\C i j/\Q (g i j) H
def rI0(g:Int->Int->V):R2:=λx y H Q=>∃i j,x=.int i/\y=.int j/\Q (g i j) H
def rU(g:Int->V):V->Hp->VK->Prop:=λx H Q=>∃i,x=.int i/\Q (g i) H
section
variable{X:Cx}{a b c:Expr}{ta tb tc:TE}{pos:Pos}
def aBP(ha:PE X a ta)(hb:PE X b tb){pins:Ad}{s:Shared}{σ:St}{H:Hp}{R:V->V->Hp->Prop}(I:cI X pins σ H s)
  (h:ta σ H λx H1=>tb σ H1 λy H2=>R x y H2) {Q:Value->Shared->Prop} {f:Value->Value->Sem Value}
  (hf:∀v u s2 x y H2,cI X pins σ H2 s2->dN x v->dN y u->R x y H2->wpAny (model X.prog X.w) X.A (f v u) Q X.xe s2) :
  wpAny (model X.prog X.w) X.A (eval a X.env) (λv s₁=>wpAny (model X.prog X.w) X.A (eval b X.env) (λu s₂=>wpAny (model X.prog X.w) X.A (f v u) Q X.xe s₂) X.xe s₁) X.xe s:=by
 exact thn (ha pins s σ H _ I h) λv s1 ⟨x,H1,I1,r1,q1⟩=>thn (hb pins s1 σ H1 _ I1 q1) λu s2 ⟨y,H2,I2,r2,q2⟩=>hf v u s2 x y H2 I2 r1 r2 q2
def aCJ{op:Operator}{r:R2}(ho:uG X (binaryOp op) r)(ha:PE X a ta)(hb:PE X b tb):PE X (.BinOp a op b pos) (US r ta tb):=by
 intro pins s σ H Q I h;exact wpAny_BinOp (aBP ha hb I h λv u s2 x y H2 I2 rx ry q=>ho pins s2 σ H2 x y v u Q I2 rx ry q)
def aCI{op:UnaryOp}{r:V->Hp->VK->Prop}(ho:UnR X (unaryOp op) r)(ha:PE X a ta):PE X (.UnaryOp op a pos) (tUn r ta):=by
 intro pins s σ H Q I h;exact UnaryOp_ (thn (ha pins s σ H _ I h) λv s1 ⟨x,H1,I1,r1,q1⟩=>ho pins s1 σ H1 x v Q I1 r1 q1)
def opI{f:Value->Value->Sem Value}{C:Int->Int->Prop}{g:Int->Int->Int}
  (rule:∀(i j:Int) (t u:Tok) (s:Shared) (Q:Value->Shared->Prop) (E:Value->Shared->Prop),C i j->Q (.int (g i j) s.toks) { s with toks:=s.toks+1 }->wpAny (model X.prog X.w) X.A (f (.int i t) (.int j u)) Q E s) :
  uG X f (rI C λi j=>.int (g i j)):=by
 intro pins s σ H x y v u Q I rx ry h;obtain ⟨i,j,rfl,rfl,hc,q⟩:=h;obtain ⟨t,rfl⟩:=rx;obtain ⟨t',rfl⟩:=ry;exact rule i j t t' s _ _ hc ⟨.int (g i j),H,I.tok _,⟨_,rfl⟩,q⟩
def aCO{f:Value->Value->Sem Value}{g:Int->Int->Int}
  (rule:∀(i j:Int) (t u:Tok) (s:Shared) (Q:Value->Shared->Prop) (E:Value->Shared->Prop),Q (.int (g i j) s.toks) { s with toks:=s.toks+1 }->wpAny (model X.prog X.w) X.A (f (.int i t) (.int j u)) Q E s) :
  uG X f (rI0 λi j=>.int (g i j)):=by
 intro pins s σ H x y v u Q I rx ry h;obtain ⟨i,j,rfl,rfl,q⟩:=h;obtain ⟨t,rfl⟩:=rx;obtain ⟨t',rfl⟩:=ry;exact rule i j t t' s _ _ ⟨.int (g i j),H,I.tok _,⟨_,rfl⟩,q⟩
def aBk{f:Value->Value->Sem Value}{g:Int->Int->Bool}
  (rule:∀(i j:Int) (t u:Tok) (s:Shared) (Q:Value->Shared->Prop) (E:Value->Shared->Prop),Q (.bool (g i j)) s->wpAny (model X.prog X.w) X.A (f (.int i t) (.int j u)) Q E s) :
  uG X f (rI0 λi j=>.bl (g i j)):=by
 intro pins s σ H x y v u Q I rx ry h;obtain ⟨i,j,rfl,rfl,q⟩:=h;obtain ⟨t,rfl⟩:=rx;obtain ⟨t',rfl⟩:=ry;exact rule i j t t' s _ _ ⟨.bl (g i j),H,I,rfl,q⟩
def aES(i j:Int):Prop:=0<=j/\j<=1000000/\i.natAbs<2^64
def eB:uG X (binaryOp .Add) (rI0 λi j=>.int (i+j)):=aCO λ_ _ _ _ _ _ _ q=>add_int q
def vA:uG X (binaryOp .Sub) (rI0 λi j=>.int (i-j)):=aCO λ_ _ _ _ _ _ _ q=>sub_int q
def mX:uG X (binaryOp .Mod) (rI (λ_ j=>0<j) λi j=>.int (i % j)):=opI λi j _ _ _ _ _ hc q=>by
 have h1:(0:Int)<j:=hc;exact mod_int' Oo (by rw [Int.fmod_eq_emod_of_nonneg i Oo];exact q)
def aBj:uG X (binaryOp .Pow) (rI aES λi j=>.int (i^j.toNat)):=opI λ_ _ _ _ _ _ _ hc q=>pow_int_small hc.1 hc.2.1 hc.2.2 q
def unI{f:Value->Sem Value}{g:Int->Int}
  (rule:∀(i:Int) (t:Tok) (s:Shared) (Q:Value->Shared->Prop) (E:Value->Shared->Prop),Q (.int (g i) s.toks) { s with toks:=s.toks+1 }->wpAny (model X.prog X.w) X.A (f (.int i t)) Q E s) :
  UnR X f (rU λi=>.int (g i)):=by
 intro pins s σ H x v Q I rx h;obtain ⟨i,rfl,q⟩:=h;obtain ⟨t,rfl⟩:=rx;exact rule i t s _ _ ⟨.int (g i),H,I.tok _,⟨_,rfl⟩,q⟩
def OT:UnR X (unaryOp .USub) (rU λi=>.int (-i)):=unI λ_ _ _ _ _ q=>neg_int q
end
def scal:V->V->Bool
 | .non,.non=>true | .non,.int _=>true | .int _,.non=>true | .non,.bl _=>true | .bl _,.non=>true | .non,.str _=>true | .str _,.non=>true
 | .int _,.int _=>true | .bl _,.bl _=>true | .str _,.str _=>true | .byt _,.byt _=>true
 | .int _,.str _=>true | .str _,.int _=>true | .bl _,.str _=>true | .str _,.bl _=>true
 | _,_=>false
def rEq:R2:=λx y H Q=>scal x y=true/\Q (.bl (decide (x=y))) H
def rNe:R2:=λx y H Q=>scal x y=true/\Q (.bl (!decide (x=y))) H
def KS{i j:Int}:decide (V.int i=V.int j)=(i == j):=by
 rw [Bool.eq_iff_iff];simp
def SJ{i j:Bool}:decide (V.bl i=V.bl j)=(i == j):=by
 rw [Bool.eq_iff_iff];simp
def KR{i j:Str}:decide (V.str i=V.str j)=(i == j):=by
 rw [Bool.eq_iff_iff];simp
def KU{i j:Array UInt8}:decide (V.byt i=V.byt j)=(i.toList == j.toList):=by
 rw [Bool.eq_iff_iff];cases i;cases j;simp
section
variable{X:Cx}{a b c:Expr}{ta tb tc:TE}{pos:Pos}
def eX{pins:Ad}{σ:St}{H:Hp}{s:Shared}{Q:VK}{k k':Bool}(I:cI X pins σ H s)(q:Q (.bl k) H)(e:k=k'):EP X pins σ Q (.bool k') s:=by
 subst e;exact ⟨.bl k,H,I,rfl,q⟩
def vX:uG X (compareOp .Eq) rEq:=by
 intro pins s σ H x y v u Q I rx ry h;obtain ⟨hs,q⟩:=h;cases x with
 | non =>
  cases rx;cases y with
  | non=>cases ry;exact PySem.EqNone.eq_none_none (eX I q (by simp))
  | bl j=>cases ry;exact PySem.EqNone.eq_none_bool (eX I q (by simp))
  | int j=>obtain ⟨t',rfl⟩:=ry;exact PySem.EqNone.eq_none_int (eX I q (by simp))
  | str j=>obtain ⟨t',rfl⟩:=ry;exact PySem.EqNone.eq_none_str (eX I q (by simp))
  | _=>exact absurd (show false=true from hs) bR
 | bl i =>
  cases rx;cases y with
  | non=>cases ry;exact PySem.EqNone.eq_bool_none (eX I q (by simp))
  | bl j=>cases ry;exact eq_bool (eX I q SJ)
  | str j=>obtain ⟨t',rfl⟩:=ry;exact PySem.EqMixed.eq_bool_str (eX I q (by simp))
  | _=>exact absurd (show false=true from hs) bR
 | int i =>
  obtain ⟨t,rfl⟩:=rx;cases y with
  | non=>cases ry;exact PySem.EqNone.eq_int_none (eX I q (by simp))
  | int j=>obtain ⟨t',rfl⟩:=ry;exact eq_int (eX I q KS)
  | str j=>obtain ⟨t',rfl⟩:=ry;exact PySem.EqMixed.eq_int_str (eX I q (by simp))
  | _=>exact absurd (show false=true from hs) bR
 | str i =>
  obtain ⟨t,rfl⟩:=rx;cases y with
  | non=>cases ry;exact PySem.EqNone.eq_str_none (eX I q (by simp))
  | bl j=>cases ry;exact PySem.EqMixed.eq_str_bool (eX I q (by simp))
  | int j=>obtain ⟨t',rfl⟩:=ry;exact PySem.EqMixed.eq_str_int (eX I q (by simp))
  | str j=>obtain ⟨t',rfl⟩:=ry;exact eq_str (eX I q KR)
  | _=>exact absurd (show false=true from hs) bR
 | byt i =>
  obtain ⟨t,rfl⟩:=rx;cases y with
  | byt j=>obtain ⟨t',rfl⟩:=ry;exact PySem.W.eq_bytes (eX I q KU)
  | _=>exact absurd (show false=true from hs) bR
 | _=>cases y <;> exact absurd (show false=true from hs) bR
def FD:uG X (compareOp .NotEq) rNe:=by
 intro pins s σ H x y v u Q I rx ry h;obtain ⟨hs,q⟩:=h;cases x with
 | non =>
  cases rx;cases y with
  | non=>cases ry;exact PySem.EqNone.ne_none_none (eX I q (by simp))
  | bl j=>cases ry;exact PySem.EqNone.ne_none_bool (eX I q (by simp))
  | int j=>obtain ⟨t',rfl⟩:=ry;exact PySem.EqNone.ne_none_int (eX I q (by simp))
  | str j=>obtain ⟨t',rfl⟩:=ry;exact PySem.EqNone.ne_none_str (eX I q (by simp))
  | _=>exact absurd (show false=true from hs) bR
 | bl i =>
  cases rx;cases y with
  | non=>cases ry;exact PySem.EqNone.ne_bool_none (eX I q (by simp))
  | bl j=>cases ry;exact ne_bool (eX I q (congrArg not SJ))
  | str j=>obtain ⟨t',rfl⟩:=ry;exact PySem.EqMixed.ne_bool_str (eX I q (by simp))
  | _=>exact absurd (show false=true from hs) bR
 | int i =>
  obtain ⟨t,rfl⟩:=rx;cases y with
  | non=>cases ry;exact PySem.EqNone.ne_int_none (eX I q (by simp))
  | int j=>obtain ⟨t',rfl⟩:=ry;exact ne_int (eX I q (congrArg not KS))
  | str j=>obtain ⟨t',rfl⟩:=ry;exact PySem.EqMixed.ne_int_str (eX I q (by simp))
  | _=>exact absurd (show false=true from hs) bR
 | str i =>
  obtain ⟨t,rfl⟩:=rx;cases y with
  | non=>cases ry;exact PySem.EqNone.ne_str_none (eX I q (by simp))
  | bl j=>cases ry;exact PySem.EqMixed.ne_str_bool (eX I q (by simp))
  | int j=>obtain ⟨t',rfl⟩:=ry;exact PySem.EqMixed.ne_str_int (eX I q (by simp))
  | str j=>obtain ⟨t',rfl⟩:=ry;exact ne_str (eX I q (congrArg not KR))
  | _=>exact absurd (show false=true from hs) bR
 | byt i =>
  obtain ⟨t,rfl⟩:=rx;cases y with
  | byt j=>obtain ⟨t',rfl⟩:=ry;exact PySem.W.ne_bytes (eX I q (congrArg not KU))
  | _=>exact absurd (show false=true from hs) bR
 | _=>cases y <;> exact absurd (show false=true from hs) bR
def xR:uG X (compareOp .Lt) (rI0 λi j=>.bl (decide (i<j))):=aBk λ_ _ _ _ _ _ _ q=>lt_int q
def AB:uG X (compareOp .Gt) (rI0 λi j=>.bl (decide (j<i))):=aBk λ_ _ _ _ _ _ _ q=>gt_int q
def aCN:uG X (compareOp .GtE) (rI0 λi j=>.bl (decide (j<=i))):=aBk λ_ _ _ _ _ _ _ q=>ge_int q
def nomark(b:Expr){op:CmpOp}(h:op ≠ .In:=by decide)(h2:op ≠ .NotIn:=by decide):behindInMarks op b=false:=by
 have e1:(op == CmpOp.In)=false:=by cases op <;> first | rfl | exact absurd rfl h
 have e2:(op == CmpOp.NotIn)=false:=by cases op <;> first | rfl | exact absurd rfl h2
 cases b <;> simp [behindInMarks,e1,e2]
def WT{op:CmpOp}{r:R2}(ho:uG X (compareOp op) r)(ha:PE X a ta)(hb:PE X b tb)(hm:behindInMarks op b=false):PE X (.Compare a [op] [b] pos) (US r ta tb):=by
 intro pins s σ H Q I h;exact wpAny_Compare1 (aBP ha hb I h λv u s2 x y H2 I2 rx ry q=>ho pins s2 σ H2 x y v u Q I2 rx ry q) hm
def YY(t:TE):TT:=λσ H Q=>t σ H λx H'=>∃k,x=.bl k/\Q k H'
def WE{op:CmpOp}{r:R2}(ho:uG X (compareOp op) r)(ha:PE X a ta)(hb:PE X b tb)(hm:behindInMarks op b=false):PT X (.Compare a [op] [b] pos) (YY (US r ta tb)):=by
 intro pins s σ H Q I h;refine wpAny_isTrue_Compare1 (thn (ha pins s σ H _ I h) λv s1 ⟨x,H1,I1,r1,q1⟩=>thn (hb pins s1 σ H1 _ I1 q1) λu s2 ⟨y,H2,I2,r2,q2⟩ =>
  thn (ho pins s2 σ H2 x y v u _ I2 r1 r2 q2) λc s3 ⟨z,H3,I3,r3,k,e,q3⟩=>?_) hm
 subst e;cases r3;exact wpAny_truthy_bool ⟨H3,I3,q3⟩
def xU:(sizeLine:Nat)<2^63:=by rw [sizeLine_eq];decide
def kD{x:V}{us:Ag}(r:dF [x] us):∃u,us=[u]/\dN x u:=by
 cases r with
 | cons r1 r2=>cases r2;exact ⟨_,rfl,r1⟩
def aCd{x y:V}{us:Ag}(r:dF [x,y] us):∃u w',us=[u,w']/\dN x u/\dN y w':=by
 cases r with
 | cons r1 r2 =>
  cases r2 with
  | cons r3 r4=>cases r4;exact ⟨_,_,rfl,r1,r3⟩
def SZ:iA X (.builtin "abs") (λxs H Q=>∃i,xs=[.int i]/\Q (.int (if i<0 then -i else i)) H):=by
 intro pins s σ H xs us Q I r h;obtain ⟨i,rfl,q⟩:=h;obtain ⟨u,rfl,t,rfl⟩:=kD r;exact call_abs_int λu tk=>⟨.int (if i<0 then -i else i),H,I.tok _,⟨_,rfl⟩,q⟩
def NO:iA X (.type "int") (λxs H Q=>(∃i,xs=[.int i]/\Q (.int i) H)\/∃k,xs=[.bl k]/\Q (.int (if k then 1 else 0)) H):=by
 intro pins s σ H xs us Q I r h;rcases h with ⟨i,rfl,q⟩ | ⟨k,rfl,q⟩
 ·obtain ⟨u,rfl,t,rfl⟩:=kD r;exact call_int_int ⟨.int i,H,I,⟨_,rfl⟩,q⟩
 ·obtain ⟨u,rfl,r1⟩:=kD r;cases r1;exact call_int_bool ⟨.int (if k then 1 else 0),H,I.tok _,⟨_,rfl⟩,q⟩
def aDc(K:Aa)(x:V)(H:Hp)(n:Nat):Prop :=
 match x with
 | .str y=>y.length<=sizeLine/\n=y.length
 | .byt y=>y.size<=sizeLine/\n=y.size
 | .ref p=>(∃xs,fI K H p xs/\n=xs.length)\/∃xs,iJ K H p xs/\n=xs.length
 | _=>False
def SY:iA X (.builtin "len") (λxs H Q=>∃x n,xs=[x]/\aDc X.K x H n/\Q (.int n) H):=by
 intro pins s σ H xs us Q I r h;obtain ⟨x,n,rfl,e,q⟩:=h;obtain ⟨u,rfl,rx⟩:=kD r;have hl:=xU;have hs:sizeLine=16777216:=sizeLine_eq;cases x with
 | str y =>
  obtain ⟨t,rfl⟩:=rx;obtain ⟨hy,e'⟩:y.length<=sizeLine/\n=y.length:=e;subst e';exact len_str Oo ⟨.int _,H,I.tok _,⟨_,rfl⟩,q⟩
 | byt y =>
  obtain ⟨t,rfl⟩:=rx;obtain ⟨hy,e'⟩:y.size<=sizeLine/\n=y.size:=e;subst e';exact PySem.W.len_bytes Oo ⟨.int _,H,I.tok _,⟨_,rfl⟩,q⟩
 | ref p =>
  cases rx;have e':(∃xs,fI X.K H p xs/\n=xs.length)\/∃xs,iJ X.K H p xs/\n=xs.length:=e;rcases e' with ⟨xs,hx,e'⟩ | ⟨xs,hx,e'⟩
  ·subst e';obtain ⟨its,r',pl,hz⟩:=I.list hx;have hlen:=r'.length;exact Calls.call_len_list pl.isList (by simp only [aW];exact Oo) ⟨.int xs.length,H,I.tok _,⟨_,by simp only [aW];rw [hlen]⟩,q⟩
  ·subst e';obtain ⟨its,r',pl,hz⟩:=I.tuple hx;have hlen:=r'.length;exact len_tuple pl (by simp only [aW];exact Oo) ⟨.int xs.length,H,I.tok _,⟨_,by simp only [aW];rw [hlen]⟩,q⟩
 | _=>exact (show False from e).elim
end
structure NY(h:Heap)(x dx C:Addr)(mA:Str->Option Value):Prop where
 obj:h.get? x=some (PySem.W.instObj C dx)
 ns:h.Ns1 dx mA
 ne:dx≠x
def MY{h:Heap}{dx:Addr}{mA:Str->Option Value}(n:h.Ns1 dx mA):∃od,h.get? dx=some od/\∀name,PySem.W.lookIn name od=some (mA name):=by
 obtain ⟨o,es,ep,ho,hd,hk,_,hm⟩:=n;refine ⟨o,ho,λname=>?_⟩;have e:=hm name;unfold nsFind findBy at e;rw [<-Array.find?_toList] at e;unfold PySem.W.lookIn;rw [hd];dsimp only;split
 ·rename_i y q
  rw [q] at e;exact congrArg some e
 ·rename_i q
  rw [q] at e;have a:es.toList.any (·.refKey)=false:=by
   rw [List.any_eq_false];intro y hy;obtain ⟨z,t,hkey⟩:=hk y (Array.mem_toList_iff.mp hy);simp [DictEntry.refKey,hkey]
  have a':¬es.toList.any (·.refKey)=true:=by rw [a];exact bR
  rw [if_neg a'];exact congrArg some e
def NY.look{h:Heap}{x dx C:Addr}{mA:Str->Option Value}(I:NY h x dx C mA):∃od,PySem.W.InstAt h x (PySem.W.instObj C dx) C (some od)/\∀name,PySem.W.lookIn name od=some (mA name) :=
 let ⟨od,ho,hl⟩:=MY I.ns
 ⟨od,⟨I.obj,rfl,rfl,ho⟩,hl⟩
section
variable{prog:Program}{w:World}{A:Around}{E:Value->Shared->Prop}{s:Shared}{K:Aa}{x dx C f:Addr}{mA:Str->Option Value}{name:Str}{v:Value}
def XM{expr:Bool}{Q:Value->Shared->Prop}(X:K.In s.heap)(I:NY s.heap x dx C mA)(hg:PySem.W.plainGet K C name=true)(hh:PySem.W.hasDictIn K C=true)
  (ha:PySem.W.findIn K (.ref C) name=some none) (hv:mA name=some v) (hv':PySem.W.handedIn v=true) (h:Q v { s with toks:=s.toks+1 }) :
  wpAny (model prog w) A (getAttr (.ref x) name expr) Q E s:=by
 obtain ⟨od,J,hl⟩:=I.look;exact PySem.W.get_value X J (PySem.W.plainGet_of hg).1 (PySem.W.findObj_own hh ha rfl (by rw [hl,hv])) hv' h
def VC{ns:Ah}{Q:Unit->Shared->Prop}(X:K.In s.heap)(I:NY s.heap x dx C mA)
  (hs:PySem.W.findIn K (.ref C) "__setattr__" = some (some (.builtin "object.__setattr__"))) (hp:PySem.W.plainOver K C=true) (ht:PySem.W.takerIn K C name=some none) (hh:PySem.W.hasDictIn K C=true)
  (hw:PySem.Within mA ns) (hsz:ns.length<=sizeLine)
  (h:∀h',NY h' x dx C (λy=>if y=name then some v else mA y)->Heap.SameBut dx s.heap h'->Q () { s with heap:=h',toks:=s.toks+2 }) :
  wpAny (model prog w) A (setAttr (.ref x) name v) Q E s:=by
 obtain ⟨od,J,hl⟩:=I.look;refine PySem.W.set_plain X J hs (PySem.W.osa_open (s:={ s with toks:=s.toks+1 }) (r:=none) X J hp ht λb=>?_);obtain ⟨cd,hc,hd'⟩:=PySem.W.any_some hh;have hx:s.heap.get? x=some ⟨.ref C,some dx,.plain,#[]⟩:=I.obj;refine wpAny_bind (wpAny_pure (wpAny_bind (wpAny_bind (wpAny_loadPart hx (wpAny_bind (PySem.W.Looks.here (s:={ s with toks:=s.toks+1 }) (PySem.W.looks_clsIn X hc) ?_))))));rw [hd'];refine wpAny_pure (a:=some dx) (wpAny_bind (wpAny_pure (wpAny_bind ?_)));refine wpAny_nsSet1 (s:={ s with toks:=s.toks+1 }) I.ns λh' hn2 hs2=>?_;obtain ⟨oD,esD,epD,hoD,hdD,hcD⟩:=hn2.count (PySem.Within.cons name v hw);refine wpAny_bind (wpAny_lookBehind hoD (by rw [hdD];exact pastItsLine_dict (aM hcD (by rw [bT];exact Oo))) ?_);exact wpAny_pure (h _ ⟨(hs2.2 _ (Ne.symm I.ne)).trans I.obj,hn2,I.ne⟩ hs2)
def RK{R:Result->Shared->Prop}{vs:Ag}{kw:List (Str × Value)}(X:K.In s.heap)(hm:PySem.W.makesIn K C=true)
  (hi:PySem.W.findIn K (.ref C) "__init__" = some (some (.ref f))) (hf:PySem.W.typeIn K (.ref f)=some (.type "function"))
  (h:codeAny (model prog w) (A.under (.builtin "type.__call__" ⟨.ref C::vs,kw⟩)) (.call (.ref f) ⟨.ref (s.heap.objs.size+1)::vs,kw⟩) (PySem.W.InitBack (s.heap.objs.size+1) R)
   { s with heap:=(s.heap.push PySem.W.emptyDict).push (PySem.W.instObj C s.heap.objs.size) }) :
  codeAny (model prog w) A (.call (.ref C) ⟨vs,kw⟩) R s:=by
 obtain ⟨hh,g,d,t,os⟩:=s;exact PySem.W.make_core (PySem.W.makes_of X hm) (PySem.W.looks_findIn X hi) (λself=>PySem.W.bind_fn X self hf) (.inl rfl) h
end
def eS(f:Str)(v:V):List (Str × V)->List (Str × V)
 | []=>[(f,v)]
 | (g,x)::r=>if g=f then (g,v)::r else (g,x)::eS f v r
theorem nQ(f g:Str)(v:V):∀fs:List (Str × V),(eS f v fs).lookup g=if g=f then some v else fs.lookup g
 | []=>by
  show List.lookup g [(f,v)]=_;by_cases h:g=f
  ·have hb:(g == f)=true:=beq_iff_eq.mpr h;simp only [List.lookup,hb,if_pos h]
  ·have hb:(g == f)=false:=beq_eq_false_iff_ne.mpr h;simp only [List.lookup,hb,if_neg h]
 | (k,x)::r=>by
  have ih:=nQ f g v r;rw [show eS f v ((k,x)::r)=(if k=f then (k,v)::r else (k,x)::eS f v r) from rfl];by_cases hk:k=f
  ·rw [if_pos hk];by_cases h:g=k
   ·have hb:(g == k)=true:=beq_iff_eq.mpr h;simp only [List.lookup,hb,if_pos (h.trans hk)]
   ·have hb:(g == k)=false:=beq_eq_false_iff_ne.mpr h;simp only [List.lookup,hb,if_neg (λe:g=f=>h (e.trans hk.symm))]
  ·rw [if_neg hk];by_cases h:g=k
   ·have hb:(g == k)=true:=beq_iff_eq.mpr h;simp only [List.lookup,hb,if_neg (λe:g=f=>hk (h.symm.trans e))]
   ·have hb:(g == k)=false:=beq_eq_false_iff_ne.mpr h;simp only [List.lookup,hb];exact ih
theorem vE(f:Str)(v:V):∀fs:List (Str × V),f∈(eS f v fs).map (·.1)/\∀g,g∈fs.map (·.1)->g∈(eS f v fs).map (·.1)
 | []=>⟨by simp [eS],λg h=>by simp at h⟩
 | (k,x)::r=>by
  obtain ⟨i1,i2⟩:=vE f v r;rw [show eS f v ((k,x)::r)=(if k=f then (k,v)::r else (k,x)::eS f v r) from rfl];by_cases hk:k=f
  ·rw [if_pos hk];subst hk;exact ⟨by simp,λg h=>by simpa using h⟩
  ·rw [if_neg hk];refine ⟨?_,λg h=>?_⟩
   ·rw [bI];exact aT _ i1
   ·rw [bI] at h ⊢;rcases aZ.mp h with e | e
    ·exact aZ.mpr (.inl e)
    ·exact aT _ (i2 g e)
theorem kB(f:Str)(v:V):∀fs:List (Str × V),(eS f v fs).length<=fs.length+1
 | []=>by simp [eS]
 | (k,x)::r=>by
  have ih:=kB f v r;rw [show eS f v ((k,x)::r)=(if k=f then (k,v)::r else (k,x)::eS f v r) from rfl];by_cases hk:k=f
  ·rw [if_pos hk,bT,bT];exact Oo
  ·rw [if_neg hk,bT,bT];exact Oo
def sK.some_of{v:V}{o:Option Value}(r:sK (some v) o):∃u,o=some u/\dN v u:=by
 cases o with
 | none=>exact (show False from r).elim
 | some u=>exact ⟨u,rfl,r⟩
def NF{v:V}{u:Value}(r:dN v u):PySem.W.handedIn u=true:=by
 cases v with
 | non=>cases (show u=Value.none from r);rfl
 | bl b=>cases (show u=Value.bool b from r);rfl
 | int i=>obtain ⟨t,e⟩:=(show ∃t,u=Value.int i t from r);cases e;rfl
 | str x=>obtain ⟨t,e⟩:=(show ∃t,u=Value.str x t from r);cases e;rfl
 | byt b=>obtain ⟨t,e⟩:=(show ∃t,u=Value.bytes b t from r);cases e;rfl
 | flt b=>obtain ⟨t,e⟩:=(show ∃t,u=Value.float b t from r);cases e;rfl
 | ref a=>cases (show u=Value.ref a from r);rfl
 | ty n=>cases (show u=Value.type n from r);rfl
section
variable{P:Program}{w:World}{H H':Hp}{h h':Heap}{a C dx:Addr}{fs fs':List (Str × V)}
def CO(hok:pQ P w H h)(e:H a=some (.ins C dx fs)):∃mA,NY h a dx C mA/\(∀f,sK (fs.lookup f) (mA f))/\PySem.Within mA (fs.map (·.1))/\fs.length<=1000/\H dx=some (.own a):=by
 obtain ⟨d,z,ne,ob,mA,n,r,q⟩:=(show fH P w H h a (.ins C dx fs) from hok a _ e);exact ⟨mA,⟨ob,n,ne⟩,r,q,z,d⟩
end
structure YU(K:Aa)(C:Addr):Prop where
 pg:PySem.W.plainGet K C Str.empty=true
 hd:PySem.W.hasDictIn K C=true
 po:PySem.W.plainOver K C=true
 sa:PySem.W.findIn K (.ref C) "__setattr__" = some (some (.builtin "object.__setattr__"))
def YU.get{K:Aa}{C:Addr}(c:YU K C)(f:Str):PySem.W.plainGet K C f=true:=c.pg
def lK(K:Aa)(C:Addr)(f:Str):Prop:=PySem.W.findIn K (.ref C) f=some none
def lK.taker{K:Aa}{C:Addr}{f:Str}(n:lK K C f):PySem.W.takerIn K C f=some none:=by
 unfold PySem.W.takerIn;rw [show PySem.W.findIn K (.ref C) f=some none from n]
 rfl
section
variable{X:Cx}{pins:Ad}{σ:St}{H:Hp}{s:Shared}{a C dx:Addr}{fs:List (Str × V)}{f:Str}{v:V}{A:Around}{E:Value->Shared->Prop}
def II{b:Bool}{Q:Value->Shared->Prop}(I:cI X pins σ H s)(e:H a=some (.ins C dx fs))(c:YU X.K C)(n:lK X.K C f)(l:fs.lookup f=some v)
  (h:∀u s',cI X pins σ H s'->dN v u->Q u s'):wpAny (model X.prog X.w) A (getAttr (.ref a) f b) Q E s:=by
 obtain ⟨mA,O,r,_,_,_⟩:=CO I.hok e;obtain ⟨u,hu,ru⟩:=sK.some_of (v:=v) (o:=mA f) (by rw [<-l];exact r f);exact XM I.kIn O (c.get f) c.hd n hu (NF ru) (h u _ (I.tok _) ru)
def HN{y:V}{u:Value}{Q:Unit->Shared->Prop}(I:cI X pins σ H s)(e:H a=some (.ins C dx fs))(c:YU X.K C)(n:lK X.K C f)(hl:fs.length<1000)(ry:dN y u)
  (h:∀s',cI X pins σ (upd H a (.ins C dx (eS f y fs))) s'->Q () s'):wpAny (model X.prog X.w) A (setAttr (.ref a) f u) Q E s:=by
 obtain ⟨mA,O,r,wi,_,ho⟩:=CO I.hok e;have hz:(fs.map (·.1)).length<=sizeLine:=by rw [aA,sizeLine_eq];exact Oo
 refine VC I.kIn O c.sa c.po n.taker c.hd wi hz λh' O' sb=>h _ ?_;have hd:∃o,h'.get? dx=some o:=let ⟨o,_,_,e',_⟩:=O'.ns;⟨o,e'⟩;refine I.write (x:=a) (e:=dx) (by rw [e];exact True.intro) (.inr ho) (λb q hb z=>(sb.2 b hb).trans z) hd ⟨by rw [dC O.ne];exact ho,?_,O.ne,O'.obj,_,O'.ns,λg=>?_,λg hg=>?_⟩
 ·have:=kB f y fs;exact Oo
 ·show sK ((eS f y fs).lookup g) (if g=f then some u else mA g);rw [nQ];by_cases q:g=f
  ·rw [if_pos q,if_pos q];exact ry
  ·rw [if_neg q,if_neg q];exact r g
 ·by_cases q:g=f
  ·rw [q];exact (vE f y fs).1
  ·refine (vE f y fs).2 g (wi g λz=>hg ?_);show (if g=f then some u else mA g)=none;rw [if_neg q];exact z
def cI.made(I:cI X pins σ H s):cI X pins σ (upd (upd H s.heap.objs.size (.own (s.heap.objs.size+1))) (s.heap.objs.size+1) (.ins C s.heap.objs.size []))
  { s with heap:=(s.heap.push PySem.W.emptyDict).push (PySem.W.instObj C s.heap.objs.size) }:=by
 have e1:(s.heap.push PySem.W.emptyDict).get? s.heap.objs.size=some PySem.W.emptyDict:=bB s.heap rfl;have e2:((s.heap.push PySem.W.emptyDict).push (PySem.W.instObj C s.heap.objs.size)).get? (s.heap.objs.size+1)=some (PySem.W.instObj C s.heap.objs.size):=by
  have:=bB (s.heap.push PySem.W.emptyDict) (o:=PySem.W.instObj C s.heap.objs.size) rfl
  rwa [fG] at this
 have e3:(s.heap.push PySem.W.emptyDict).Ns s.heap.objs.size (λ_=>none):=⟨PySem.W.emptyDict,#[],_,e1,rfl,(λe he=>absurd he (by simp)),λ_=>rfl⟩;have I1:=I.laid (a:=s.heap.objs.size) (o:=.own (s.heap.objs.size+1)) (h':=s.heap.push PySem.W.emptyDict) (t':=s.toks) (λb u q=>aC _ q) (aI _) ⟨_,e1⟩;refine I1.laid (a:=s.heap.objs.size+1) (o:=.ins C s.heap.objs.size []) (t':=s.toks) (λb u q=>aC _ q) (Nat.le_of_eq (fG _ _)) ?_;have ne:s.heap.objs.size≠s.heap.objs.size+1:=cA (Nat.lt_succ_self _);refine ⟨by rw [dC ne,bO],cG _,ne,e2,λ_=>none,(Heap.Ns1.of_empty e3).at λo q=>aC _ q,λ_=>True.intro,λy hy=>absurd rfl hy⟩
def YJ{prog:Program}{w:World}{env:Env}{e:Expr}{f:Str}{pos:Pos}{s:Shared}{Q:Value->Shared->Prop}(hb:attributeBase e f env (eval e env)=eval e env)
  (h:wpAny (model prog w) A (eval e env) (λo s₁=>wpAny (model prog w) A (getAttr o f true) Q E s₁) E s):wpAny (model prog w) A (eval (.Attribute e f pos) env) Q E s :=
 Attribute_any_ h (by rw [arm_eval_Attribute,hb])
end
def aDv(K:Aa)(ta:TE)(f:Str):TE:=λσ H Q=>ta σ H λx H1=>∃a C dx fs v,x=.ref a/\H1 a=some (.ins C dx fs)/\YU K C/\lK K C f/\fs.lookup f=some v/\Q v H1
def aCt(K:Aa)(ta tv:TE)(f:Str):TS:=λD σ H=>tv σ H λy H1=>ta σ H1 λx H2=>∃a C dx fs,x=.ref a/\H2 a=some (.ins C dx fs)/\YU K C/\lK K C f/\fs.length<1000 /\
 D.nx σ (upd H2 a (.ins C dx (eS f y fs)))
section
variable{X:Cx}{o e value:Expr}{f:Str}{pos pos' tpos:Pos}{ta tv:TE}
def aBi(he:PE X e ta)(hb:attributeBase e f X.env (eval e X.env)=eval e X.env):PE X (.Attribute e f pos) (aDv X.K ta f):=by
 intro pins s σ H Q I h;refine YJ hb (thn (he pins s σ H _ I h) λu s1 ⟨x,H1,I1,rx,a,C,dx,fs,v,ex,ea,c,n,l,q⟩=>?_);subst ex;obtain rfl:u=Value.ref a:=rx;exact II I1 ea c n l λu' s2 I2 ru=>⟨v,H1,I2,ru,q⟩
def aA7(ha:PE X o ta)(hv:PE X value tv)(hs:swapsWith value (some (.Attribute o f pos')) pos.line X.env=pure false):PS X (.Assign [.Attribute o f pos'] value pos) (aCt X.K ta tv f):=by
 intro pins s σ H D I h;refine plainObj_wpAny_Assign_Attribute (thn (hv pins s σ H _ I h) λu s1 ⟨y,H1,I1,ry,q⟩=>thn (ha pins s1 σ H1 _ I1 q) λov s2 ⟨x,H2,I2,rx,a,C,dx,fs,ex,ea,c,n,l,q2⟩=>?_) hs;subst ex;obtain rfl:ov=Value.ref a:=rx;exact HN I2 ea c n l ry λs3 I3=>⟨σ,_,I3,q2⟩
end
section
variable{X:Cx}{pins:Ad}{σ:St}{H:Hp}{s:Shared}{A:Around}{E:Value->Shared->Prop}{Q:Value->Shared->Prop}{c:Value}{b:Bool}
inductive vN (K:Aa) (H:Hp):V->Value->Prop where
 | non:vN K H .non (.type "NoneType")
 | bl (x:Bool):vN K H (.bl x) (.type "bool")
 | int (i:Int):vN K H (.int i) (.type "int")
 | str (x:Str):vN K H (.str x) (.type "str")
 | flt (x:UInt64):vN K H (.flt x) (.type "float")
 | lst {a:Addr} {xs:Al} (e:H a=some (.lst xs)):vN K H (.ref a) (.type "list")
 | frz {a:Addr} {o:Obj} {xs:Al} (e:H a=some (.frz o (.lst xs))):vN K H (.ref a) (.type "list")
 | tup {a:Addr} {xs:Al} (e:H a=some (.tup xs)):vN K H (.ref a) (.type "tuple")
 | dK {a:Addr} {kvs:List (fE × V)} (e:H a=some (.dK kvs)):vN K H (.ref a) (.type "dict")
 | dT {a:Addr} {kvs:List (List fE × V)} (e:H a=some (.dT kvs)):vN K H (.ref a) (.type "dict")
 | ins {a C dx:Addr} {fs:List (Str × V)} (e:H a=some (.ins C dx fs)) (cl:YU K C) (ha:PySem.W.findIn K (.ref C) "__class__" = some (some (.builtin "object.__class__")))
   (hn:PySem.W.specialIn K (.builtin "object.__class__") "__get__" = some (some (.builtin "getset_descriptor.__get__"))) (htk:PySem.W.takesIn K (.builtin "object.__class__")=some true)
   (hm:PySem.W.mroIn K C (.type "object")=some true):vN K H (.ref a) (.ref C)
def NC{x:V}{u t:Value}(I:cI X pins σ H s)(rx:dN x u)(ty:vN X.K H x t)(e:PySem.W.kitOne X.K t c=some b)(h:∀tk,Q (.bool b) { s with toks:=tk }) :
  wpAny (model X.prog X.w) A (call (.builtin "isinstance") [u,c]) Q E s:=by
 cases ty with
 | non=>cases (show u=Value.none from rx);exact PySem.W.kia_one PySem.W.kitx_none I.kIn True.intro e (λz=>nomatch z) h
 | bl y=>cases (show u=Value.bool y from rx);exact PySem.W.kia_one PySem.W.kitx_bool I.kIn True.intro e (λz=>nomatch z) h
 | int i=>obtain ⟨t,q⟩:=(show ∃t,u=Value.int i t from rx);cases q;exact PySem.W.kia_one PySem.W.kitx_int I.kIn True.intro e (λz=>nomatch z) h
 | str y=>obtain ⟨t,q⟩:=(show ∃t,u=Value.str y t from rx);cases q;exact PySem.W.kia_one PySem.W.kitx_str I.kIn True.intro e (λz=>nomatch z) h
 | flt y=>obtain ⟨t,q⟩:=(show ∃t,u=Value.float y t from rx);cases q;exact PySem.W.kia_one PySem.W.kitx_float I.kIn True.intro e (λz=>nomatch z) h
 | @lst a xs ea =>
  cases (show u=Value.ref a from rx);obtain ⟨_,_,n,_,h1⟩:=(show fH X.prog X.w H s.heap a (.lst xs) from I.hok a _ ea);exact PySem.W.kia_one PySem.W.kitx_list I.kIn ⟨_,h1,rfl⟩ e (λz=>nomatch z) h
 | @frz a ob xs ea =>
  cases (show u=Value.ref a from rx);obtain ⟨_,_,_,n,_,h1⟩:=(show fH X.prog X.w H s.heap a (.frz ob (.lst xs)) from I.hok a _ ea);exact PySem.W.kia_one PySem.W.kitx_list I.kIn ⟨_,h1,rfl⟩ e (λz=>nomatch z) h
 | @tup a xs ea =>
  cases (show u=Value.ref a from rx);obtain ⟨_,_,_,p⟩:=(show fH X.prog X.w H s.heap a (.tup xs) from I.hok a _ ea);obtain ⟨o,h1,h2,_⟩:=p;exact PySem.W.kia_one PySem.W.kitx_tuple I.kIn ⟨o,h1,h2⟩ e (λz=>nomatch z) h
 | @dK a kvs ea =>
  cases (show u=Value.ref a from rx);obtain ⟨_,_,vs,_,p⟩:=(show fH X.prog X.w H s.heap a (.dK kvs) from I.hok a _ ea);obtain ⟨o,es,ep,h1,h2,_⟩:=p;exact PySem.W.kia_one PySem.W.kitx_dict I.kIn ⟨o,h1,h2.1⟩ e (λz=>nomatch z) h
 | @dT a kvs ea =>
  cases (show u=Value.ref a from rx);obtain ⟨_,_,xs,_,o,es,ep,h1,h2,_⟩:=(show fH X.prog X.w H s.heap a (.dT kvs) from I.hok a _ ea);exact PySem.W.kia_one PySem.W.kitx_dict I.kIn ⟨o,h1,h2.1⟩ e (λz=>nomatch z) h
 | @ins a C dx fs ea cl ha hn htk hm =>
  cases (show u=Value.ref a from rx);obtain ⟨mA,O,_⟩:=CO I.hok ea;obtain ⟨od,J,_⟩:=O.look;exact PySem.W.kia_one (PySem.W.kitx_own (cl.get _) cl.hd ha hn htk hm) I.kIn J e (λz=>nomatch z) h
end
structure iO(k:Nat)(A:Around):Prop where
 hd:A.handled=none
 dp:A.depth+3*k+5<recursionLimit
 un:A.units+16*k+200<cLine
 gd:A.guards=some []
def iO.mono{j k:Nat}{A:Around}(r:iO k A)(h:j<=k):iO j A:=⟨r.hd,by have:=r.dp;omega,by have:=r.un;omega,r.gd⟩
theorem iO.deeper{k:Nat}{A:Around}(r:iO (k+1) A)(env:Env):iO k (A.deeper env) :=
 ⟨r.hd,by have:=r.dp;show A.depth+1+3*k+5<_;omega,by have:=r.un;show A.units+3+16*k+200<_;omega,r.gd⟩
theorem iO.in1{k:Nat}{A:Around}(r:iO (k+1) A):iO k A.in1 :=
 ⟨r.hd,by have:=r.dp;show A.depth+3*k+5<_;omega,by have:=r.un;show A.units+1+16*k+200<_;omega,r.gd⟩
def IF{A:Around}{C:Addr}{us:Ag}{kw:List (Str × Value)}:(A.under (.builtin "type.__call__" ⟨.ref C::us,kw⟩)).depth=A.depth+1:=by
 first | rfl | simp [Around.under,Code.weight,Code.isCreation,Code.isGuard,Code.isCaller,Code.frames,Code.isFrame,guardIds]
def IE{A:Around}{C:Addr}{us:Ag}{kw:List (Str × Value)}:(A.under (.builtin "type.__call__" ⟨.ref C::us,kw⟩)).units=A.units+1:=by
 first | rfl | simp [Around.under,Code.cUnits,Code.frames,Code.isFrame]
def iO.make{k:Nat}{A:Around}(r:iO (k+1) A)(C:Addr)(us:Ag)(kw:List (Str × Value)):iO k (A.under (.builtin "type.__call__" ⟨.ref C::us,kw⟩)) :=
 ⟨r.hd,by have:=r.dp;rw [IF];omega,by have:=r.un;rw [IE];omega,by first | exact r.gd | (simpa [Around.under,Code.guards,Code.isGuard,guardIds,pushGuards] using r.gd)⟩
theorem iO.depth{k:Nat}{A:Around}(r:iO k A):A.depth<recursionLimit:=by have:=r.dp;exact Oo
theorem iO.units{k:Nat}{A:Around}(r:iO k A):A.units+64<cLine:=by have:=r.un;exact Oo
def aCk:TA:=λ_ H Q=>Q [] H
def ZH(ta:TE)(tr:TA):TA:=λσ H Q=>ta σ H λx H1=>tr σ H1 λxs H2=>Q (x::xs) H2
section
variable{X:Cx}{e:Expr}{es:List Expr}{te:TE}{t:TA}{pos:Pos}
def pa_nil:PA X [] aCk:=λ_ _ _ _ H Q I h=>Calls.spliced_nil ⟨[],H,I,.nil,h⟩
def WW(ha:PE X e te)(hr:PA X es t)(hs:starEach (e::es) X.env=(false,eval e X.env)::starEach es X.env:=by rfl):PA X (e::es) (ZH te t):=by
 intro pos pins s σ H Q I h;rw [hs];show wpAny _ _ (spliced ((false,eval e X.env)::backTo pos (starEach es X.env))) _ _ s;refine Calls.spliced_cons (thn (ha pins s σ H _ I h) λu s1 ⟨x,H1,I1,r1,q1⟩=>?_);exact thn (hr pos pins s1 σ H1 _ I1 q1) λus s2 ⟨xs,H2,I2,r2,q2⟩=>⟨x::xs,H2,I2,.cons r1 r2,q2⟩
def aDt(t:TA):TE:=λσ H Q=>t σ H λxs H1=>xs.length<=sizeLine/\∀p,H1 p=none->Q (.ref p) (upd H1 p (.tup xs))
def aDu(t:TA):TE:=λσ H Q=>t σ H λxs H1=>xs.length<=sizeLine/\∀p,H1 p=none->Q (.ref p) (upd H1 p (.lst xs))
def aBg{x1}(h:PA X es t):PE X (.Tuple es x1 pos) (aDt t):=by
 intro pins s σ H Q I hq;refine wpAny_Tuple_spliced (thn (h pos pins s σ H _ I hq) λus s1 ⟨xs,H1,I1,r,z,q⟩=>⟨by rw [<-r.length];exact z,?_⟩);have hf:H1 s1.heap.objs.size=none:=I1.hok.fresh (aI _);refine ⟨.ref s1.heap.objs.size,upd H1 s1.heap.objs.size (.tup xs),I1.laid (t':=s1.toks) (λb u e=>aC _ e) (aI _) ?_,rfl,q _ hf⟩;exact ⟨⟨z,_,bB _ rfl,rfl⟩,us,r,⟨_,bB _ rfl,rfl,_,rfl⟩⟩
def aBh(h:PA X es t):PE X (.List es pos) (aDu t):=by
 intro pins s σ H Q I hq;refine wpAny_List_spliced (thn (h pos pins s σ H _ I hq) λus s1 ⟨xs,H1,I1,r,z,q⟩=>⟨by rw [<-r.length];exact z,?_⟩);have hf:H1 s1.heap.objs.size=none:=I1.hok.fresh (aI _);refine ⟨.ref s1.heap.objs.size,upd H1 s1.heap.objs.size (.lst xs),I1.laid (t':=s1.toks) (λb u e=>aC _ e) (aI _) ?_,rfl,q _ hf⟩;exact ⟨z,us,0,r,bB _ rfl⟩
end
abbrev Sp:=Al->Hp->VK->XK->Prop
abbrev NZ:=List Env->Hp->Shared->XK->Value->Shared->Prop
structure zK(P:Program)(w:World)(K:Aa)(mg:Str->Option Value)(base:Heap)(A:Around)(outer:List Env)(s:Shared)(H:Hp):Prop where
 frames:A.frames=some outer
 mod:Mod K mg base
 bs:∀b o,base.get? b=some o->s.heap.get? b=some o/\H b=none
 bsz:base.objs.size<=s.heap.objs.size
 funs:s.heap.FunFrames base outer
 frf:∀b∈frs outer,H b=none
 hok:pQ P w H s.heap
 bare:AllBare s.gens
def CE(outer:List Env)(P:Program)(w:World)(H:Hp)(s:Shared)(Q:VK)(u:Value)(s':Shared):Prop :=
 ∃v H',s'.os=s.os/\AllBare s'.gens/\Un (frs outer) [] H H' s.heap s'.heap/\pQ P w H' s'.heap/\dN v u/\Q v H'
def CR(CX:NZ)(outer:List Env)(P:Program)(w:World)(H:Hp)(s:Shared)(Q:VK)(E:XK)(r:Result)(s':Shared):Prop :=
 match r with
 | .ok (.ret u)=>CE outer P w H s Q u s'
 | .ok _=>False
 | .error e=>CX outer H s E e s'
structure eC(P:Program)(w:World)(K:Aa)(mg:Str->Option Value)(base:Heap)(CX:NZ)(k:Nat)(f:Addr)(fd:FuncData)(ps:Ah)(sp:Sp):Prop where
 len:∀vs H Q E,sp vs H Q E->vs.length=ps.length
 run:∀(A:Around) (outer:List Env) (s:Shared) (H:Hp) (args:Args) (us:Ag) (vs:Al) (Q:VK) (E:XK),iO k A->zK P w K mg base A outer s H->BindsTo s fd args (ps.zip us)->dF vs us->sp vs H Q E ->
  codeAny (model P w) A (.call (.ref f) args) (CR CX outer P w H s Q E) s
def zK.make{P:Program}{w:World}{K:Aa}{mg:Str->Option Value}{base:Heap}{A:Around}{outer:List Env}{s:Shared}{H:Hp}(e:zK P w K mg base A outer s H)(C:Addr)(us:Ag)(kw:List (Str × Value)) :
  zK P w K mg base (A.under (.builtin "type.__call__" ⟨.ref C::us,kw⟩)) outer s H:=⟨by first | exact e.frames | (simpa [Around.under,Code.envs,Code.isFrame,pushEnvs] using e.frames),e.mod,e.bs,e.bsz,e.funs,e.frf,e.hok,e.bare⟩
theorem zK.in1{P:Program}{w:World}{K:Aa}{mg:Str->Option Value}{base:Heap}{A:Around}{outer:List Env}{s:Shared}{H:Hp}(e:zK P w K mg base A outer s H) :
  zK P w K mg base A.in1 outer s H:=⟨e.frames,e.mod,e.bs,e.bsz,e.funs,e.frf,e.hok,e.bare⟩
section
variable{X:Cx}{pins:Ad}{σ:St}{H:Hp}{s s':Shared}
def cI.env0(I:cI X pins σ H s):zK X.prog X.w X.K X.mg X.base X.A X.stack s H :=
 ⟨I.ok.frames,I.ok.mod,I.bs,aM I.ok.bsz I.sz,I.stack,I.stkFree,I.hok,I.bare⟩
def cI.after{Q:VK}{u:Value}(I:cI X pins σ H s)(h:CE X.stack X.prog X.w H s Q u s'):EP X pins σ Q u s':=by
 obtain ⟨v,H',os,bare,un,hok,r,q⟩:=h;obtain ⟨hh,g,d,t,os'⟩:=s';obtain rfl:os'=s.os:=os;exact ⟨v,H',I.call (h':=hh) (g':=g) (d':=d) (t':=t) (ch:=[]) un hok bare (λb z=>absurd z (by simp)),r,q⟩
end
def PC(sp:Sp)(dvs:Al)(E:XK)(t:TA):TE:=λσ H Q=>t σ H λvs H1=>sp (vs++dvs) H1 Q E
def ZB(C:Addr)(sp:Sp)(dvs:Al)(E:XK)(t:TA):TE:=λσ H Q=>t σ H λvs H1=>∀x dx,H1 x=none->H1 dx=none->dx≠x ->
 sp (.ref x::(vs++dvs)) (upd (upd H1 dx (.own x)) x (.ins C dx [])) (λv H2=>v=.non/\Q (.ref x) H2) E
def qW(K:Aa)(fd:FuncData)(ps:Ah)(ds:Ag):Prop :=
 ∀(s:Shared) (us:Ag),K.In s.heap->(us++ds).length=ps.length->BindsTo s fd ⟨us,[]⟩ (ps.zip (us++ds))
def qW.all{K:Aa}{fd:FuncData}{ps:Ah}(h:∀us:Ag,us.length=ps.length->bindArgs fd ⟨us,[]⟩=pure (ps.zip us)):qW K fd ps []:=λs us _ hl=>by
 rw [List.append_nil] at hl ⊢;exact .of_eq (h us hl)
def yQ(CX:NZ)(X:Cx)(E:XK):Prop:=∀(pins:Ad) (σ:St) (H:Hp) (s:Shared) (e:Value) (s':Shared),cI X pins σ H s->CX X.stack H s E e s'->X.xe e s'
section
variable{X:Cx}{CX:NZ}{k:Nat}{f C:Addr}{fd:FuncData}{ps:Ah}{sp:Sp}{dvs:Al}{ds:Ag}{E:XK}{x m:Str}{p pos apos:Pos}{e o:Expr}{es:List Expr}{ta:TE}{t:TA}
def aAU{pins:Ad}{σ:St}{H:Hp}{s:Shared}{Q:VK}{us:Ag}{vs:Al}(F:eC X.prog X.w X.K X.mg X.base CX k f fd ps sp)(hr:iO k X.A)(hb:qW X.K fd ps ds)(hd:dF dvs ds)(hx:yQ CX X E)
  (I:cI X pins σ H s) (r:dF vs us) (h:sp (vs++dvs) H Q E):wpAny (model X.prog X.w) X.A (call (.ref f) us) (EP X pins σ Q) X.xe s:=by
 have r2:dF (vs++dvs) (us++ds):=r.append hd;have hl:(us++ds).length=ps.length:=by rw [<-r2.length];exact F.len _ _ _ _ h
 refine wpAny_call (codeAny_mono (F.run X.A X.stack s H ⟨us,[]⟩ (us++ds) (vs++dvs) Q E hr I.env0 (hb s us I.kIn hl) r2 h) λr s' hq=>?_);cases r with
 | error e=>exact hx pins σ H s e s' I hq
 | ok fl =>
  cases fl with
  | ret u=>exact I.after hq
  | next=>exact False.elim hq
  | brk=>exact False.elim hq
  | cont=>exact False.elim hq
def WU(F:eC X.prog X.w X.K X.mg X.base CX k f fd ps sp)(hr:iO k X.A)(hg:Gl X x)(hm:X.mg x=some (.ref f))(hk:PySem.W.keepIn X.K (.ref f)=true)(hb:qW X.K fd ps ds)(hd:dF dvs ds)(hx:yQ CX X E)
  (ha:PA X (e::es) t) (hdb:(x == ("__debug__" : Str))=false:=by decide) (he:starEach (e::es) X.env=(false,eval e X.env)::starEach es X.env:=by rfl) (hpl:(backTo pos (starEach es X.env)).any (·.1)=false:=by rfl) :
  PE X (.Call (.Name x p) (e::es) [] pos) (PC sp dvs E t):=by
 intro pins s σ H Q I h;refine wpAny_Call_Name_kw (wV I hg hm ?_ hdb);refine PySem.W.callWith_K (h₀:=X.base) I.ok.mod.kin hk (thn (ha pos pins s σ H _ I h) λus s1 ⟨vs,H1,I1,r,q⟩=>⟨I1.kIn,?_⟩) he hpl;exact aAU F hr hb hd hx I1 r q
structure Mk(K:Aa)(C f:Addr):Prop where
 makes:PySem.W.makesIn K C=true
 init:PySem.W.findIn K (.ref C) "__init__" = some (some (.ref f))
 fn:PySem.W.isFn K (.ref f)=true
 kp:PySem.W.keepIn K (.ref C)=true
def QE{pins:Ad}{σ:St}{H:Hp}{s:Shared}{Q:VK}{us:Ag}{vs:Al}(M:Mk X.K C f)(F:eC X.prog X.w X.K X.mg X.base CX k f fd ps sp)(hr:iO (k+1) X.A)(hb:qW X.K fd ps ds)(hd:dF dvs ds)
  (hx:yQ CX X E) (I:cI X pins σ H s) (r:dF vs us)
  (h:∀x dx,H x=none->H dx=none->dx≠x->sp (.ref x::(vs++dvs)) (upd (upd H dx (.own x)) x (.ins C dx [])) (λv H2=>v=.non/\Q (.ref x) H2) E) :
  wpAny (model X.prog X.w) X.A (call (.ref C) us) (EP X pins σ Q) X.xe s:=by
 have hq:=h (s.heap.objs.size+1) s.heap.objs.size (I.hok.fresh (Nat.le_succ _)) (I.hok.fresh (aI _)) (cA (Nat.lt_succ_self _));have I2:=cI.made (C:=C) I;have r2:dF (V.ref (s.heap.objs.size+1)::(vs++dvs)) (Value.ref (s.heap.objs.size+1)::(us++ds)):=.cons rfl (r.append hd);have hl:(Value.ref (s.heap.objs.size+1)::us++ds).length=ps.length:=by
  have e:=r2.length;rw [F.len _ _ _ _ hq] at e;exact e.symm
 refine wpAny_call (RK (f:=f) I.kIn M.makes M.init (beq_iff_eq.mp M.fn) (codeAny_mono (F.run _ X.stack _ _ ⟨Value.ref (s.heap.objs.size+1)::us,[]⟩ (Value.ref (s.heap.objs.size+1)::(us++ds)) _ _ E (hr.make C us [])
  (I2.env0.make C us []) (hb _ (Value.ref (s.heap.objs.size+1)::us) I2.kIn hl) r2 hq) λr s' hq'=>?_))
 cases r with
 | error e=>exact hx pins σ _ _ e s' I2 hq'
 | ok fl =>
  cases fl with
  | ret u =>
   obtain ⟨v,H',I3,rv,ev,q3⟩:=I2.after hq';subst ev;exact ⟨rv,⟨V.ref (s.heap.objs.size+1),H',I3,rfl,q3⟩⟩
  | next=>exact False.elim hq'
  | brk=>exact False.elim hq'
  | cont=>exact False.elim hq'
def WO(M:Mk X.K C f)(F:eC X.prog X.w X.K X.mg X.base CX k f fd ps sp)(hr:iO (k+1) X.A)(hg:Gl X x)(hm:X.mg x=some (.ref C))(hb:qW X.K fd ps ds)(hd:dF dvs ds)(hx:yQ CX X E)
  (ha:PA X (e::es) t) (hdb:(x == ("__debug__" : Str))=false:=by decide) (he:starEach (e::es) X.env=(false,eval e X.env)::starEach es X.env:=by rfl) (hpl:(backTo pos (starEach es X.env)).any (·.1)=false:=by rfl) :
  PE X (.Call (.Name x p) (e::es) [] pos) (ZB C sp dvs E t):=by
 intro pins s σ H Q I h;refine wpAny_Call_Name_kw (wV I hg hm ?_ hdb);refine PySem.W.callWith_K (h₀:=X.base) I.ok.mod.kin M.kp (thn (ha pos pins s σ H _ I h) λus s1 ⟨vs,H1,I1,r,q⟩=>⟨I1.kIn,?_⟩) he hpl;exact QE M F hr hb hd hx I1 r q
end
section
variable{X:Cx}{CX:NZ}{k:Nat}{f C:Addr}{fd:FuncData}{ps ks:Ah}{sp:Sp}{E:XK}{x m:Str}{p pos apos kpos:Pos}{e o:Expr}{es:List Expr}{kws:List Keyword}{te ta:TE}{t tk:TA}{nm:Option Str}
variable{g:Ag->Ag->Ag}{gV:Al->Al->Al}
end
structure bZ(N P:Ah)(sc:Scope):Prop where
 kind:sc.kind=.function
 co:sc.isCoroutine=false
 gen:sc.isGenerator=false
 nd:N.Nodup
 pre:N.take P.length=P
 par:∀x∈P,sc.names.lookup x=some .local\/sc.names.lookup x=some .cell
 nofree:∀y∈sc.names,y.2 ≠ .free
theorem AS{kindOf:Str->Option NameKind}{x:Str}:∀{binds:List (Str × Value)}{m:Str->Option Value},(∀v,(x,v) ∉ binds)->bindL kindOf binds m x=m x
 | [],_,_=>rfl
 | (n,v)::r,m,h=>by
  unfold bindL;rw [AS λw hw=>h w (aT _ hw)];split
  ·have:x≠n:=by rintro rfl;exact h v aS
   simp [this]
  ·rfl
theorem AU{kindOf:Str->Option NameKind}{x:Str}:∀{binds:List (Str × Value)}{m:Str->Option Value},(∀v,(x,v) ∉ binds)->bindC kindOf binds m x=m x
 | [],_,_=>rfl
 | (n,v)::r,m,h=>by
  unfold bindC;rw [AU λw hw=>h w (aT _ hw)];split
  ·rfl
  ·have:x≠n:=by rintro rfl;exact h v aS
   simp [this]
theorem AT{kindOf:Str->Option NameKind}{x:Str}{v:Value}:∀{P:Ah}{vs:Ag}{i:Nat}{m:Str->Option Value},P.Nodup->P[i]?=some x->vs[i]?=some v->kindOf x=some .local ->
  bindL kindOf (P.zip vs) m x=some v
 | [],_,_,_,_,h,_,_=>by simp at h
 | _::_,[],_,_,_,_,h,_=>by simp at h
 | p::P,w::vs,0,m,nd,h1,h2,hk=>by
  simp at h1 h2;subst h1;subst h2;show bindL kindOf ((p,w)::P.zip vs) m p=_;unfold bindL;rw [AS λv hv=>(List.nodup_cons.mp nd).1 (List.of_mem_zip hv).1,if_pos hk];simp
 | p::P,w::vs,i+1,m,nd,h1,h2,hk=>by
  show bindL kindOf ((p,w)::P.zip vs) m x=_;unfold bindL;exact AT (i:=i) (List.nodup_cons.mp nd).2 (by simpa using h1) (by simpa using h2) hk
theorem AV{kindOf:Str->Option NameKind}{x:Str}{v:Value}:∀{P:Ah}{vs:Ag}{i:Nat}{m:Str->Option Value},P.Nodup->P[i]?=some x->vs[i]?=some v->kindOf x≠some .local ->
  bindC kindOf (P.zip vs) m x=some v
 | [],_,_,_,_,h,_,_=>by simp at h
 | _::_,[],_,_,_,_,h,_=>by simp at h
 | p::P,w::vs,0,m,nd,h1,h2,hk=>by
  simp at h1 h2;subst h1;subst h2;show bindC kindOf ((p,w)::P.zip vs) m p=_;unfold bindC;rw [AU λv hv=>(List.nodup_cons.mp nd).1 (List.of_mem_zip hv).1,if_neg hk];simp
 | p::P,w::vs,i+1,m,nd,h1,h2,hk=>by
  show bindC kindOf ((p,w)::P.zip vs) m x=_;unfold bindC;exact AV (i:=i) (List.nodup_cons.mp nd).2 (by simpa using h1) (by simpa using h2) hk
def start(N:Ah)(vs:Al):St:=vs.map some++List.replicate (N.length-vs.length) none
def GA(CX:NZ)(P:Program)(w:World)(K:Aa)(mg:Str->Option Value)(base:Heap)(N:Ah)(qual:Str)(scope:Scope)(f:Addr)(cd:Value)(A:Around)(outer:List Env)(s:Shared)(H:Hp)(E:XK):Cx where
 prog:=P
 w:=w
 K:=K
 mg:=mg
 base:=base
 A:=A.deeper (envOfC qual scope s.heap.objs.size f cd)
 N:=N
 s₀:=s
 H₀:=H
 env:=envOfC qual scope s.heap.objs.size f cd
 outer:=outer
 stack:=envOfC qual scope s.heap.objs.size f cd::outer
 ex:=[]
 calm:=true
 fn:=λ_=>true
 pn:=[]
 xe:=λe s'=>wpAny (model P w) (A.deeper (envOfC qual scope s.heap.objs.size f cd)) (leaving (envOfC qual scope s.heap.objs.size f cd) e) (λ_ s''=>CX outer H s E e s'') (λe' s''=>CX outer H s E e' s'') s'
def GI{sc:Scope}{n:Nat}{x:Str}(h:sc.names.lookup x=some .cell):∃c,(cellsFrom n sc.names []).lookup x=some c:=by
 have q:=PySem.W.cellsFrom_some sc.names n [] (.inl h);exact Option.isSome_iff_exists.mp q
def ND{CX:NZ}{P:Program}{w:World}{K:Aa}{mg:Str->Option Value}{base:Heap}{N ps:Ah}{qual:Str}{scope:Scope}{f:Addr}{cd:Value}{A:Around}{outer:List Env}{s s1:Shared}{H:Hp}{E:XK}{us:Ag}{vs:Al}
  (S:bZ N ps scope) (hd:A.handled=none) (e0:zK P w K mg base A outer s H) (hl:vs.length=ps.length) (r:dF vs us)
  (x:InCallC s s.heap.objs.size (bindL (envOfC qual scope s.heap.objs.size f cd).kindOf (ps.zip us) λ_=>none) (cellsFrom (s.heap.objs.size+1) scope.names []) (bindC (envOfC qual scope s.heap.objs.size f cd).kindOf (ps.zip us) λ_=>none) s1) :
  cI (GA CX P w K mg base N qual scope f cd A outer s H E) [] (start N vs) H s1:=by
 have hpl:ps.length<=N.length:=by have:=congrArg List.length S.pre;rw [cK] at this;exact Oo
 obtain ⟨h1,tk,rfl,hk⟩:=x.done;have noA:∀b:Addr,b ∉ (GA CX P w K mg base N qual scope f cd A outer s H E).ex:=λb z=>absurd (show b∈([]:List Addr) from z) (by simp);refine ⟨⟨e0.mod,S.kind,rfl,rfl,aI _,λy z c h1 h2=>?_,λy hy=>?_,λy c _ h=>?_,λ_=>hd,Around.frames_deeper e0.frames,.inr ⟨rfl,rfl⟩,λb z=>absurd z (noA b),e0.bs,e0.bsz,λb _ _=>noA b,λb z=>absurd z (noA b),e0.funs,e0.frf⟩,
  rfl,e0.bare,Un.kept hk,⟨_,x.toInCall.ns,λi y v h1 h2 h3=>?_⟩,λy c h=>⟨_,x.cell y c h⟩,e0.hok.fresh (aI _),λy c h=>?_,λp hp=>absurd (show p∈([]:Ad) from hp) (by simp),e0.hok.kept hk,?_⟩
 ·exact name_of_addr x.apart (PySem.mem_of_lookup h1) (PySem.mem_of_lookup h2)
 ·have hy:scope.names.lookup y=some .cell\/scope.names.lookup y=some .free:=hy;rcases hy with hy | hy
  ·exact GI hy
  ·exact absurd rfl (S.nofree _ (PySem.mem_of_lookup hy))
 ·exact Nat.le_of_lt (x.above y c (PySem.mem_of_lookup h))
 ·have hi:i<vs.length:=by
   unfold start at h2;by_cases hi:i<vs.length
   ·exact hi
   ·rw [cW (by simpa using hi)] at h2;rw [List.getElem?_replicate] at h2;split at h2 <;> cases h2
  have ha:vs[i]?=some v:=by
   unfold start at h2;rw [cO (by simpa using hi),aL] at h2;cases e:vs[i]? with
   | none=>rw [e] at h2;cases h2
   | some a=>rw [e] at h2;cases h2;rfl
  obtain ⟨u,hu,rv⟩:=r.get ha;have hp:ps[i]?=some y:=by
   rw [<-S.pre,List.getElem?_take_of_lt Oo];exact h1
  have ndP:ps.Nodup:=by rw [<-S.pre];exact S.nd.sublist (List.take_sublist _ _)
  refine ⟨u,rv,?_⟩;rcases S.par y (aG hp) with k | k
  ·exact .inl ⟨k,AT ndP hp hu k⟩
  ·obtain ⟨c,e⟩:=GI (n:=s.heap.objs.size+1) k;refine .inr ⟨.inl k,c,e,?_⟩;have q:=x.cell y c e;rw [AV ndP hp hu (by show scope.names.lookup y≠_;rw [k];decide)] at q;exact q
 ·exact e0.hok.fresh (Nat.le_of_lt (x.above y c (PySem.mem_of_lookup h)))
 ·unfold start;show _=N.length;rw [bE,aA,dS];exact Oo
def aC0{CX:NZ}{P:Program}{w:World}{K:Aa}{mg:Str->Option Value}{base:Heap}{k:Nat}{f:Addr}{name qual:Str}{params:Arguments}{body:List Stmt}{scope:Scope}{dV kV doc pm cdv ct oc:Value}{an od:Option Addr}
  {osl:Array (Option Value)} {N ps:Ah} {sp:Sp} (lk:K.lookup f=some ⟨oc,od,.func (PySem.W.fnOf name qual params body scope dV kV doc pm an cdv ct),osl⟩) (hcd:PySem.W.codeIn K cdv qual=true) (S:bZ N ps scope)
  (len:∀vs H Q E,sp vs H Q E->vs.length=ps.length)
  (hbody:∀(A:Around) (outer:List Env) (s:Shared) (H:Hp) (vs:Al) (Q:VK) (E:XK),iO k (A.deeper (envOfC qual scope s.heap.objs.size f cdv))->sp vs H Q E ->
   ∃t,IU (GA CX P w K mg base N qual scope f cdv A outer s H E) body t/\t { nx:=λ_ H'=>Q .non H',rt:=Q } (start N vs) H) :
  eC P w K mg base CX (k+1) f (PySem.W.fnOf name qual params body scope dV kV doc pm an cdv ct) ps sp:=by
 refine ⟨len,λA outer s H args us vs Q E hr e0 hb r hsp=>?_⟩;have hl:=len _ _ _ _ hsp;have KX:K.In s.heap:=e0.mod.kin.keeps λb o e=>(e0.bs b o e).1;have lim:s.heap.NoLimit:=e0.mod.nolimit.keeps λb o e=>(e0.bs b o e).1;have hkind:∀y∈ps.zip us,scope.names.lookup y.1=some .local\/(scope.names.lookup y.1=some .cell/\((cellsFrom (s.heap.objs.size+1) scope.names []).lookup y.1).isSome=true):=λ⟨n,v⟩ hy=>by
  rcases S.par n (List.of_mem_zip hy).1 with q | q
  ·exact .inl q
  ·exact .inr ⟨q,PySem.W.cellsFrom_some _ _ _ (.inl q)⟩
 refine codeAny_call_function hr.depth (KX _ _ lk) rfl S.co S.gen rfl (PySem.W.codeRec_of KX hcd) (hb _ _ _ _ ?_);refine wpAny_newFunctionEnv_cells S.kind hkind λenv he s1 x=>?_;subst he;refine ⟨lim.keeps x.toInCall.keep,codeAny_func ?_⟩;obtain ⟨t,ht,hq⟩:=hbody A outer s H vs Q E (hr.deeper _) hsp;have I:cI (GA CX P w K mg base N qual scope f cdv A outer s H E) [] (start N vs) H s1:=ND S hr.hd e0 hl r x;refine wpAny_mono (ht [] s1 (start N vs) H _ I hq) (λfl s' hs=>?_) λe s' hs=>hs;have fin:∀{σ':St} {H':Hp} {v:V} {u:Value},cI (GA CX P w K mg base N qual scope f cdv A outer s H E) [] σ' H' s'->dN v u->Q v H'->CE outer P w H s Q u s' :=
  λ{σ' H' v u} J rv q=>⟨v,H',J.os,J.bare,J.base,J.hok,rv,q⟩
 cases fl with
 | ret u =>
  obtain ⟨v,σ',H',J,rv,q⟩:=hs;exact fin J rv q
 | next =>
  obtain ⟨σ',H',J,q⟩:=hs;exact fin (v:=V.non) (u:=Value.none) J rfl q
 | brk =>
  obtain ⟨_,_,_,q⟩:=hs;exact False.elim q
 | cont =>
  obtain ⟨_,_,_,q⟩:=hs;exact False.elim q
section
variable{X:Cx}{x:Str}{p pos:Pos}{e:Expr}{es:List Expr}{t:TA}{id T:String}{r:Al->Hp->VK->Prop}
def tCB(r:Al->Hp->VK->Prop)(t:TA):TE:=λσ H Q=>t σ H λvs H1=>r vs H1 Q
def RE(hc:iA X (.builtin id) r)(hg:Gl X x)(hm:X.mg x=none)(hv:bootBuiltins x=some (.builtin id))(ha:PA X (e::es) t)(hn:x ≠ "__name__" := by decide)(hdb:(x == ("__debug__" : Str))=false:=by decide)
  (he:starEach (e::es) X.env=(false,eval e X.env)::starEach es X.env:=by rfl) (hpl:(backTo pos (starEach es X.env)).any (·.1)=false:=by rfl):PE X (.Call (.Name x p) (e::es) [] pos) (tCB r t):=by
 intro pins s σ H Q I h;refine wpAny_Call_Name_kw (pD I hg hm hv ?_ hn hdb);exact PyProof.Rows.callWith_builtin1 (thn (ha pos pins s σ H _ I h) λus s1 ⟨vs,H1,I1,r1,q1⟩=>hc pins s1 σ H1 vs us Q I1 r1 q1) he hpl
def MT(hc:iA X (.type T) r)(hg:Gl X x)(hm:X.mg x=none)(hv:bootBuiltins x=some (.type T))(ha:PA X (e::es) t)(hn:x ≠ "__name__" := by decide)(hdb:(x == ("__debug__" : Str))=false:=by decide)
  (he:starEach (e::es) X.env=(false,eval e X.env)::starEach es X.env:=by rfl) (hpl:(backTo pos (starEach es X.env)).any (·.1)=false:=by rfl):PE X (.Call (.Name x p) (e::es) [] pos) (tCB r t):=by
 intro pins s σ H Q I h;refine wpAny_Call_Name_kw (pD I hg hm hv ?_ hn hdb);exact PyProof.Rows.callWith_type1 (thn (ha pos pins s σ H _ I h) λus s1 ⟨vs,H1,I1,r1,q1⟩=>hc pins s1 σ H1 vs us Q I1 r1 q1) he hpl
end
end L2
namespace HT
open PySem PyProof.Rows
def oM:Af->Af->Bool
 | [],[]=>false
 | [],_::_=>true
 | _::_,[]=>false
 | x::xs,y::ys=>if x=y then oM xs ys else decide (x<y)
def xX(x y:Int)(xs ys:Af):oM (x::xs) (y::ys)=if x=y then oM xs ys else decide (x<y):=rfl
def yZ:oM [] []=false:=rfl
def xV(y:Int)(ys:Af):oM [] (y::ys)=true:=rfl
def xW(x:Int)(xs:Af):oM (x::xs) []=false:=rfl
def SF(A:Around)(s:Shared)(a:Int)(t:Tok)(c:Int)(u:Tok):∃e,SeqAt.EqAt A s (.int a t) (.int c u) e/\(e=true↔a=c) :=
 ⟨(a == c),SeqAt.EqAt.int_int a t c u,by simp⟩
def QL(A:Around)(s:Shared)(a:Int)(t:Tok)(c:Int)(u:Tok)(prog:Program)(w:World)(E:Value->Shared->Prop)(Q:Value->Shared->Prop)(h:Q (.bool (decide (a<c))) s) :
  wpAny (model prog w) A (richCompare .Lt (.int a t) (.int c u)) Q E s :=
 (PyProof.Rows.lt_int h:wpAny (model prog w) A (compareOp .Lt (.int a t) (.int c u)) Q E s)
section
open PySem.SeqAt
open PySem.AutoSeq1 (wpAny_loadPart')
open PySem.MeetsSeq PySem.MeetsSeq2 PySem.MeetsSeq3
def yV(l b:Addr)(items items2:Ai)(n n2:Nat)(dd dd2:Option Addr)(sl sl2:Array (Option Value))(ns ms:Af)(hi:IntsAre items.toList ns)(hj:IntsAre items2.toList ms) :
  Meets (Builtin.«tuple.__lt__» ⟨[.ref l,.ref b],[]⟩)
   (λ_ R s=>s.heap.get? l=some { cls:=.type "tuple",dict:=dd,data:=.seq items n,slots:=sl }/\s.heap.get? b=some { cls:=.type "tuple",dict:=dd2,data:=.seq items2 n2,slots:=sl2 } /\
    R (.ok (.ret (.bool (oM ns ms)))) s) :=
 .of_wp λprog w A R s h=>by
  obtain ⟨hp,g,d,tk,os⟩:=s;obtain ⟨hl,hb,h⟩:=h;have f2:=AutoSeq1.sub_tuple_tuple;have z1:items.size=ns.length:=by rw [<-hi.length];simp
  have z2:items2.size=ms.length:=by rw [<-hj.length];simp
  wp_walk using wpAny_loadPart' hl,wpAny_loadPart' hb,wpAny_forIn_list _ (λrest b s'=>b.1=none/\s'=⟨hp,g,d,tk,os⟩/\∃(vs ws:Ag) (ns' ms':Af),rest=vs.zip ws /\
   IntsAre vs ns'/\IntsAre ws ms'/\ns'.length+items2.size=ms'.length+items.size/\R (.ok (.ret (.bool (oM ns' ms')))) ⟨hp,g,d,tk,os⟩) _
  case turn =>
   rintro ⟨y,x⟩ rest b s' ⟨hb',rfl,vs,ws,ns',ms',hz,hvi,hwi,hlen,hR⟩;cases hvi with
   | nil=>rw [List.zip_nil_left] at hz;cases hz
   | cons a t hvi' =>
    cases hwi with
    | nil=>rw [List.zip_nil_right] at hz;cases hz
    | cons c u hwi' =>
     rw [List.zip_cons_cons] at hz;injection hz with hyx hrest;injection hyx with hy hx;subst hy hx;rw [xX] at hR;simp only [bT] at hlen;obtain ⟨e,he,hiff⟩:=SF A.in1 ⟨hp,g,d,tk,os⟩ a t c u;refine wpAny_bind (he prog w _ _ ?_);cases e with
     | true =>
      rw [if_pos (hiff.mp rfl)] at hR
      wp_walk
      exact ⟨rfl,rfl,_,_,_,_,hrest,hvi',hwi',Oo,hR⟩
     | false =>
      rw [if_neg (λq=>absurd (hiff.mpr q) bR)] at hR;have hri:=QL A.in1 ⟨hp,g,d,tk,os⟩ a t c u prog w
      wp_walk using hri
      exact ⟨_,rfl,by simpa using hR⟩
  case fin =>
   rintro ⟨b1,b2⟩ s' ⟨hb',rfl,vs,ws,ns',ms',hz,hvi,hwi,hlen,hR⟩;simp only at hb';subst hb';have hv:oM ns' ms'=decide (items.size<items2.size):=by
    cases hvi with
    | nil =>
     cases hwi with
     | nil =>
      simp only [List.length_nil] at hlen;rw [yZ];exact (cJ Oo).symm
     | cons c u hw =>
      simp only [List.length_nil,bT] at hlen;rw [xV];exact (cL Oo).symm
    | cons a t hv =>
     cases hwi with
     | nil =>
      simp only [List.length_nil,bT] at hlen;rw [xW];exact (cJ Oo).symm
     | cons c u hw =>
      rw [List.zip_cons_cons] at hz;cases hz
   rw [hv] at hR
   wp_walk
   exact ⟨_,rfl,by simpa [Builtin.Tuple.tupleCompareSizes] using hR⟩
  case h =>
   exact ⟨rfl,rfl,items.toList,items2.toList,ns,ms,rfl,hi,hj,Oo,h⟩
end
section
variable{prog:Program}{w:World}{A:Around}{E:Value->Shared->Prop}{s:Shared}
def IG{l b:Addr}{items items2:Ai}{ns ms:Af}{Q:Value->Shared->Prop}(hl:IsTup s.heap l items)(hb:IsTup s.heap b items2)(hi:IntsAre items.toList ns)(hj:IntsAre items2.toList ms)
  (hu:A.units<cLine) (h:Q (.bool (oM ns ms)) s):wpAny (model prog w) A (compareOp .Lt (.ref l) (.ref b)) Q E s:=by
 obtain ⟨⟨cls,dd,data,sl⟩,ho,hc,n,hd⟩:=id hl;obtain ⟨⟨cls2,dd2,data2,sl2⟩,ho2,hc2,n2,hd2⟩:=id hb;simp only at hc hd hc2 hd2;subst hc hd hc2 hd2;exact richCompare_meets_room (op:=.Lt) ⟨_,ho,rfl⟩ ⟨_,ho2,rfl⟩ PySem.F.slot_tuple_lt PySem.F.entry_tuple_lt (PySem.F.args_tuple_lt_2 _ _) (yV l b items items2 n n2 dd dd2 sl sl2 ns ms hi hj)
  ⟨ho,ho2,show Value.bool (oM ns ms)≠Value.notImplemented/\Q (.bool (oM ns ms)) s from ⟨(λx=>nomatch x),h⟩⟩ hu
def XX{t b:Addr}{vs ws:Ag}{Q:Value->Shared->Prop}(ht:IsTup s.heap t vs.toArray)(hb:IsTup s.heap b ws.toArray)(hv:vs≠[])
  (h1:ws=[]->Q (.ref t) s) (h2:ws≠[]->Q (.ref s.heap.objs.size) { s with heap:=s.heap.push { cls:=.type "tuple",data:=.seq (vs++ws).toArray } })
  (hsz:vs.length+ws.length<=sizeLine):wpAny (model prog w) A (binaryOp .Add (.ref t) (.ref b)) Q E s:=by
 obtain ⟨⟨cls,dd,data,sl⟩,ho,hc,n,hd⟩:=id ht;obtain ⟨⟨cls2,dd2,data2,sl2⟩,ho2,hc2,n2,hd2⟩:=id hb;simp only at hc hd hc2 hd2;subst hc hd hc2 hd2;have e:vs.toArray++ws.toArray=(vs++ws).toArray:=by simp
 by_cases hw:ws=[]
 ·exact concat_meets ⟨_,ho,rfl⟩ ⟨_,ho2,rfl⟩ noFill_tuple_add seq_tuple_add PySem.F.slot_tuple_add PySem.F.entry_tuple_add (PySem.F.args_tuple_add_2 _ _)
   (tuple_addW1 t b vs.toArray ws.toArray n n2 dd dd2 sl sl2 (by simpa using hv) (by simp [hw])) ⟨ho,ho2,h1 hw⟩
 ·refine concat_meets ⟨_,ho,rfl⟩ ⟨_,ho2,rfl⟩ noFill_tuple_add seq_tuple_add PySem.F.slot_tuple_add PySem.F.entry_tuple_add (PySem.F.args_tuple_add_2 _ _)
   (tuple_addW2 t b vs.toArray ws.toArray n n2 dd dd2 sl sl2 (by simpa using hv) (by simpa using hw) (by rw [aW,aW];exact hsz)) ⟨ho,ho2,?_⟩
  rw [e];exact h2 hw
def jB(n d:Nat):Option Int->Nat
 | none=>d
 | some v=>if v<0 then (v+(n:Int)).toNat else min v.toNat n
def tN(n d:Nat):jB n d none=d:=rfl
def BV(n d k:Nat):jB n d (some (k:Int))=min k n:=by
 show (if (k:Int)<0 then ((k:Int)+(n:Int)).toNat else min (k:Int).toNat n)=min k n;rw [if_neg Oo,Int.toNat_natCast]
def aAS(n d:Nat)(hd:d<=n)(o:Option Int):jB n d o<=n:=by
 cases o with
 | none=>exact hd
 | some v =>
  show (if v<0 then (v+(n:Int)).toNat else min v.toNat n)<=n;by_cases hv:v<0
  ·rw [if_pos hv];exact Oo
  ·rw [if_neg hv];exact Nat.min_le_right _ _
def KZ(v:Int)(n d:Nat):(if v<0 then max (v+(n:Int)) 0 else min v (n:Int))=((jB n d (some v):Nat):Int):=by
 show (if v<0 then max (v+(n:Int)) 0 else min v (n:Int))=(((if v<0 then (v+(n:Int)).toNat else min v.toNat n):Nat):Int);by_cases hv:v<0
 ·simp only [if_pos hv];exact Oo
 ·simp only [if_neg hv];exact Oo
def IP(lo hi:Option Int)(n:Nat):Builtin.Slice.sliceAdjust lo hi 1 (n:Int)=(((jB n 0 lo:Nat):Int),((jB n n hi:Nat):Int)):=by
 have h1:¬((1:Int)<0):=Oo;unfold Builtin.Slice.sliceAdjust;simp only [h1,if_false];refine Prod.ext ?_ ?_
 ·cases lo with
  | none=>rfl
  | some v=>exact KZ v n 0
 ·cases hi with
  | none=>rfl
  | some v=>exact KZ v n n
def HU(i j:Nat):Builtin.Slice.slicePlaces (i:Int) (j:Int) 1=j-i:=by
 unfold Builtin.Slice.slicePlaces;have h1:(1:Int) > 0:=Oo;simp only [h1,if_true,Int.ediv_one];split <;> omega
def xJ{v:Value}{o:Option Int}{Q:Option Int->Shared->Prop}(p:IsPart v o)(h:Q o s):wpAny (model prog w) A (Builtin.Slice.slicePartIndex v) Q E s:=by
 cases p with
 | none=>exact slicePart_none h
 | int i t=>exact slicePart_int h
def oK{sl:Addr}{vl vu:Value}{lo hi:Option Int}{n:Nat}{Q:Int × Int × Nat->Shared->Prop}(hs:s.heap.IsSliceOf sl vl vu .none)(pl:IsPart vl lo)(pu:IsPart vu hi)
  (h:Q (((jB n 0 lo:Nat):Int),1,jB n n hi-jB n 0 lo) s):wpAny (model prog w) A (Builtin.Slice.sliceApplied (.ref sl) (pure (n:Int))) Q E s:=by
 obtain ⟨os,hos,hcs,hds⟩:=id hs;unfold Builtin.Slice.sliceApplied Builtin.Slice.sliceFields;refine wpAny_bind (wpAny_bind (wpAny_field hos hds (x:=vl) rfl (wpAny_bind (wpAny_field hos hds (x:=vu) rfl (wpAny_bind (wpAny_field hos hds (x:=.none) rfl (wpAny_pure ?_)))))));refine wpAny_bind (slicePart_none ?_);show wpAny _ _ (if ((1:Int) == 0)=true then _ else _) _ _ s;rw [if_neg Dd];refine wpAny_bind (xJ pl (wpAny_bind (xJ pu (wpAny_bind (wpAny_pure ?_)))));show wpAny _ _ (match Builtin.Slice.sliceAdjust lo hi 1 (n:Int) with | (lo,hi)=>pure (lo,(1:Int),Builtin.Slice.slicePlaces lo hi 1)) _ _ s;rw [IP lo hi n];show wpAny _ _ (pure (((jB n 0 lo:Nat):Int),(1:Int),Builtin.Slice.slicePlaces ((jB n 0 lo:Nat):Int) ((jB n n hi:Nat):Int) 1)) _ _ s;rw [HU];exact wpAny_pure h
def QY(xs:Ai)(i k:Nat):((List.range k).filterMap λ(m:Nat)=>xs[((i:Int)+(m:Int)*1).toNat]?).toArray=((xs.toList.drop i).take k).toArray:=by
 have e:(λ(m:Nat)=>xs[((i:Int)+(m:Int)*1).toNat]?)=λm=>xs[i+m]?:=by
  funext m
  have:((i:Int)+(m:Int)*1).toNat=i+m:=Oo;rw [this]
 rw [e];have:=pick_run xs i k;rw [List.filterMap_map] at this;have e2:((λx=>xs[x]?) ∘ λx=>i+x)=λm=>xs[i+m]?:=rfl;rw [e2] at this;rw [this]
def tV{t sl:Addr}{items:Ai}{vl vu:Value}{lo hi:Option Int}{Q:Value->Shared->Prop}(ht:IsTup s.heap t items)(hs:s.heap.IsSliceOf sl vl vu .none)(pl:IsPart vl lo)(pu:IsPart vu hi)
  (hw:¬(jB items.size 0 lo=0/\jB items.size items.size hi=items.size))
  (h:Q (.ref s.heap.objs.size) { s with heap:=s.heap.push { cls:=.type "tuple",data:=.seq ((items.toList.drop (jB items.size 0 lo)).take (jB items.size items.size hi-jB items.size 0 lo)).toArray } })
  (hsz:items.size<=sizeLine):wpAny (model prog w) A (getItem (.ref t) (.ref sl)) Q E s:=by
 have htake:sizeOk (.seq ((items.toList.drop (jB items.size 0 lo)).take (jB items.size items.size hi-jB items.size 0 lo)).toArray):=by
  show ((items.toList.drop (jB items.size 0 lo)).take (jB items.size items.size hi-jB items.size 0 lo)).toArray.size<=sizeLine;rw [aW,cK,List.length_drop,Array.length_toList];exact Oo
 have hj:jB items.size items.size hi<=items.size:=aAS _ _ (aI _) hi;obtain ⟨os,hos,hcs,hds⟩:=id hs;have hTs:s.TypeIs (.ref sl) "slice" := ⟨os,hos,hcs⟩;unfold getItem
 try with_reducible refine wpAny_holding ?_
 first | refine wpAny_bind (wpAny_pure ?_) | skip
 refine wpAny_bind (wpAny_sequenceKey ht.typeIs Dd ?_);refine wpAny_bind (wpAny_callSpecial?_slot (name:=Str.ofString "__getitem__") ht.typeIs PyProof.Rows.slot_tuple_getitem
  (wpAny_call_entry PyProof.Rows.slot_tuple_getitem ht.typeIs entry_tuple_getitem ?_ (args_tuple_getitem _ _)))
 show wpAny _ _ (Builtin.Tuple.tupleItemsOf (.ref t) >>= _) _ _ s;refine wpAny_bind (tupleItemsOf_ ht ?_);refine wpAny_bind (wpAny_typeOf hTs ?_);rw [if_pos Dd];refine wpAny_bind (oK hs pl pu ?_);have hno:¬((((jB items.size 0 lo:Nat):Int) == 0&&(1:Int) == 1&&(jB items.size items.size hi-jB items.size 0 lo) == items.size)=true):=by
  intro q;rw [cQ,cQ] at q;have q1:((jB items.size 0 lo:Nat):Int)=0:=eq_of_beq q.1.1;have q2:jB items.size items.size hi-jB items.size 0 lo=items.size:=eq_of_beq q.2;exact hw ⟨Oo,Oo⟩
 show wpAny _ _ (if (((jB items.size 0 lo:Nat):Int) == 0&&(1:Int) == 1&&(jB items.size items.size hi-jB items.size 0 lo) == items.size)=true then _ else _) _ _ s;rw [if_neg hno,QY]
 first
  | exact wpAny_bind (m:=Builtin.Tuple.tupleExact _) (wpAny_newObj_type (wpAny_pure ⟨_,rfl,wpAny_pure h⟩) htake)
  | exact wpAny_bind (m:=Builtin.Tuple.tupleExact _) (wpAny_newObj_type (wpAny_bind (wpAny_pure (wpAny_pure ⟨_,rfl,wpAny_pure h⟩))) htake)
  | exact wpAny_bind (wpAny_bind (m:=Builtin.Tuple.tupleExact _) (wpAny_newObj_type (wpAny_pure (wpAny_pure ⟨_,rfl,wpAny_pure h⟩)) htake))
  | exact wpAny_bind (wpAny_bind (m:=Builtin.Tuple.tupleExact _) (wpAny_newObj_type (wpAny_pure ⟨_,rfl,wpAny_pure h⟩) htake))
end
end HT
namespace L2
open PySem PySem.Spec PyProof.Rows
abbrev TO:=St->Hp->(Option Int->Hp->Prop)->Prop
def PO(X:Cx)(e:Option Expr)(t:TO):Prop :=
 ∀(pins:Ad) (s:Shared) (σ:St) (H:Hp) (Q:Option Int->Hp->Prop),cI X pins σ H s->t σ H Q ->
  wpAny (model X.prog X.w) X.A (evalPart e X.env) (λu s'=>∃o H',cI X pins σ H' s'/\IsPart u o/\Q o H') X.xe s
def JG:TO:=λ_ H Q=>Q none H
def YZ(t:TE):TO:=λσ H Q=>t σ H λx H1=>∃i,x=.int i/\Q (some i) H1
def nC{ns:Af}:∀{us:Ag},dF (ns.map V.int) us->IntsAre us ns:=by
 induction ns with
 | nil=>intro us r;rw [List.map_nil] at r;cases r;exact .nil
 | cons n ns ih =>
  intro us r;rw [bI] at r;cases r with
  | cons r1 r2 =>
   obtain ⟨t,e⟩:=r1;subst e;exact .cons n t (ih r2)
section
variable{X:Cx}{e:Expr}{te:TE}{lo hi:Option Expr}{tl th:TO}{pos p2:Pos}
def po_none:PO X none JG:=by
 intro pins s σ H Q I h;rw [evalPart_none];exact wpAny_pure ⟨none,H,I,.none,h⟩
def WJ(h:PE X e te):PO X (some e) (YZ te):=by
 intro pins s σ H Q I hw;rw [evalPart_some];refine thn (h pins s σ H _ I hw) λu s1 ⟨x,H1,I1,r1,q1⟩=>?_;obtain ⟨i,rfl,q⟩:=q1;obtain ⟨t,rfl⟩:=r1;exact ⟨some i,H1,I1,.int i t,q⟩
def SlR(X:Cx)(r:V->Option Int->Option Int->Hp->VK->Prop):Prop :=
 ∀(pins:Ad) (s:Shared) (σ:St) (H:Hp) (x:V) (v vl vu:Value) (lo hi:Option Int) (sl:Addr) (Q:VK),cI X pins σ H s->dN x v->s.heap.IsSliceOf sl vl vu .none->IsPart vl lo->IsPart vu hi->r x lo hi H Q ->
  ∃T id,typeLookup (.type T) "__getitem__" = pure (some (.builtin id))/\s.TypeIs v T/\wpAny (model X.prog X.w) X.A (getItem v (.ref sl)) (EP X pins σ Q) X.xe s
def tSl(r:V->Option Int->Option Int->Hp->VK->Prop)(te:TE)(tl th:TO):TE:=λσ H Q=>te σ H λx H1=>tl σ H1 λl H2=>th σ H2 λu H3=>r x l u H3 Q
def RA{r:V->Option Int->Option Int->Hp->VK->Prop}(hr:SlR X r)(he:PE X e te)(hl:PO X lo tl)(hu:PO X hi th):PE X (.Subscript e (.Slice lo hi none p2) pos) (tSl r te tl th):=by
 intro pins s σ H Q I h;refine Subscript_ (thn (he pins s σ H _ I h) λv s1 ⟨x,H1,I1,r1,q1⟩=>?_);refine wpAny_Slice (thn (hl pins s1 σ H1 _ I1 q1) λvl s2 ⟨l,H2,I2,pl,q2⟩=>thn (hu pins s2 σ H2 _ I2 q2) λvu s3 ⟨u,H3,I3,pu,q3⟩=>?_);rw [evalPart_none];refine wpAny_pure ?_;have I4:cI X pins σ H3 { s3 with heap:=s3.heap.push { cls:=.type "slice",data:=.fields #[vl,vu,.none] } }:=I3.kept (t':=s3.toks) λb ob q=>aC _ q;obtain ⟨T,id,hT,ht,hg⟩:=hr pins { s3 with heap:=s3.heap.push { cls:=.type "slice",data:=.fields #[vl,vu,.none] } } σ H3 x v vl vu l u s3.heap.objs.size Q I4 r1 (Heap.IsSliceOf.new ..) pl pu q3;show wpAny (model X.prog X.w) X.A (subscriptTail e (.Slice lo hi none p2) v (.ref s3.heap.objs.size)) (EP X pins σ Q) X.xe { s3 with heap:=s3.heap.push { cls:=.type "slice",data:=.fields #[vl,vu,.none] } };exact tail_any (ops:=[.ref s3.heap.objs.size,v]) ht hT hg (by with_unfolding_all rfl)
def lU(xs:Al)(lo hi:Option Int):Al:=(xs.drop (HT.jB xs.length 0 lo)).take (HT.jB xs.length xs.length hi-HT.jB xs.length 0 lo)
def wC(xs:Al)(lo hi:Option Int):(lU xs lo hi).length<=xs.length:=by
 unfold lU;rw [cK,List.length_drop];exact Oo
def aDE(K:Aa):V->Option Int->Option Int->Hp->VK->Prop:=λx lo hi H Q=>∃a xs,x=.ref a/\iJ K H a xs /\
 ¬(HT.jB xs.length 0 lo=0/\HT.jB xs.length xs.length hi=xs.length)/\∀p,H p=none->Q (.ref p) (upd H p (.tup (lU xs lo hi)))
def aAl:SlR X (aDE X.K):=by
 intro pins s σ H x v vl vu lo hi sl Q I rx hs pl pu h;obtain ⟨a,xs,rfl,hx,hw,q⟩:=h;cases rx;obtain ⟨its,r,ht,hz⟩:=I.tuple hx;have hlen:its.toArray.size=xs.length:=by rw [aW];exact r.length.symm
 refine ⟨"tuple",_,PyProof.Rows.slot_tuple_getitem.lookup,ht.typeIs,HT.tV ht hs pl pu (by rw [hlen];exact hw) ?_ (by rw [hlen];exact hz)⟩;rw [hlen];refine ⟨.ref s.heap.objs.size,_,I.laid (t':=s.toks) (o:=.tup (lU xs lo hi)) (λb ob q=>aC _ q) (aI _) ?_,rfl,q _ (I.hok.fresh (aI _))⟩;exact ⟨⟨aM (wC xs lo hi) hz,_,bB _ rfl,rfl⟩,_,(r.drop (HT.jB xs.length 0 lo)).take (HT.jB xs.length xs.length hi-HT.jB xs.length 0 lo),IsTup.new _ _⟩
def aCD(K:Aa):R2:=λx y H Q=>∃a b xs ys,x=.ref a/\y=.ref b/\iJ K H a xs/\iJ K H b ys/\xs≠[]/\xs.length+ys.length<=sizeLine /\
 (ys=[]->Q (.ref a) H)/\(ys≠[]->∀p,H p=none->Q (.ref p) (upd H p (.tup (xs++ys))))
def dF.nil_iff{xs:Al}{us:Ag}(r:dF xs us):us=[]↔xs=[]:=by
 cases r with
 | nil=>simp
 | cons _ _=>simp
def WX:uG X (binaryOp .Add) (aCD X.K):=by
 intro pins s σ H x y v u Q I rx ry h;obtain ⟨a,b,xs,ys,rfl,rfl,ha,hb,hx,hz,q1,q2⟩:=h;cases rx;cases ry;obtain ⟨its,r1,p1,_⟩:=I.tuple ha;obtain ⟨its2,r2,p2,_⟩:=I.tuple hb;refine HT.XX p1 p2 (λz=>hx (r1.nil_iff.mp z)) (λz=>⟨.ref a,H,I,rfl,q1 (r2.nil_iff.mp z)⟩) (λz=>?_) (by rw [<-r1.length,<-r2.length];exact hz);refine ⟨.ref s.heap.objs.size,_,I.laid (t':=s.toks) (o:=.tup (xs++ys)) (λb ob q=>aC _ q) (aI _) ?_,rfl,q2 (λw=>z (r2.nil_iff.mpr w)) _ (I.hok.fresh (aI _))⟩;exact ⟨⟨by rw [bE];exact hz,_,bB _ rfl,rfl⟩,_,r1.append r2,IsTup.new _ _⟩
end
def OA(n:Nat)(i:Int):Option Nat:=if 0<=i then (if i<n then some i.toNat else none) else if -(n:Int)<=i then some (i+n).toNat else none
def yT{α:Type}(xs:List α)(i:Int):Option α:=(OA xs.length i).bind λj=>xs[j]?
def KF{n:Nat}{i:Int}{j:Nat}(h:OA n i=some j):seqIndex? i n=some j/\j<n/\-(n:Int)<=i/\i<n:=by
 unfold OA at h;by_cases h0:0<=i
 ·rw [if_pos h0] at h;by_cases h1:i<n
  ·rw [if_pos h1] at h;have e:i.toNat=j:=fW h;exact ⟨by rw [seqIndex_of h0 h1,e],Oo,Oo,h1⟩
  ·rw [if_neg h1] at h;cases h
 ·rw [if_neg h0] at h;by_cases h1:-(n:Int)<=i
  ·rw [if_pos h1] at h;have e:(i+n).toNat=j:=fW h;exact ⟨by rw [seqIndex_neg Oo h1,e],Oo,h1,Oo⟩
  ·rw [if_neg h1] at h;cases h
def DF{α:Type}{xs:List α}{i:Int}{v:α}(h:yT xs i=some v):∃j,seqIndex? i xs.length=some j/\xs[j]?=some v/\j<xs.length/\-(xs.length:Int)<=i/\i<xs.length:=by
 unfold yT at h;cases e:OA xs.length i with
 | none=>rw [e] at h;cases h
 | some j =>
  rw [e] at h;obtain ⟨h1,h2,h3,h4⟩:=KF e;exact ⟨j,h1,h,h2,h3,h4⟩
def cV{α:Type}{xs:List α}{j:Nat}{v:α}(h:xs[j]?=some v):yT xs (j:Int)=some v:=by
 have hj:j<xs.length:=(aF.mp h).1;have e:OA xs.length (j:Int)=some j:=by
  unfold OA;rw [if_pos Oo,if_pos Oo];simp
 unfold yT;rw [e];exact h
def TL{α:Type}(xs:List α)(v:α):yT (xs++[v]) (-1)=some v:=by
 have hl:(xs++[v]).length=xs.length+1:=by simp
 have e:OA (xs++[v]).length (-1)=some xs.length:=by
  unfold OA;rw [hl,if_neg Dd,if_pos Oo];congr 1;exact Oo
 unfold yT;rw [e];show (xs++[v])[xs.length]?=some v;simp
def LL(b:Expr):Prop:=∀o i,subscripted b false o i=operate [o,i] (getItem o i)
def TY(X:Cx)(r:R2):Prop :=
 ∀(value slice:Expr) (pins:Ad) (s:Shared) (σ:St) (H:Hp) (x y:V) (v u:Value) (Q:VK),cI X pins σ H s->dN x v->dN y u->r x y H Q ->
  subscripted slice false v u=operate [v,u] (getItem v u)->wpAny (model X.prog X.w) X.A (subscriptTail value slice v u) (EP X pins σ Q) X.xe s
def MtR(X:Cx)(id:String)(r:V->Al->Hp->VK->Prop):Prop :=
 ∀(pins:Ad) (s:Shared) (σ:St) (H:Hp) (x:V) (xs:Al) (v:Value) (us:Ag) (Q:VK),cI X pins σ H s->dN x v->dF xs us->r x xs H Q ->
  wpAny (model X.prog X.w) X.A (call (.builtin id) (v::us)) (EP X pins σ Q) X.xe s
section
variable{X:Cx}{a b:Expr}{ta tb:TE}{pos:Pos}
def TY.or{r r':R2}(h:TY X r)(h':TY X r'):TY X (λx y H Q=>r x y H Q\/r' x y H Q):=by
 intro value slice pins s σ H x y v u Q I rx ry q hs;rcases q with q | q
 ·exact h value slice pins s σ H x y v u Q I rx ry q hs
 ·exact h' value slice pins s σ H x y v u Q I rx ry q hs
def aCK{r:R2}(hr:TY X r)(ha:PE X a ta)(hb:PE X b tb)(hs:LL b):PE X (.Subscript a b pos) (US r ta tb):=by
 intro pins s σ H Q I h;exact Subscript_ (aBP ha hb I h λv u s2 x y H2 I2 rx ry q=>hr a b pins s2 σ H2 x y v u Q I2 rx ry q (hs _ _))
def aCB(K:Aa):R2:=λx y H Q=>∃p xs i v,x=.ref p/\y=.int i/\fI K H p xs/\yT xs i=some v/\Q v H
def aCz(K:Aa):R2:=λx y H Q=>∃p xs i v,x=.ref p/\y=.int i/\iJ K H p xs/\yT xs i=some v/\Q v H
def aCA:R2:=λx y H Q=>∃z i c,x=.str z/\y=.int i/\z.length<=sizeLine/\yT z.cps.toList i=some c/\Q (.str ⟨#[c]⟩) H
def XI:TY X (aCB X.K):=by
 intro value slice pins s σ H x y v u Q I rx ry h hs;obtain ⟨p,xs,i,z,rfl,rfl,hq,he,q⟩:=h;cases rx;obtain ⟨t,rfl⟩:=ry;obtain ⟨its,r,pl,hz⟩:=I.list hq;obtain ⟨j,h1,h2,h3,h4,h5⟩:=DF he;obtain ⟨w,ew,rw'⟩:=r.get h2;have hl:=r.length;have hn:=xU;have fin:EP X pins σ Q w s:=⟨z,H,I,rw',q⟩;by_cases h0:0<=i
 ·have hj:i.toNat=j:=by
   rw [seqIndex_of h0 h5] at h1;exact fW h1
  exact item_listR pl.isList h0 Oo (by rw [hj];simpa using ew) fin hs
 ·have hj:(i+(its.toArray.size:Int)).toNat=j:=by
   rw [seqIndex_neg Oo h4] at h1;rw [aW,<-hl];exact fW h1
  exact subscriptTail_builtinR (x:=w) pl.isList.typeIs slot_list_getitem.lookup
   (wpAny_getItem_list_neg (Q:=λr s'=>r=w/\EP X pins σ Q r s') pl.isList Oo (by rw [aW] <;> omega) Oo (by rw [hj];simpa using ew) ⟨rfl,fin⟩) hs
def aBv:TY X (aCz X.K):=by
 intro value slice pins s σ H x y v u Q I rx ry h hs;obtain ⟨p,xs,i,z,rfl,rfl,hq,he,q⟩:=h;cases rx;obtain ⟨t,rfl⟩:=ry;obtain ⟨its,r,pl,hz⟩:=I.tuple hq;obtain ⟨j,h1,h2,h3,h4,h5⟩:=DF he;obtain ⟨w,ew,rw'⟩:=r.get h2;have hl:=r.length;have hn:=xU;have fin:EP X pins σ Q w s:=⟨z,H,I,rw',q⟩;exact subscriptTail_builtinR (x:=w) pl.typeIs slot_tuple_getitem.lookup
  (getItem_tuple (j:=j) (Q:=λr s'=>r=w/\EP X pins σ Q r s') pl Oo Oo (by rw [aW,<-hl];exact h1) (by simpa using ew) ⟨rfl,fin⟩) hs
def aBw:TY X aCA:=by
 intro value slice pins s σ H x y v u Q I rx ry h hs;obtain ⟨z,i,c,rfl,rfl,hz,he,q⟩:=h;obtain ⟨t,rfl⟩:=rx;obtain ⟨t',rfl⟩:=ry;obtain ⟨j,h1,h2,h3,h4,h5⟩:=DF he;have hl:z.cps.toList.length=z.length:=by simp [Str.length]
 rw [hl] at h1 h4 h5;have hn:=xU;exact tail_any (typeIs_str s z t) slot_str_getitem.lookup (getItem_str (c:=c) (by
  have e1:decide (i < -(2^63:Int))=false:=cJ Oo;have e2:decide (i ≥ 2^63)=false:=cJ Oo;rw [e1,e2,Bool.or_false]) (by rw [h1];simpa using h2) ⟨.str ⟨#[c]⟩,H,I.tok _,⟨_,rfl⟩,q⟩) hs
def rIx(K:Aa):R2:=λx y H Q=>aCB K x y H Q\/aCz K x y H Q\/aCA x y H Q
def bK:TY X (rIx X.K):=XI.or (aBv.or aBw)
def ID(its:Ag)(n j:Nat)(u:Value):Obj.mapSeq (·.setIfInBounds j u) { cls:=.type "list",data:=.seq its.toArray n }={ cls:=.type "list",data:=.seq (its.set j u).toArray n }:=by
 simp [Obj.mapSeq]
theorem cI.lst{pins:Ad}{σ:St}{H:Hp}{s:Shared}{p:Addr}{xs:Al}(I:cI X pins σ H s)(h:H p=some (.lst xs)) :
  ∃(its:Ag) (n:Nat),dF xs its/\s.heap.get? p=some { cls:=.type "list",data:=.seq its.toArray n }/\xs.length<=sizeLine:=by
 obtain ⟨z,its,n,r,e⟩:=I.hok p _ h;exact ⟨its,n,r,e,z⟩
def cI.lstUpd{pins:Ad}{σ:St}{H:Hp}{s:Shared}{p:Addr}{xs ys:Al}{its its':Ag}{n n':Nat}{f:Obj->Obj}(I:cI X pins σ H s)(h:H p=some (.lst xs))
  (ho:s.heap.get? p=some { cls:=.type "list",data:=.seq its.toArray n }) (hf:f { cls:=.type "list",data:=.seq its.toArray n }={ cls:=.type "list",data:=.seq its'.toArray n' }) (r:dF ys its') (hz:ys.length<=sizeLine) (t:Nat) :
  cI X pins σ (upd H p (.lst ys)) { s with heap:=s.heap.update p f,toks:=t }:=by
 have e:(s.heap.update p f).get? p=some { cls:=.type "list",data:=.seq its'.toArray n' }:=by
  rw [Heap.get?_update_self f ho (by rw [hf] <;> rfl),hf]
 refine I.write (x:=p) (e:=p) (by rw [h];trivial) (.inl rfl) (λb u hb q=>(Heap.get?_update_other _ _ (Ne.symm hb)).trans q) ⟨_,e⟩ ?_;exact ⟨hz,its',n',r,e⟩
def QP:V->V->V->Hp->(Hp->Prop)->Prop:=λo i v H Q=>∃p xs k j,o=.ref p/\i=.int k/\H p=some (.lst xs)/\OA xs.length k=some j/\Q (upd H p (.lst (xs.set j v)))
def PZ:aBW X QP:=by
 intro pins s σ H o i v ov iv u Q I ro ri rv h;obtain ⟨p,xs,k,j,rfl,rfl,hp,hj,q⟩:=h;cases ro;obtain ⟨t,rfl⟩:=ri;obtain ⟨its,n,r,ho,hz⟩:=I.lst hp;obtain ⟨h1,h2,h3,h4⟩:=KF hj;have hl:=r.length;have hn:=xU;have I':cI X pins σ (upd H p (.lst (xs.set j v))) { s with heap:=s.heap.update p (Obj.mapSeq (·.setIfInBounds j u)) } :=
  I.lstUpd hp ho (ID its n j u) (r.set rv j) (by rw [List.length_set];exact hz) s.toks
 by_cases h0:0<=k
 ·have hk:k.toNat=j:=by
   rw [seqIndex_of h0 h4] at h1;exact fW h1
  exact PySem.W.ki_setAt ho h0 Oo (by rw [aW,<-hl];exact h4) (by rw [hk];exact ⟨_,I',q⟩)
 ·have hk:(k+(its.toArray.size:Int)).toNat=j:=by
   rw [seqIndex_neg Oo h3] at h1;rw [aW,<-hl];exact fW h1
  exact PySem.W.ki_setBack ho Oo (by rw [aW,<-hl];exact h3) Oo (by rw [hk];exact ⟨_,I',q⟩)
def BS(lo hi:Option Int)(n:Nat):(sliceBounds lo hi none n).1=((HT.jB n 0 lo:Nat):Int)/\(sliceBounds lo hi none n).2.1=((HT.jB n n hi:Nat):Int)/\(sliceBounds lo hi none n).2.2=1:=by
 refine ⟨?_,?_,rfl⟩
 ·cases lo with
  | none=>simp [sliceBounds,HT.jB]
  | some i =>
   simp only [sliceBounds,HT.jB,Option.getD_none,show (1:Int) > 0 by decide,if_true];by_cases h:i<0
   ·simp only [h,if_true] <;> omega
   ·simp only [h,if_false] <;> omega
 ·cases hi with
  | none=>simp [sliceBounds,HT.jB]
  | some i =>
   simp only [sliceBounds,HT.jB,Option.getD_none,show (1:Int) > 0 by decide,if_true];by_cases h:i<0
   ·simp only [h,if_true] <;> omega
   ·simp only [h,if_false] <;> omega
def yY(its:Ag)(lo hi:Option Int):slicePick its.toArray lo hi none=((its.drop (HT.jB its.length 0 lo)).take (HT.jB its.length its.length hi-HT.jB its.length 0 lo)).toArray:=by
 obtain ⟨h1,h2,h3⟩:=BS lo hi its.toArray.size;unfold slicePick;rw [h1,h2,h3];simp only [sliceRange_one,pick_run,aW] <;> rfl
def aCy(K:Aa):V->Option Int->Option Int->Hp->VK->Prop:=λx lo hi H Q=>∃a xs,x=.ref a/\fI K H a xs/\∀p,H p=none->Q (.ref p) (upd H p (.lst (lU xs lo hi)))
def JK:SlR X (aCy X.K):=by
 intro pins s σ H x v vl vu lo hi sl Q I rx hs pl pu h;obtain ⟨a,xs,rfl,hx,q⟩:=h;cases rx;obtain ⟨its,r,ht,hz⟩:=I.list hx;have hlen:=r.length;refine ⟨"list",_,slot_list_getitem.lookup,ht.isList.typeIs,wpAny_getItem_list_slice ht.isList hs pl pu .none (by simp) ?_ (by rw [aW] <;> omega)⟩;rw [yY,<-hlen];refine ⟨.ref s.heap.objs.size,_,I.laid (t':=s.toks) (o:=.lst (lU xs lo hi)) (λb ob q=>aC _ q) (aI _) ?_,rfl,q _ (I.hok.fresh (aI _))⟩;exact ⟨aM (wC xs lo hi) hz,_,0,(r.drop (HT.jB xs.length 0 lo)).take (HT.jB xs.length xs.length hi-HT.jB xs.length 0 lo),bB _ rfl⟩
def qN:V->Bool
 | .non=>true
 | .bl _=>true
 | .int _=>true
 | .str _=>true
 | _=>false
def SC:V->V->Bool
 | .non,.non=>true
 | .bl a,.bl b=>a == b
 | .bl a,.int b=>(if a then 1 else 0) == b
 | .int a,.bl b=>a == (if b then 1 else 0)
 | .int a,.int b=>a == b
 | .str a,.str b=>a == b
 | _,_=>false
def aBF{A:Around}{s:Shared}{y x:V}{u v:Value}(ry:dN y u)(rx:dN x v)(fy:qN y=true)(fx:qN x=true):SeqAt.EqAt A s u v (SC y x):=by
 cases y with
 | non =>
  cases ry;cases x with
  | non=>cases rx;exact SeqAt.EqAt.same _
  | bl b=>cases rx;exact SeqAt.EqAt.none_bool b
  | int b=>obtain ⟨t,rfl⟩:=rx;exact SeqAt.EqAt.none_int b t
  | str b=>obtain ⟨t,rfl⟩:=rx;exact SeqAt.EqAt.none_str b t
  | _=>exact absurd (show false=true from fx) bR
 | bl a =>
  cases ry;cases x with
  | non=>cases rx;exact SeqAt.EqAt.bool_none a
  | bl b=>cases rx;exact SeqAt.EqAt.bool_bool a b
  | int b=>obtain ⟨t,rfl⟩:=rx;exact SeqAt.EqAt.bool_int a b t
  | str b=>obtain ⟨t,rfl⟩:=rx;exact SeqAt.EqAt.bool_str a b t
  | _=>exact absurd (show false=true from fx) bR
 | int a =>
  obtain ⟨t',rfl⟩:=ry;cases x with
  | non=>cases rx;exact SeqAt.EqAt.int_none a t'
  | bl b=>cases rx;exact SeqAt.EqAt.int_bool a t' b
  | int b=>obtain ⟨t,rfl⟩:=rx;exact SeqAt.EqAt.int_int a t' b t
  | str b=>obtain ⟨t,rfl⟩:=rx;exact SeqAt.EqAt.int_str a t' b t
  | _=>exact absurd (show false=true from fx) bR
 | str a =>
  obtain ⟨t',rfl⟩:=ry;cases x with
  | non=>cases rx;exact SeqAt.EqAt.str_none a t'
  | bl b=>cases rx;exact SeqAt.EqAt.str_bool a t' b
  | int b=>obtain ⟨t,rfl⟩:=rx;exact SeqAt.EqAt.str_int a t' b t
  | str b=>obtain ⟨t,rfl⟩:=rx;exact SeqAt.EqAt.str_str a t' b t
  | _=>exact absurd (show false=true from fx) bR
 | _=>exact absurd (show false=true from fy) bR
def OB(x:V)(u:Value):Bool:=match u with
 | .none=>SC .non x
 | .bool b=>SC (.bl b) x
 | .int i _=>SC (.int i) x
 | .str z _=>SC (.str z) x
 | _=>false
def SD{x y:V}{u:Value}(r:dN y u)(f:qN y=true):OB x u=SC y x:=by
 cases y with
 | non=>cases r;rfl
 | bl b=>cases r;rfl
 | int i=>obtain ⟨t,rfl⟩:=r;rfl
 | str z=>obtain ⟨t,rfl⟩:=r;rfl
 | _=>exact absurd (show false=true from f) bR
theorem DJ{x:V}:∀{xs:Al}{us:Ag},dF xs us->xs.all qN=true->us.any (OB x)=xs.any λy=>SC y x
 | _,_,.nil,_=>rfl
 | y::xs,u::us,.cons r t,f=>by
  rw [List.all_cons,cQ] at f;rw [List.any_cons,List.any_cons,SD r f.1,DJ t f.2]
theorem tR{A:Around}{s:Shared}{x:V}{v:Value}(rx:dN x v)(fx:qN x=true):∀{xs:Al}{us:Ag},dF xs us->xs.all qN=true->∀u∈us,SeqAt.EqAt A s u v (OB x u)
 | _,_,.nil,_=>λu hu=>by cases hu
 | y::xs,u::us,.cons r t,f=>λu' hu=>by
  rw [List.all_cons,cQ] at f;rcases aZ.mp hu with rfl | hu
  ·rw [SD r f.1];exact aBF r rx f.1 fx
  ·exact tR rx fx t f.2 u' hu
def inV(x:V)(xs:Al):Bool:=xs.any λy=>SC y x
def rIn(K:Aa)(neg:Bool):R2:=λx y H Q=>∃p xs,y=.ref p/\(fI K H p xs\/iJ K H p xs)/\qN x=true/\xs.all qN=true/\Q (.bl (if neg then !inV x xs else inV x xs)) H
def CF:uG X (compareOp .NotIn) (rIn X.K true):=by
 intro pins s σ H x y v u Q I rx ry h;obtain ⟨p,xs,rfl,hq,fx,fs,q⟩:=h;cases ry;rcases hq with hq | hq
 ·obtain ⟨its,r,pl,hz⟩:=I.list hq;refine SeqAt.notIn_listAt (OB x) pl.isList (λw hw=>tR rx fx r fs w (by simpa using hw)) ⟨.bl _,H,I,rfl,?_⟩;rw [show its.toArray.any (OB x)=its.any (OB x) by simp,DJ r fs];exact q
 ·obtain ⟨its,r,pl,hz⟩:=I.tuple hq;refine SeqAt.notIn_tupleAt (OB x) pl (λw hw=>tR rx fx r fs w (by simpa using hw)) ⟨.bl _,H,I,rfl,?_⟩;rw [show its.toArray.any (OB x)=its.any (OB x) by simp,DJ r fs];exact q
def uA:iA X (.type "list") (λxs H Q=>∃p ys,xs=[.ref p]/\(fI X.K H p ys\/iJ X.K H p ys)/\∀l,H l=none->Q (.ref l) (upd H l (.lst ys))):=by
 intro pins s σ H xs us Q I r h;obtain ⟨p,ys,rfl,hq,q⟩:=h;obtain ⟨u,rfl,rx⟩:=kD r;cases rx;have fin:∀(its:Ag),dF ys its->ys.length<=sizeLine->∀(h':Heap) (c':Nat),(∀b o',s.heap.get? b=some o'->h'.get? b=some o') ->
   h'.get? s.heap.objs.size=some { cls:=.type "list",dict:=none,data:=.seq its.toArray c',slots:=#[] }->EP X pins σ Q (.ref s.heap.objs.size) { s with heap:=h' }:=λits r' hz h' c' kp e =>
  ⟨.ref s.heap.objs.size,_,I.laid (t':=s.toks) kp (aI _) (show fH X.prog X.w _ h' _ (.lst ys) from ⟨hz,its,c',r',e⟩),rfl,q _ (I.hok.fresh (aI _))⟩
 rcases hq with hq | hq
 ·obtain ⟨its,r',pl,hz⟩:=I.list hq;have hlen:=r'.length;obtain ⟨o,ho,hc,n,hd⟩:=pl.isList;exact call_list_seq p (.inl rfl) ho hc hd (λh' c' kp e=>fin its r' hz h' c' kp e) (by simp only [aW] <;> omega)
 ·obtain ⟨its,r',pl,hz⟩:=I.tuple hq;have hlen:=r'.length;obtain ⟨o,ho,hc,n,hd⟩:=pl;exact call_list_seq p (.inr rfl) ho hc hd (λh' c' kp e=>fin its r' hz h' c' kp e) (by simp only [aW] <;> omega)
def fL:iA X (.type "tuple") (λxs H Q=>∃p ys,xs=[.ref p]/\((fI X.K H p ys/\∀l,H l=none->Q (.ref l) (upd H l (.tup ys)))\/(iJ X.K H p ys/\Q (.ref p) H))):=by
 intro pins s σ H xs us Q I r h;obtain ⟨p,ys,rfl,h⟩:=h;obtain ⟨u,rfl,rx⟩:=kD r;cases rx;rcases h with ⟨hq,q⟩ | ⟨hq,q⟩
 ·obtain ⟨its,r',pl,hz⟩:=I.list hq;have hlen:=r'.length;refine call_tuple_list pl.isList (λh' kp=>?_) (by simp only [aW] <;> omega);have I1:cI X pins σ H { s with heap:=h' }:=I.kept (t':=s.toks) kp;have I2:cI X pins σ (upd H h'.objs.size (.tup ys)) { s with heap:=h'.push { cls:=.type "tuple",data:=.seq its.toArray } } :=
   I1.laid (t':=s.toks) (λb o e=>aC _ e) (aI _) (show fH X.prog X.w _ _ _ (.tup ys) from ⟨⟨hz,_,bB _ rfl,rfl⟩,its,r',IsTup.new _ _⟩)
  exact ⟨.ref h'.objs.size,_,I2,rfl,q _ (I1.hok.fresh (aI _))⟩
 ·obtain ⟨its,r',pl,hz⟩:=I.tuple hq;exact call_tuple_same pl ⟨.ref p,H,I,rfl,q⟩
def tyV(K:Aa)(T:String)(x:V)(H:Hp):Prop:=match x with
 | .str _=>T = "str"
 | .int _=>T = "int"
 | .ref p=>(T = "list" /\ ∃xs,fI K H p xs)\/(T = "tuple" /\ ((∃o,K.lookup p=some o/\o.cls=.type "tuple" /\ o.dict=none)\/∃xs,H p=some (.tup xs))) \/
   (T = "dict" /\ ((∃kvs,H p=some (.dK kvs))\/∃kvs,H p=some (.dT kvs)))\/(T = "set" /\ ∃S n,H p=some (.set S n))
 | _=>False
def aAf{pins:Ad}{σ:St}{H:Hp}{s:Shared}{T:String}{x:V}{v:Value}(I:cI X pins σ H s)(r:dN x v)(ty:tyV X.K T x H) :
  s.TypeIs v T/\∀a,v=.ref a->∃ob,s.heap.get? a=some ob/\ob.dict=none:=by
 cases x with
 | str z =>
  obtain ⟨t,rfl⟩:=r;cases (show T = "str" from ty);exact ⟨typeIs_str s z t,λ_ e=>nomatch e⟩
 | int i =>
  obtain ⟨t,rfl⟩:=r;cases (show T = "int" from ty);exact ⟨typeIs_int s i t,λ_ e=>nomatch e⟩
 | ref p =>
  cases r;rcases ty with ⟨rfl,xs,hq⟩ | ⟨rfl,⟨o,hk,hc,hd⟩ | ⟨xs,hq⟩⟩ | ⟨rfl,hk⟩ | ⟨rfl,S,n,hk⟩
  ·obtain ⟨its,_,pl,_⟩:=I.list hq;refine ⟨pl.isList.typeIs,λa e=>?_⟩;cases e;obtain ⟨o,n,e,c,hd,_⟩:=pl;exact ⟨o,e,hd⟩
  ·refine ⟨⟨o,I.kIn p o hk,hc⟩,λa e=>?_⟩;cases e;exact ⟨o,I.kIn _ o hk,hd⟩
  ·obtain ⟨⟨_,on,en,dn⟩,_,_,o,e1,e2,_⟩:=(show fH X.prog X.w H s.heap p (.tup xs) from I.hok p _ hq);refine ⟨⟨o,e1,e2⟩,λa e=>?_⟩;cases e;exact ⟨on,en,dn⟩
  ·have z:∃o,s.heap.get? p=some o/\o.ExactDict:=by
    rcases hk with ⟨kvs,hk⟩ | ⟨kvs,hk⟩
    ·obtain ⟨_,_,_,_,o,_,_,e,ex,_⟩:=I.hok p _ hk;exact ⟨o,e,ex⟩
    ·obtain ⟨_,_,_,_,o,_,_,e,ex,_⟩:=I.hok p _ hk;exact ⟨o,e,ex⟩
   obtain ⟨o,e,ex⟩:=z;refine ⟨⟨o,e,ex.1⟩,λa e2=>?_⟩;cases e2;exact ⟨o,e,ex.2.1⟩
  ·obtain ⟨o,_,_,_,e,ex,_⟩:=I.hok p _ hk;refine ⟨⟨o,e,ex.1⟩,λa e2=>?_⟩;cases e2;exact ⟨o,e,ex.2.1⟩
 | _=>exact False.elim ty
def tBM(K:Aa)(T:String)(r:V->Al->Hp->VK->Prop)(to:TE)(t:TA):TE:=λσ H Q=>to σ H λx H1=>tyV K T x H1/\t σ H1 λxs H2=>r x xs H2 Q
variable{o e:Expr}{es:List Expr}{to:TE}{t:TA}{name:Str}{apos cpos:Pos}{T id:String}{r:V->Al->Hp->VK->Prop}
def aCM(pa:PlainAttrs T)(slot:Slot T name id)(hty:typeOf (.builtin id)=pure (.type "method_descriptor"))(hm:MtR X id r)(ho:PE X o to)(ha:PA X (e::es) t)
  (hbase:attributeBase o name X.env (eval o X.env)=eval o X.env:=by rfl)
  (hfew:((backTo cpos (starEach (e::es) X.env)).all (λx=>!x.1)&&(backToKw cpos (keywordEach [] X.env)).all (λx=>x.1.isSome)
   && decide ((e::es).length+([]:List Keyword).length+(if ([]:List Keyword).isEmpty then 0 else 1)<30))=true:=by rfl)
  (hline:(apos.endLine == cpos.line)=true:=by rfl) (hs:starEach (e::es) X.env=(false,eval e X.env)::starEach es X.env:=by rfl) (hplain:(backTo cpos (starEach es X.env)).any (·.1)=false:=by rfl) :
  PE X (.Call (.Attribute o name apos) (e::es) [] cpos) (tBM X.K T r to t):=by
 intro pins s σ H Q I h;refine wpAny_Call_method_late hbase hfew hline rfl (thn (ho pins s σ H _ I h) λv s1 ⟨x,H1,I1,r1,ty,q1⟩=>?_);obtain ⟨h1,h2⟩:=aAf I1 r1 ty;refine ⟨T,id,pa,slot,hty,h1,h2,?_⟩;have hA:=ha cpos pins s1 σ H1 _ I1 q1;rw [hs] at hA ⊢;refine Calls.callWith_builtin (by show (false || (backTo cpos (starEach es X.env)).any (·.1))=false;rw [hplain] <;> rfl) (Calls.evalArgs_plain ?_);exact thn hA λus s2 ⟨vs,H2,I2,r2,q2⟩=>hm pins s2 σ H2 x vs v us Q I2 r1 r2 q2
/- xs.append(e),list.index on a module's tuple .. are MtR facts of 06m -/
end
def MtM(X:Cx)(id:String)(r:V->Al->Hp->VK->Prop):Prop :=
 ∀(pins:Ad) (s:Shared) (σ:St) (H:Hp) (x:V) (xs:Al) (v:Value) (us:Ag) (Q:VK),cI X pins σ H s->dN x v->dF xs us->r x xs H Q ->
  wpAny (model X.prog X.w) X.A (call (.builtin id) (v::us)) (EP X pins σ Q) X.xe s
def dF.one:∀{x:V}{us:Ag},dF [x] us->∃u,us=[u]/\dN x u
 | _,_,.cons r .nil=>⟨_,rfl,r⟩
theorem AG(its:Ag):∀(k:Nat) (acc:Ag),
  List.foldl (λx1 x2=>x1++x2) acc.toArray (List.replicate k its.toArray)=(acc++(List.replicate k its).flatten).toArray
 | 0,acc=>by simp
 | k+1,acc=>by
  have e:acc.toArray++its.toArray=(acc++its).toArray:=by simp
  have e2:(acc++its)++(List.replicate k its).flatten=acc++(List.replicate (k+1) its).flatten:=by
   rw [List.replicate_succ,List.flatten_cons,List.append_assoc]
  rw [<-e2,<-AG its k (acc++its),<-e,List.replicate_succ,List.foldl_cons]
section
variable{X:Cx}{pins:Ad}{σ:St}{H:Hp}{s:Shared}{l b:Addr}{xs ys zs:Al}
def cI.lset{its its':Ag}{n:Nat}{f:Ai->Ai}{t':Nat}(I:cI X pins σ H s)(hH:H l=some (.lst xs))
  (e:s.heap.get? l=some { cls:=.type "list",data:=.seq its.toArray n }) (hf:f its.toArray=its'.toArray) (hv:dF ys its') (hz:ys.length<=sizeLine) :
  cI X pins σ (upd H l (.lst ys)) { s with heap:=s.heap.update l (Obj.mapSeq f),toks:=t' }:=by
 have q:=PySem.IsL.update e f;rw [hf] at q;refine I.write (x:=l) (e:=l) (by rw [hH];exact trivial) (.inl rfl) (λb' u hb hu=>(Heap.get?_update_other s.heap (Obj.mapSeq f) (Ne.symm hb)).trans hu) ⟨_,q⟩ ?_;exact ⟨hz,its',_,hv,q⟩
def cI.lnew{its:Ag}{t':Nat}(I:cI X pins σ H s)(hv:dF ys its)(hz:ys.length<=sizeLine) :
  cI X pins σ (upd H s.heap.objs.size (.lst ys)) { s with heap:=s.heap.push { cls:=.type "list",data:=.seq its.toArray },toks:=t' } :=
 I.laid (λ_ _ q=>aC _ q) (aI _) ⟨hz,its,0,hv,bB _ rfl⟩
theorem cI.fresh(I:cI X pins σ H s):H s.heap.objs.size=none:=I.hok.fresh (aI _)
def cI.lstM(I:cI X pins σ H s)(hH:H l=some (.lst xs)):xs.length<=sizeLine/\∃(its:Ag) (n:Nat),dF xs its/\xs.length=its.length/\s.heap.get? l=some { cls:=.type "list",data:=.seq its.toArray n }:=by
 obtain ⟨z,its,n,r,e⟩:=I.hok l _ hH;exact ⟨z,its,n,r,r.length,e⟩
def RI{n:Nat}(h:n<=sizeLine):Builtin.List.listTooLong n=false:=by
 unfold Builtin.List.listTooLong;exact cJ Oo
end
section
variable{X:Cx}
def JZ:V->Al->Hp->VK->Prop:=λx vs H Q=>∃l xs y,x=.ref l/\vs=[y]/\H l=some (.lst xs)/\xs.length<sizeLine/\Q .non (upd H l (.lst (xs++[y])))
def rF:MtM X "list.append" JZ:=by
 intro pins s σ H x vs v us Q I rx rv h;obtain ⟨l,xs,y,rfl,rfl,hH,hz,q⟩:=h;cases rx;obtain ⟨u,rfl,ru⟩:=rv.one;obtain ⟨z,its,n,r,hl,e⟩:=I.lstM hH;refine call_meets F.slot_list_append ⟨_,e,rfl⟩ F.entry_list_append (F.args_list_append_2 _ _) (PySem.list_append l its.toArray n u (by rw [aW];exact Oo)) ⟨e,⟨.non,_,I.lset (its':=its++[u]) hH e (by simp) (r.append (.cons ru .nil)) ?_,rfl,q⟩⟩;rw [bE,List.length_singleton];exact Oo
def JX:V->Al->Hp->VK->Prop:=λx vs H Q=>∃l b xs zs,x=.ref l/\vs=[.ref b]/\H l=some (.lst xs)/\H b=some (.lst zs)/\xs.length+zs.length<=sizeLine/\Q .non (upd H l (.lst (xs++zs)))
def MW:MtM X "list.extend" JX:=by
 intro pins s σ H x vs v us Q I rx rv h;obtain ⟨l,b,xs,zs,rfl,rfl,hH,hB,hz,q⟩:=h;cases rx;obtain ⟨u,rfl,ru⟩:=rv.one;cases ru;obtain ⟨z,its,n,r,hl,e⟩:=I.lstM hH;obtain ⟨z2,its2,n2,r2,hl2,e2⟩:=I.lstM hB;have hsz:its.toArray.size+its2.toArray.size<=sizeLine:=by rw [aW,aW];exact Oo
 have hlong:¬(!its.toArray.isEmpty&&Builtin.List.listTooLong (its.toArray.size+its2.toArray.size))=true:=by
  rw [RI hsz,Bool.and_false];exact bR
 refine call_meets F.slot_list_extend ⟨_,e,rfl⟩ F.entry_list_extend (F.args_list_extend_2 _ _)
  (AutoSeq1.list_extend_list_list_0 l its.toArray n b its2.toArray n2 hlong (by rw [aW];exact Oo) Oo) ⟨e,e2,?_⟩
 refine ⟨.non,_,I.lset (its':=its++its2) hH e (by simp) (r.append r2) ?_,rfl,q⟩;rw [bE];exact Oo
def aCE:R2:=λx y H Q=>∃l b xs zs,x=.ref l/\y=.ref b/\H l=some (.lst xs)/\H b=some (.lst zs)/\xs.length+zs.length<=sizeLine/\∀p,H p=none->Q (.ref p) (upd H p (.lst (xs++zs)))
def xS:uG X (binaryOp .Add) aCE:=by
 intro pins s σ H x y v u Q I rx ry h;obtain ⟨l,b,xs,zs,rfl,rfl,hH,hB,hz,q⟩:=h;cases rx;cases ry;obtain ⟨z,its,n,r,hl,e⟩:=I.lstM hH;obtain ⟨z2,its2,n2,r2,hl2,e2⟩:=I.lstM hB;refine PySem.P.add_list e e2 ?_ (by rw [aW,aW];exact Oo);have ea:its.toArray++its2.toArray=(its++its2).toArray:=by simp
 rw [ea];exact ⟨.ref _,_,I.lnew (t':=s.toks) (r.append r2) (by rw [bE];exact Oo),rfl,q _ I.fresh⟩
end
section
variable{prog:Program}{w:World}{A:Around}{E:Value->Shared->Prop}{s:Shared}
end
section
variable{X:Cx}
end
end L2
namespace Att
open PySem PySem.W PySem.Calls PyProof.Rows
def wG{P:Params}{h:Heap}:∀(ns:Af) (vs:Ag),WellAll P h vs (ns.map WData.int)->IntsAre vs ns:=by
 intro ns
 induction ns with
 | nil =>
  intro vs w;rw [List.map_nil] at w;cases w;exact .nil
 | cons n ns ih =>
  intro vs w;rw [bI] at w;cases w with
  | cons a b =>
   cases a;exact .cons _ _ (ih _ b)
def MI{l:OpenLaw}{n:Nat}(hn:l.most=some n){P:Params}{h:Heap}{args:List WData}{vals:Ag}
  (hpre:l.row.toRowW.claim.pre args=true) (hwl:WellAll P h vals args) :
  ∃a vs ns,vals=[Value.ref a]/\args=[WData.list (ns.map WData.int)]/\h.get? a=some { cls:=.type "list",data:=.seq vs.toArray }/\IntsAre vs ns/\ns.length<=n:=by
 have hsh:WShape.hasAll [] args [.list .int]=true:=(pre_splitW hpre).1;have hc:l.pre.holds [] { args:=args }=true:=(pre_splitW hpre).2;obtain ⟨d,r,rfl,h1,h2⟩:=hasAllW_cons hsh;obtain rfl:=hasAllW_nil h2;obtain ⟨xs,rfl,h3⟩:=hasW_list h1;obtain ⟨ns,rfl⟩:=items_int h3;have hlen:ns.length<=n:=by
  unfold OpenLaw.pre at hc;have h4:(WTm.not (.lt (.lit (.int (n:Int))) (.len (.arg 0)))).holds [] { args:=[.list (ns.map .int)] }=true:=by
   have h4:=(holds_andW hc).1;rw [hn] at h4;exact h4
  have h5:=condW_of h4 (w_not (w_lt w_lit (w_len_list (w_arg rfl))));rw [aA] at h5;refine Nat.le_of_not_lt λq=>?_;have q':(n:Int)<((ns.length:Nat):Int):=Oo
  first
   | (rw [cL q'] at h5;exact absurd h5 Dd)
   | (simp at h5;exact Oo)
 cases hwl with
 | cons w1 w2 =>
  cases w2;cases w1 with
  | list ho hall=>exact ⟨_,_,ns,rfl,rfl,ho,wG ns _ hall,hlen⟩
def MR(l:OpenLaw)(args:List WData):l.row.toRowW.claim.post args (.bool true) args=true :=
 postW_of (r:=l.row.toRowW) (X:=(true == true))
  (show WShape.has [] (.bool true) .bool=true by first | rfl | decide | simp [WShape.has,WShape.arms,WShape.armsAll])
  (show (WTm.eq .res (.lit (.bool true))).value [] { args:=args,res:=some (.bool true),after:=args }=some (.bool (true == true)) from w_eq_bool (w_res rfl) w_lit) rfl
def GO{l:OpenLaw}{n:Nat}{q:Program}{loose:Ah}{XP:(Str->Option Value)->Heap->Prop}{YP:World->Heap->Prop}{d:DefRec}
  (hn:l.most=some n) (hdf:d.params.defaults=[])
  (call:∀(w:World) (s₀ s₁:Shared) (mg mb:Str->Option Value) (fa:Addr) (o:Obj) (pm cd doc:Value) (a:Addr) (vs:Ag) (ns:Af),
   Ground q loose [] XP w s₀ mg mb s₁.heap->YP w s₁.heap ->
   s₁.heap.get? fa=some o->o.data=.func (docDef d.name d.params d.body d.scope pm cd doc)->s₁.heap.CodeRec cd d.name->mg d.name=some (.ref fa) ->
   s₁.heap.get? a=some { cls:=.type "list",data:=.seq vs.toArray }->IntsAre vs ns->ns.length<=n->s₁.gens=#[] ->
   codeAny (model l.prog w) callerA (.call (.ref fa) ⟨[.ref a],[]⟩) (λr s'=>r=.ok (.ret (.bool true))/\OldK s₁.heap s'.heap/\s'.os=s₁.os/\AllBare s'.gens) s₁) :
  WalkO q loose XP YP l.row.toRowW d [] (λf vs=>PySem.call f vs):=by
 intro w s₀ s₁ mg mb G Y fa o pm cd doc dV kV ho hd hcd hD hmg hg args vals as hpre hlay hrd hwl hlo;obtain rfl:dV=.none:=Dflts.none hD hdf;obtain rfl:kV=.none:=Dflts.noKw hD;obtain ⟨a,vs,ns,rfl,rfl,hobj,hints,hlen⟩:=MI hn hpre hwl;refine enter_call (codeAny_mono (call w s₀ s₁ mg mb fa o pm cd doc a vs ns G Y ho (fd_plain hd) hcd hmg hobj hints hlen hg) λr s' hq=>?_);obtain ⟨rfl,h2,h3,h4⟩:=hq;exact ⟨.inl ⟨.bool true,.bool true,[],rfl,λ_=>rfl,.bool true,MR l _,λ_=>⟨List.Pairwise.nil,λ_ hm=>(nomatch hm)⟩⟩,h2,h3,h4⟩
section
variable{prog:Program}{w:World}{A:Around}{E:Value->Shared->Prop}{s:Shared}{K:Frag}
end
end Att
namespace L2
open PySem PySem.Spec PyProof.Rows
theorem zN:∀{vs:Ag}{ns:Af},IntsAre vs ns->dF (ns.map V.int) vs
 | _,_,.nil=>.nil
 | _,_,.cons n t h=>.cons ⟨t,rfl⟩ (zN h)
def YR(H:Hp):Prop:=∀b,H b=none\/∃o xs,H b=some (.frz o (.lst xs))
def RQ{P:Program}{w:World}{K:Aa}{mg mb:Str->Option Value}{CX:NZ}{k:Nat}{fa a:Addr}{fd:FuncData}{x:Str}{sp:Sp}{s₁:Shared}{vs:Ag}{ns:Af}
  (KX:K.In s₁.heap) (hns:s₁.heap.Ns mainGlobals mg) (hb:s₁.heap.Ns builtinsNs mb) (hbb:∀x:Str,x ≠ "__name__" -> mb x=bootBuiltins x) (hlim:s₁.heap.NoLimit) (hg:s₁.gens=#[])
  (ha:s₁.heap.get? a=some { cls:=.type "list",data:=.seq vs.toArray }) (hi:IntsAre vs ns) (hl:ns.length<=sizeLine) (hr:iO k callerA)
  (F:∀base:Heap,K.In base->base.Ns mainGlobals mg->eC P w K mg base CX k fa fd [x] sp) (hbind:∀(s:Shared) (u:Value),BindsTo s fd ⟨[u],[]⟩ [(x,u)])
  (hsp:∀H:Hp,YR H->fI K H a (ns.map V.int)->sp [.ref a] H (λv _=>v=.bl true) λ_ _ _=>False)
  (hCX:∀H e s',CX [] H s₁ (λ_ _ _=>False) e s'->False) :
  codeAny (model P w) callerA (.call (.ref fa) ⟨[.ref a],[]⟩) (λr s'=>r=.ok (.ret (.bool true))/\OldK s₁.heap s'.heap/\s'.os=s₁.os/\AllBare s'.gens) s₁:=by
 have rv:=zN hi;have lenV:=hi.length;have core:∀H:Hp,YR H->fI K H a (ns.map V.int)->pQ P w H s₁.heap->(∀b,H b≠none->b=a)->(H a≠none->K.lookup a=none) ->
   codeAny (model P w) callerA (.call (.ref fa) ⟨[.ref a],[]⟩) (λr s'=>r=.ok (.ret (.bool true))/\OldK s₁.heap s'.heap/\s'.os=s₁.os/\AllBare s'.gens) s₁:=by
  intro H hO hS hok hA hK;have base_of:∀{b:Addr} {o:Obj},s₁.heap.get? b=some o->H b=none->(CQ s₁.heap H).get? b=some o:=λe n=>RY e n;have noA:∀{b:Addr} {o:Obj} {es:Array DictEntry} {ep:Nat},s₁.heap.get? b=some o->o.data=.dict es ep->H b=none:=λ{b o es ep} e d=>by
   cases q:H b with
   | none=>rfl
   | some u =>
    have e':b=a:=hA b (by rw [q];simp);subst e';rw [ha] at e;cases e;have d':Data.seq vs.toArray _=Data.dict es ep:=d;cases d'
  have nsK:∀{b:Addr} {m:Str->Option Value},s₁.heap.Ns b m->(CQ s₁.heap H).Ns b m:=λ{b m} ⟨o,es,ep,e,d,r⟩=>⟨o,es,ep,base_of e (noA e d),d,r⟩;have hKb:K.In (CQ s₁.heap H):=λb o e=>base_of (KX b o e) (by
   cases q:H b with
   | none=>rfl
   | some u =>
    have e':b=a:=hA b (by rw [q];simp);subst e';rw [hK (by rw [q];simp)] at e;cases e)
  have hM:Mod K mg (CQ s₁.heap H):=⟨hKb,nsK hns,⟨mb,nsK hb,hbb⟩,let ⟨mc,h1,h2⟩:=hlim;⟨mc,nsK h1,h2⟩⟩;have e0:zK P w K mg (CQ s₁.heap H) callerA [] s₁ H:=⟨rfl,hM,λb o e=>WY e,Nat.le_of_eq (NE _ _),trivial,λb hb=>absurd (show b∈([]:List Addr) from hb) (by simp),hok,.of_eq hg⟩;refine codeAny_mono ((F _ hKb (nsK hns)).run callerA [] s₁ H ⟨[.ref a],[]⟩ [.ref a] [.ref a] _ _ hr e0 (hbind s₁ (.ref a)) (.cons rfl .nil) (hsp H hO hS)) λr s' h=>?_;cases r with
  | error e=>exact (hCX H e s' h).elim
  | ok fl =>
   cases fl with
   | next=>exact False.elim h
   | brk=>exact False.elim h
   | cont=>exact False.elim h
   | ret u =>
    obtain ⟨v,H',os,bare,un,hok',r',q⟩:=h;have q':v=.bl true:=q;subst q';obtain rfl:u=Value.bool true:=r';refine ⟨rfl,OldK.of_keep λb o e=>?_,os,bare⟩;cases q:H b with
    | none=>exact un.keep b o e q (by intro z;exact absurd (show b∈([]:List Addr) from z) (by simp)) (by simp)
    | some u =>
     rcases hO b with z | ⟨ob,xs,z⟩
     ·rw [q] at z;cases z
     ·have z2:=un.frzs b ob _ z;obtain ⟨e1,_⟩:=hok b _ z;obtain ⟨e2,_⟩:=hok' b _ z2;rw [e] at e1;cases e1;exact e2
 cases hk:K.lookup a with
 | some o =>
  have e:=KX a o hk;rw [ha] at e;cases e;refine core (λ_=>none) (λ_=>.inl rfl) (.inr ⟨_,vs.toArray,_,hk,rfl,rfl,rfl,by rw [aW,lenV];exact hl,by simpa using rv⟩) (λb u z=>by have z':(none:Option HO)=some u:=z;cases z') (λb z=>absurd rfl z) λz=>absurd rfl z
 | none =>
  refine core (λb=>if b=a then some (.frz { cls:=.type "list",data:=.seq vs.toArray } (.lst (ns.map V.int))) else none) (λb=>?_) (.inl (.inr ⟨{ cls:=.type "list",data:=.seq vs.toArray },if_pos rfl⟩)) (λb u z=>?_) (λb z=>?_) λ_=>hk
  ·by_cases hb:b=a
   ·exact .inr ⟨_,_,if_pos hb⟩
   ·exact .inl (if_neg hb)
  ·by_cases hb:b=a
   ·have z':=(if_pos hb).symm.trans z;cases z';subst hb;exact ⟨ha,by rw [aA];exact hl,vs,_,rv,ha⟩
   ·have z':=(if_neg hb).symm.trans z;cases z'
  ·by_cases hb:b=a
   ·exact hb
   ·exact absurd (if_neg hb) z
def JE{l:PySem.W.OpenLaw}{n k:Nat}{q:Program}{loose:Ah}{XP:(Str->Option Value)->Heap->Prop}{YP:World->Heap->Prop}{d:DefRec}{K:Params->Aa}{CX:World->NZ}{sp:World->Sp}{x:Str}
  (hn:l.most=some n) (hn2:n<=sizeLine) (hdf:d.params.defaults=[]) (hr:iO k callerA)
  (hY:∀(w:World) (h:Heap),YP w h->(K w.params).In h)
  (F:∀(w:World) (mg:Str->Option Value) (fa:Addr) (h:Heap),(K w.params).In h->h.Ns mainGlobals mg->mg d.name=some (.ref fa) ->
   ∃fd:FuncData,(∀(s:Shared) (u:Value),BindsTo s fd ⟨[u],[]⟩ [(x,u)]) /\
    ∀base:Heap,(K w.params).In base->base.Ns mainGlobals mg->eC l.prog w (K w.params) mg base (CX w) k fa fd [x] (sp w))
  (hsp:∀(w:World) (H:Hp) (a:Addr) (ns:Af),ns.length<=n->YR H->fI (K w.params) H a (ns.map V.int)->sp w [.ref a] H (λv _=>v=.bl true) λ_ _ _=>False)
  (hCX:∀(w:World) (H:Hp) (s:Shared) (e:Value) (s':Shared),CX w [] H s (λ_ _ _=>False) e s'->False) :
  PySem.W.WalkO q loose XP YP l.row.toRowW d [] (λf vs=>PySem.call f vs):=by
 refine Att.GO hn hdf λw s₀ s₁ mg mb fa o pm cd doc a vs ns G Y ho hd hcd hmg hobj hints hlen hg=>?_;have KX:=hY w _ Y;obtain ⟨fd,hb,hF⟩:=F w mg fa _ KX G.T.g hmg;exact RQ KX G.T.g G.T.b G.T.builtins G.T.nolimit hg hobj hints (aM hlen hn2) hr hF hb (λH hO hS=>hsp w H a ns hlen hO hS) λH e s'=>hCX w H s₁ e s'
def OQ{l:PySem.W.OpenLaw}{n k:Nat}{q:Program}{loose:Ah}{XP:(Str->Option Value)->Heap->Prop}{YP:World->Heap->Prop}{d:DefRec}{K:Params->Aa}{CX:NZ}{sp:Aa->Sp}{x:Str}
  (hn:l.most=some n) (hn2:n<=sizeLine) (hdf:d.params.defaults=[]) (hr:iO k callerA)
  (hY:∀(w:World) (h:Heap),YP w h->(K w.params).In h)
  (F:∀(w:World) (mg:Str->Option Value) (fa:Addr) (h:Heap),(K w.params).In h->h.Ns mainGlobals mg->mg d.name=some (.ref fa) ->
   ∃fd:FuncData,(∀(s:Shared) (u:Value),BindsTo s fd ⟨[u],[]⟩ [(x,u)]) /\
    ∀base:Heap,(K w.params).In base->base.Ns mainGlobals mg->eC l.prog w (K w.params) mg base CX k fa fd [x] (sp (K w.params)))
  (hsp:∀(K:Aa) (H:Hp) (a:Addr) (ns:Af),ns.length<=n->YR H->fI K H a (ns.map V.int)->sp K [.ref a] H (λv _=>v=.bl true) λ_ _ _=>False)
  (hCX:∀(H:Hp) (s:Shared) (e:Value) (s':Shared),CX [] H s (λ_ _ _=>False) e s'->False) :
  PySem.W.WalkO q loose XP YP l.row.toRowW d [] (λf vs=>PySem.call f vs) :=
 JE (K:=K) (CX:=λ_=>CX) (sp:=λw=>sp (K w.params)) hn hn2 hdf hr hY F (λw H a ns h1 h2 h3=>hsp (K w.params) H a ns h1 h2 h3) λ_ H s e s'=>hCX H s e s'
end L2
/- THE LAST THEOREM (shape;LID,My.* are yours):
   My.Adr: a structure of the addresses that your layer names (classes,functions);My.Txt K t: a structure (Prop) of the equations over K;
   My.txt_mk:{K} {implicit addresses ..} (e1:nsIn K mainGlobals "law" = some (some (.ref f))) (e2:K.lookup f=some ⟨oc,od,.func (fnOf "law" "law" params body scope dV kV doc pm an cdv ct),sl⟩) (e3:codeIn K cdv "law" = true) .. : ∃t,My.Txt K t
set_option maxRecDepth 100000 in
set_option maxHeartbeats 0 in
theorem PySem.Challenge.cw_LID_holds : PySem.Challenge.rw_LID.Holds := by
  w_on;o_law;k_head;(case hw=>w_witness2)
  k_fill
  refine L2.JE (l:=PySem.Challenge.rw_LID) (n:=63) (k:=40) (x := "script") (CX:=λw=>..) (sp:=λ_=>My.sp_law) rfl Dd rfl ⟨rfl,Dd,Dd⟩ (λw h Y=>PySem.W.kIn_of Y) ?F ?S ?C
  case F =>
    intro w mg fa h KX G hmg;have T:∃t,My.Txt (L2.KOf KX) t:=by
      dsimp only [L2.KOf]                          -- K must stand as «<heap const> w.params» for k_is
      refine' My.txt_mk ?e1 ?e2 ?e3 ..
      (case e1=>PySem.W.k_is)                    -- in the order: a name -> its address -> its object -> its parts
      (case e2=>PySem.W.k_is)
      ..
    obtain ⟨t,T⟩:=T;have e0:=hmg.symm.trans (PySem.W.mg_of KX G T.law);cases e0                                       -- fa is the law's own address;exact ⟨_,λs u=>.of_eq rfl,λbase kb nb=>My.law_fn T kb nb⟩     -- if «.of_eq rfl» comes too early: refine' ⟨_,?b,λbase kb nb=>My.law_fn T kb nb⟩;exact λs u=>.of_eq rfl
  case S=>exact λw H a ns hl hO hS=>..
  case C=>exact ..
(the tactic k_is has no namespace: write k_is) -/
namespace L2
open PySem PySem.Spec PyProof.Rows
def XL(s:Stmt)(j:Nat):Stmt:=match s with
 | .ClassDef _ _ _ body _ _ _ _ _ _ _=>body.getD j (.Pass ⟨0,0,0,0⟩)
 | _=>.Pass ⟨0,0,0,0⟩
def pG(s:Stmt):Arguments:=match s with
 | .FunctionDef _ a _ _ _ _ _ _ _ _=>a
 | _=>{ posonlyargs:=[],args:=[],vararg:=none,kwonlyargs:=[],kw_defaults:=[],kwarg:=none,defaults:=[] }
def lB(s:Stmt):List Stmt:=match s with
 | .FunctionDef _ _ b _ _ _ _ _ _ _=>b
 | _=>[]
def aY(s:Stmt):Scope:=match s with
 | .FunctionDef _ _ _ _ _ _ sc _ _ _=>sc
 | _=>{ kind:=.function,names:=[],isGenerator:=false,isCoroutine:=false }
abbrev dR:NZ:=λ_ _ _ _ _ _=>False
abbrev E0:XK:=λ_ _ _=>False
def ZL{X:Cx}:yQ dR X E0:=λ_ _ _ _ _ _ _ h=>h.elim
structure jP(K:Aa)(x qual:Str)(st:Stmt)(f:Addr)(fd:FuncData):Prop where
 ex:∃(oc:Value) (od:Option Addr) (kV doc pm:Value) (an:Option Addr) (cdv ct:Value) (osl:Array (Option Value)),
  fd=PySem.W.fnOf x qual (pG st) (lB st) (aY st) .none kV doc pm an cdv ct/\K.lookup f=some ⟨oc,od,.func fd,osl⟩/\PySem.W.codeIn K cdv qual=true
 kp:PySem.W.keepIn K (.ref f)=true
section
variable{P:Program}{w:World}{K:Aa}{mg:Str->Option Value}{base:Heap}
def jP.ok{x qual:Str}{st:Stmt}{f:Addr}{fd:FuncData}{N ps:Ah}{k:Nat}{sp:Sp}(F:jP K x qual st f fd)(S:bZ N ps (aY st))(len:∀vs H Q E,sp vs H Q E->vs.length=ps.length)
  (hbody:∀(cdv:Value) (A:Around) (outer:List Env) (s:Shared) (H:Hp) (vs:Al) (Q:VK) (E:XK),iO k (A.deeper (envOfC qual (aY st) s.heap.objs.size f cdv))->sp vs H Q E ->
   ∃t,IU (GA dR P w K mg base N qual (aY st) f cdv A outer s H E).nox (lB st) t/\t { nx:=λ_ H'=>Q .non H',rt:=Q } (start N vs) H):eC P w K mg base dR (k+1) f fd ps sp:=by
 obtain ⟨oc,od,kV,doc,pm,an,cdv,ct,osl,rfl,lk,hcd⟩:=F.ex;refine aC0 lk hcd S len λA outer s H vs Q E hr hsp=>?_;obtain ⟨t,h,q⟩:=hbody cdv A outer s H vs Q E hr hsp;exact ⟨t,h.nox,q⟩
def jP.binds{x qual:Str}{st:Stmt}{f:Addr}{fd:FuncData}{ps:Ah}(F:jP K x qual st f fd)
  (h:∀(kV doc pm:Value) (an:Option Addr) (cdv ct:Value) (us:Ag),us.length=ps.length->bindArgs (PySem.W.fnOf x qual (pG st) (lB st) (aY st) .none kV doc pm an cdv ct) ⟨us,[]⟩=pure (ps.zip us)):qW K fd ps []:=by
 obtain ⟨oc,od,kV,doc,pm,an,cdv,ct,osl,rfl,lk,hcd⟩:=F.ex;exact .all (h kV doc pm an cdv ct)
def CT{x qual:Str}{st:Stmt}{f:Addr}{oc:Value}{od an:Option Addr}{osl:Array (Option Value)}{kV doc pm cdv ct:Value}(l:K.lookup f=some ⟨oc,od,.func (PySem.W.fnOf x qual (pG st) (lB st) (aY st) .none kV doc pm an cdv ct),osl⟩)
  (c:PySem.W.codeIn K cdv qual=true) (k:PySem.W.keepIn K (.ref f)=true):jP K x qual st f (PySem.W.fnOf x qual (pG st) (lB st) (aY st) .none kV doc pm an cdv ct):=⟨⟨oc,od,kV,doc,pm,an,cdv,ct,osl,rfl,l,c⟩,k⟩
end
def uU{n:Nat}(h:n<=1000):n<sizeLine:=bC h Dd
section
variable{X:Cx}
def pv(i:Nat){x:Str}{pos:Pos}(hN:X.N[i]?=some x:=by rfl)(hv:Vis X.env.scope x:=by first | exact Or.inl rfl | exact Or.inr (Or.inl rfl) | exact Or.inr (Or.inr rfl))(hd:(x == ("__debug__" : Str))=false:=by decide)
  (hcd:(x == ("__classdict__" : Str))=false:=by decide):PE X (.Name x pos) (aAi i):=aBf hN hv hd hcd
end
def NB{A B:Prop}(h:B):if false=true then A else B:=by
 rw [if_neg bR];exact h
def XJ{A B:Prop}(h:A):if true=true then A else B:=by
 rw [if_pos rfl];exact h
def aCW{c A B:Prop}[Decidable c](h1:c->A)(h2:¬c->B):if c then A else B:=by
 by_cases h:c
 ·rw [if_pos h];exact h1 h
 ·rw [if_neg h];exact h2 h
def aU(H H':Hp):Prop:=∀b o,H b=some o->H' b=some o
def aU.refl(H:Hp):aU H H:=λ_ _ h=>h
def aU.trans{H H1 H2:Hp}(a:aU H H1)(b:aU H1 H2):aU H H2:=λc o h=>b c o (a c o h)
def aU.free{H H':Hp}(e:aU H H'){l:Addr}(h:H' l=Option.none):H l=Option.none:=by
 cases q:H l with
 | none=>rfl
 | some o =>
  rw [e l o q] at h;cases h
section
variable{κ:Type}[DecidableEq κ]
def fQ(kvs:List (κ × V))(k:κ):Am:=(kvs.find? λkv=>decide (kv.1=k)).map (·.2)
def iX(kvs:List (κ × V))(k:κ)(v:V):List (κ × V) :=
 if (kvs.any λkv=>decide (kv.1=k))=true then kvs.map (λkv=>if kv.1=k then (kv.1,v) else kv) else kvs++[(k,v)]
def iP{p:κ × V}{r:List (κ × V)}{k:κ}(e:p.1=k):fQ (p::r) k=some p.2:=by simp [fQ,List.find?_cons,e]
def iQ{p:κ × V}{r:List (κ × V)}{k:κ}(e:¬p.1=k):fQ (p::r) k=fQ r k:=by simp [fQ,List.find?_cons,e]
theorem lC(k:κ):∀kvs:List (κ × V),(kvs.any λkv=>decide (kv.1=k))=(fQ kvs k).isSome
 | []=>rfl
 | p::r=>by
  rw [List.any_cons];by_cases e:p.1=k
  ·simp only [iP e,cL e,Bool.true_or,Option.isSome_some]
  ·rw [iQ e,cJ e,Bool.false_or];exact lC k r
theorem EE(k j:κ)(y:V):∀kvs:List (κ × V),fQ (kvs.map λkv=>if kv.1=k then (kv.1,y) else kv) j=(fQ kvs j).map λx=>if j=k then y else x
 | []=>rfl
 | p::r=>by
  have ih:=EE k j y r;rw [bI];by_cases h:p.1=k
  ·rw [if_pos h];by_cases e:p.1=j
   ·rw [iP (p:=(p.1,y)) e,iP e,Option.map_some,if_pos (e.symm.trans h)]
   ·rw [iQ (p:=(p.1,y)) e,iQ e,ih]
  ·rw [if_neg h];by_cases e:p.1=j
   ·rw [iP (p:=p) e,iP e,Option.map_some,if_neg (λz=>h (e.trans z))]
   ·rw [iQ (p:=p) e,iQ e,ih]
theorem zO(k j:κ)(y:V):∀kvs:List (κ × V),fQ kvs k=none->fQ (kvs++[(k,y)]) j=if j=k then some y else fQ kvs j
 | [],_=>by
  by_cases e:k=j
  ·rw [if_pos e.symm];exact iP (p:=(k,y)) e
  ·rw [if_neg (λz=>e z.symm)];exact iQ (p:=(k,y)) e
 | p::r,hn=>by
  rw [List.cons_append];have hk:¬p.1=k:=λz=>by rw [iP z] at hn;cases hn
  rw [iQ hk] at hn;have ih:=zO k j y r hn;by_cases e:p.1=j
  ·rw [iP e,iP e,if_neg (λz=>hk (e.trans z))]
  ·rw [iQ e,iQ e,ih]
def iG(kvs:List (κ × V))(k j:κ)(y:V):fQ (iX kvs k y) j=if j=k then some y else fQ kvs j:=by
 unfold iX;by_cases a:(kvs.any λkv=>decide (kv.1=k))=true
 ·rw [if_pos a,EE];rw [lC] at a;by_cases e:j=k
  ·obtain ⟨x,hx⟩:=Option.isSome_iff_exists.mp a;rw [if_pos e,e,hx,Option.map_some,if_pos rfl]
  ·rw [if_neg e];cases fQ kvs j with
   | none=>rfl
   | some x=>rw [Option.map_some,if_neg e]
 ·rw [if_neg a];refine zO k j y kvs ?_;rw [lC] at a;cases q:fQ kvs k with
  | none=>rfl
  | some x=>rw [q] at a;exact (a rfl).elim
def fD(kvs:List (κ × V))(k:κ)(v:V):(iX kvs k v).length<=kvs.length+1:=by
 unfold iX;split
 ·rw [aA];exact Oo
 ·rw [bE,bT,List.length_nil];exact Oo
def QS{kvs:List (κ × V)}{k:κ}(v:V)(h:fQ kvs k=none):iX kvs k v=kvs++[(k,v)]:=by
 unfold iX;rw [lC,h];exact if_neg Dd
def sK.isSome_eq{o:Am}{u:Option Value}(r:sK o u):o.isSome=u.isSome:=by
 cases o with
 | none=>cases u with
  | none=>rfl
  | some _=>exact (show False from r).elim
 | some _=>cases u with
  | none=>exact (show False from r).elim
  | some _=>rfl
theorem sK.getD{o:Am}{u:Option Value}{d:V}{d':Value}(r:sK o u)(rd:dN d d'):dN (o.getD d) (u.getD d'):=by
 cases o with
 | none=>cases u with
  | none=>exact rd
  | some _=>exact (show False from r).elim
 | some _=>cases u with
  | none=>exact (show False from r).elim
  | some _=>exact r
def KV.val{kvs:List (κ × V)}{vs:List (κ × Value)}(r:KV kvs vs)(k:κ):sK (fQ kvs k) (valueAt vs k):=by
 unfold KV at r
 induction r with
 | nil=>exact True.intro
 | @cons p q ps qs h t ih =>
  obtain ⟨h1,h2⟩:=h;by_cases e:p.1=k
  ·have e':q.1=k:=h1.symm.trans e;have b:valueAt (q::qs) k=some q.2:=by simp [valueAt,List.find?_cons,e']
   rw [iP e,b];exact h2
  ·have e':¬q.1=k:=λz=>e (h1.trans z);have b:valueAt (q::qs) k=valueAt qs k:=by simp [valueAt,List.find?_cons,e']
   rw [iQ e,b];exact ih
theorem KV.any{kvs:List (κ × V)}{vs:List (κ × Value)}(r:KV kvs vs)(k:κ):(kvs.any λkv=>decide (kv.1=k))=vs.any λkv=>decide (kv.1=k):=by
 unfold KV at r
 induction r with
 | nil=>rfl
 | cons h t ih=>rw [List.any_cons,List.any_cons,ih,h.1]
def KV.repl{kvs:List (κ × V)}{vs:List (κ × Value)}(r:KV kvs vs)(k:κ){y:V}{u:Value}(ry:dN y u) :
  KV (kvs.map λkv=>if kv.1=k then (kv.1,y) else kv) (vs.map λkv=>if kv.1=k then (kv.1,u) else kv):=by
 unfold KV at r ⊢
 induction r with
 | nil=>exact .nil
 | @cons p q ps qs h t ih =>
  rw [bI,bI];refine .cons ?_ ih;obtain ⟨h1,h2⟩:=h;by_cases e:p.1=k
  ·rw [if_pos e,if_pos (h1.symm.trans e)];exact ⟨h1,ry⟩
  ·rw [if_neg e,if_neg (λz=>e (h1.trans z))];exact ⟨h1,h2⟩
def KV.put{kvs:List (κ × V)}{vs:List (κ × Value)}(r:KV kvs vs)(k:κ){y:V}{u:Value}(ry:dN y u):KV (iX kvs k y) (stored vs k u):=by
 unfold iX stored;rw [r.any k];by_cases e:(vs.any λkv=>decide (kv.1=k))=true
 ·rw [if_pos e,if_pos e];exact r.repl k ry
 ·rw [if_neg e,if_neg e];exact Paired.snoc r ⟨rfl,ry⟩
theorem KV.length{kvs:List (κ × V)}{vs:List (κ × Value)}(r:KV kvs vs):kvs.length=vs.length:=Paired.length r
end
def AE{P:Program}{w:World}{k:fE}{u:Value}(r:dN (kV k) u):(fX P w).is k u=true:=by
 cases k with
 | inl i=>obtain ⟨t,e⟩:=(show ∃t,u=Value.int i t from r);subst e;exact FJ P w i t
 | inr x=>obtain ⟨t,e⟩:=(show ∃t,u=Value.str x t from r);subst e;exact FI P w x t
theorem AF{P:Program}{w:World}:∀{ks:List fE}{us:Ag},dF (ks.map kV) us->ItemsAre (fX P w) ks us
 | [],_,r=>by rw [List.map_nil] at r;cases r;exact .nil
 | k::ks,_,r=>by
  rw [bI] at r;cases r with
  | cons h t=>exact .cons (AE h) (AF t)
abbrev KT(H:Hp):List (List fE × V)->List (List fE × Addr × Value)->Prop:=Paired λp q=>p.1=q.1/\H q.2.1=some (.tup (p.1.map kV))/\dN p.2 q.2.2
def KT.val{H:Hp}{kvs:List (List fE × V)}{xs:List (List fE × Addr × Value)}(r:KT H kvs xs)(k:List fE):sK (fQ kvs k) ((atKey xs k).map (·.2)):=by
 induction r with
 | nil=>exact True.intro
 | @cons p q ps qs h t ih =>
  obtain ⟨h1,_,h2⟩:=h;by_cases e:p.1=k
  ·have e':q.1=k:=h1.symm.trans e;have b:atKey (q::qs) k=some q.2:=by simp [atKey,List.find?_cons,e']
   rw [iP e,b];exact h2
  ·have e':¬q.1=k:=λz=>e (h1.trans z);have b:atKey (q::qs) k=atKey qs k:=by simp [atKey,List.find?_cons,e']
   rw [iQ e,b];exact ih
def KT.repl{H:Hp}{kvs:List (List fE × V)}{xs:List (List fE × Addr × Value)}(r:KT H kvs xs)(k:List fE){y:V}{u:Value}(ry:dN y u) :
  KT H (kvs.map λkv=>if kv.1=k then (kv.1,y) else kv) (xs.map (putAt k u)):=by
 induction r with
 | nil=>exact .nil
 | @cons p q ps qs h t ih =>
  rw [bI,bI];refine .cons ?_ ih;obtain ⟨h1,h2,h3⟩:=h;unfold putAt;by_cases e:p.1=k
  ·rw [if_pos e,if_pos (h1.symm.trans e)];exact ⟨h1,h2,ry⟩
  ·rw [if_neg e,if_neg (λz=>e (h1.trans z))];exact ⟨h1,h2,h3⟩
def KT.put{H:Hp}{kvs:List (List fE × V)}{xs:List (List fE × Addr × Value)}(r:KT H kvs xs)(k:List fE){b:Addr}{y:V}{u:Value}(hb:H b=some (.tup (k.map kV)))(ry:dN y u) :
  KT H (iX kvs k y) (storedH xs k b u):=by
 have e:(kvs.any λkv=>decide (kv.1=k))=(atKey xs k).isSome:=by
  rw [lC,(r.val k).isSome_eq,Option.isSome_map]
 unfold iX storedH;rw [e];by_cases q:(atKey xs k).isSome=true
 ·rw [if_pos q,if_pos q];exact r.repl k ry
 ·rw [if_neg q,if_neg q];exact Paired.snoc r ⟨rfl,hb,ry⟩
def KT.keeps{H H':Hp}{kvs:List (List fE × V)}{xs:List (List fE × Addr × Value)}(r:KT H kvs xs)(ht:∀b ys,H b=some (.tup ys)->H' b=some (.tup ys)):KT H' kvs xs :=
 Paired.mapP r λ_ _ z=>⟨z.1,ht _ _ z.2.1,z.2.2⟩
section
variable{P:Program}{w:World}{H:Hp}{h:Heap}{a:Addr}
def ZK{u:HO}(ok:pQ P w H h)(e:Rd H a u):fH P w H h a u:=e.ok ok
def AJ{kvs:List (fE × V)}(ok:pQ P w H h)(e:Rd H a (.dK kvs)):kvs.length<=sizeLine/\(a == sysModules)=false/\∃vs,KV kvs vs/\h.DictOf (fX P w) a vs :=
 show fH P w H h a (.dK kvs) from ZK ok e
def ZS{kvs:List (fE × V)}(ok:pQ P w H h)(e:H a=some (.dK kvs)):kvs.length<=sizeLine/\(a == sysModules)=false/\∃vs,KV kvs vs/\h.DictOf (fX P w) a vs:=AJ ok (.inl e)
def vF{ks:List fE}(ok:pQ P w H h)(e:H a=some (.tup (ks.map kV))):(tupleKind (fX P w)).is h ks a:=by
 obtain ⟨_,its,r,o,h1,h2,n,h3⟩:=(show fH P w H h a (.tup (ks.map kV)) from ok a _ e);exact ⟨o,its.toArray,n,h1,h2,h3,by simpa using AF r⟩
def AI{kvs:List (List fE × V)}(ok:pQ P w H h)(e:Rd H a (.dT kvs)):kvs.length<=sizeLine/\(a == sysModules)=false /\
  ∃xs,KT H kvs xs/\h.DictOfH (tupleKind (fX P w)) a xs:=by
 obtain ⟨z,y,xs,r,o,es,ep,h1,h2,h3,h4,h5⟩:=(show fH P w H h a (.dT kvs) from ZK ok e);refine ⟨z,y,xs,r,o,es,ep,h1,h2,h3,h4,λx hx=>?_,h5⟩;have all:∀{l:List (List fE × V)} {m:List (List fE × Addr × Value)},KT H l m->∀x∈m,(tupleKind (fX P w)).is h x.1 x.2.1:=by
  intro l m q
  induction q with
  | nil=>intro x hx;exact nomatch hx
  | @cons p q ps qs hq t ih =>
   intro x hx;rcases aZ.mp hx with e | hx
   ·subst e;exact vF ok (by rw [<-hq.1];exact hq.2.1)
   ·exact ih x hx
 exact all r x hx
def ZR{kvs:List (List fE × V)}(ok:pQ P w H h)(e:H a=some (.dT kvs)):kvs.length<=sizeLine/\(a == sysModules)=false /\
  ∃xs,KT H kvs xs/\h.DictOfH (tupleKind (fX P w)) a xs:=AI ok (.inl e)
end
def oS(H:Hp)(a:Addr)(y:V)(r:Am):Prop :=
 (∃kvs k,Rd H a (.dK kvs)/\y=kV k/\r=fQ kvs k)\/∃kvs k b,Rd H a (.dT kvs)/\y=.ref b/\H b=some (.tup (k.map kV))/\r=fQ kvs k
def DS(H:Hp)(a:Addr)(y v:V)(H':Hp):Prop :=
 (∃kvs k,H a=some (.dK kvs)/\y=kV k/\kvs.length<sizeLine/\H'=upd H a (.dK (iX kvs k v))) \/
 ∃kvs k b,H a=some (.dT kvs)/\y=.ref b/\H b=some (.tup (k.map kV))/\kvs.length<sizeLine/\H'=upd H a (.dT (iX kvs k v))
theorem oS.k{H:Hp}{a:Addr}{kvs:List (fE × V)}{k:fE}(e:H a=some (.dK kvs)):oS H a (kV k) (fQ kvs k):=.inl ⟨kvs,k,.inl e,rfl,rfl⟩
def oS.t{H:Hp}{a b:Addr}{kvs:List (List fE × V)}{k:List fE}(e:H a=some (.dT kvs))(eb:H b=some (.tup (k.map kV))):oS H a (.ref b) (fQ kvs k):=.inr ⟨kvs,k,b,.inl e,rfl,eb,rfl⟩
theorem DS.k{H:Hp}{a:Addr}{kvs:List (fE × V)}{k:fE}{v:V}(e:H a=some (.dK kvs))(hl:kvs.length<sizeLine):DS H a (kV k) v (upd H a (.dK (iX kvs k v))):=.inl ⟨kvs,k,e,rfl,hl,rfl⟩
def DS.t{H:Hp}{a b:Addr}{kvs:List (List fE × V)}{k:List fE}{v:V}(e:H a=some (.dT kvs))(eb:H b=some (.tup (k.map kV)))(hl:kvs.length<sizeLine) :
  DS H a (.ref b) v (upd H a (.dT (iX kvs k v))):=.inr ⟨kvs,k,b,e,rfl,eb,hl,rfl⟩
section
variable{X:Cx}{pins:Ad}{σ:St}{H:Hp}{s:Shared}{a:Addr}{y v:V}{u r:Value}{o:Am}{A:Around}{E:Value->Shared->Prop}
def cI.big(I:cI X pins σ H s):sysModules<s.heap.objs.size:=by
 have h:mainGlobals<s.heap.objs.size:=(I.mod.glob.keeps I.bk).lt;exact Nat.lt_trans Dd h
def NJ{Q:Value->Shared->Prop}(hu:A.units+1<cLine)(I:cI X pins σ H s)(g:oS H a y (some v))(ry:dN y u)(h:∀w' s',cI X pins σ H s'->dN v w'->Q w' s') :
  wpAny (model X.prog X.w) A (getItem (.ref a) u) Q E s:=by
 rcases g with ⟨kvs,k,e,ey,l⟩ | ⟨kvs,k,b,e,ey,eb,l⟩
 ·subst ey;obtain ⟨z,hd,vs,rel,dd⟩:=AJ I.hok e;obtain ⟨w',hw,rw'⟩:=sK.some_of (v:=v) (o:=valueAt vs k) (by rw [l];exact rel.val k);exact wpAny_getItem_of (AE ry) dd.mapOf hw (h w' _ (I.tok _) rw')
 ·subst ey;cases (show u=Value.ref b from ry);obtain ⟨z,hd,xs,rel,dd⟩:=AI I.hok e;obtain ⟨w',hw,rw'⟩:=sK.some_of (v:=v) (o:=(atKey xs k).map (·.2)) (by rw [l];exact rel.val k);obtain ⟨p,hp,hp2⟩:=cU.mp hw;refine wpAny_getItem_heap (tupleKind_room_in1 hu) (vF I.hok eb) dd hp ?_;rw [hp2];exact h w' _ (I.tok _) rw'
def aEv{Q:Value->Shared->Prop}(hu:A.units+1<cLine)(I:cI X pins σ H s)(g:oS H a y o)(ry:dN y u)(h:∀s',cI X pins σ H s'->Q (.bool o.isSome) s') :
  wpAny (model X.prog X.w) A (compareOp .In u (.ref a)) Q E s:=by
 rcases g with ⟨kvs,k,e,ey,l⟩ | ⟨kvs,k,b,e,ey,eb,l⟩
 ·subst ey;obtain ⟨z,hd,vs,rel,dd⟩:=AJ I.hok e;refine wpAny_in_of (AE ry) hd dd.mapOf ?_;rw [<-(rel.val k).isSome_eq,<-l];exact h _ (I.tok _)
 ·subst ey;cases (show u=Value.ref b from ry);obtain ⟨z,hd,xs,rel,dd⟩:=AI I.hok e;refine wpAny_in_heap (tupleKind_room_in1 hu) (vF I.hok eb) hd dd ?_;have q:=(rel.val k).isSome_eq;rw [Option.isSome_map] at q;rw [<-q,<-l];exact h _ (I.tok _)
def wW{h':Heap}{t':Nat}{ob:HO}(I:cI X pins σ H s)(mu:Mut (H a))(hs:Heap.SameBut a s.heap h')(he:∃q,h'.get? a=some q)(new:fH X.prog X.w (upd H a ob) h' a ob) :
  cI X pins σ (upd H a ob) { s with heap:=h',toks:=t' } :=
 I.write (x:=a) (e:=a) mu (.inl rfl) (λb q hb z=>(hs.2 b hb).trans z) he new
def SH{P:Program}{w:World}{H':Hp}{h':Heap}{kvs:List (fE × V)}{vs:List (fE × Value)}(z:kvs.length<=sizeLine)(hd:(a == sysModules)=false)(rel:KV kvs vs)(dd:h'.DictOf (fX P w) a vs) :
  fH P w H' h' a (.dK kvs):=⟨z,hd,vs,rel,dd⟩
def NI{H':Hp}{Q:Unit->Shared->Prop}(hu:A.units+1<cLine)(I:cI X pins σ H s)(g:DS H a y v H')(ry:dN y u)(rv:dN v r)(h:∀s',cI X pins σ H' s'->Q () s') :
  wpAny (model X.prog X.w) A (setItem (.ref a) u r) Q E s:=by
 rcases g with ⟨kvs,k,e,ey,l,eH⟩ | ⟨kvs,k,b,e,ey,eb,l,eH⟩
 ·subst ey eH;obtain ⟨z,hd,vs,rel,dd⟩:=ZS I.hok e;have hz:vs.length<=sizeLine:=by rw [<-rel.length];exact z
  have hl:(iX kvs k v).length<=sizeLine:=by have:=fD kvs k v;exact Oo
  refine wpAny_setItem_pairs (hsz:=hz) (AE ry) dd λh' dd' hs=>h _ ?_;have he:∃q,h'.get? a=some q:=let ⟨q,_,_,hq,_⟩:=dd';⟨q,hq⟩;exact wW I (by rw [e];exact True.intro) hs he (SH hl hd (rel.put k rv) dd')
 ·subst ey eH;cases (show u=Value.ref b from ry);obtain ⟨z,hd,xs,rel,dd⟩:=ZR I.hok e;have hz:xs.length<=sizeLine:=by rw [<-Paired.length rel];exact z
  have hl:(iX kvs k v).length<=sizeLine:=by have:=fD kvs k v;exact Oo
  refine wpAny_setItem_heap (hsz:=hz) (tupleKind_room_in1 hu) (vF I.hok eb) dd λh' dd' hs=>h _ ?_;obtain ⟨q,es,ep,hq,h2,h3,h4,_,h5⟩:=dd';refine wW I (by rw [e];exact True.intro) hs ⟨q,hq⟩ ⟨hl,hd,_,(rel.put k eb rv).keeps λc ys ec=>?_,q,es,ep,hq,h2,h3,h4,h5⟩;rw [dC (pN ec e (λz=>nomatch z))];exact ec
end
section
variable{X:Cx}{pins:Ad}{σ:St}{H:Hp}{s:Shared}{a:Addr}{kvs:List (fE × V)}{k:fE}{u:Value}{A:Around}{E:Value->Shared->Prop}
end
def aBX(i:Expr):Prop:=∀ov iv,subscripted i false ov iv=operate [ov,iv] (getItem ov iv)
def UW{prog:Program}{w:World}{A:Around}{E:Value->Shared->Prop}{s:Shared}{env:Env}{value slice:Expr}{pos:Pos}{T id:String}{Q:Value->Shared->Prop}
  (hl:typeLookup (.type T) "__getitem__" = pure (some (.builtin id))) (hs:aBX slice)
  (h:wpAny (model prog w) A (eval value env) (λo s₁=>wpAny (model prog w) A (eval slice env) (λi s₂=>s₂.TypeIs o T/\wpAny (model prog w) A (getItem o i) Q E s₂) E s₁) E s) :
  wpAny (model prog w) A (eval (.Subscript value slice pos) env) Q E s:=by
 refine Subscript_ (wpAny_mono h (λo s₁ h₁=>wpAny_mono h₁ (λi s₂ h₂=>?_) λ_ _ x=>x) λ_ _ x=>x);obtain ⟨hT,h₂⟩:=h₂;unfold subscriptTail;refine wpAny_bind ?_;rw [getitemInPython_of_ne hT.not_modules];refine wpAny_bind (wpAny_specialOf hT hl ?_);have fin:wpAny (model prog w) A (subscripted slice false o i) (λr s₃=>wpAny (model prog w) A (letTemporaryGo value o r >>= λ_=>pure r) Q E s₃) E s₂:=by
  rw [hs o i];exact wpAny_operating (wpAny_mono h₂ (λr s₃ h₃=>wpAny_bind (wpAny_letTemporaryGo (wpAny_pure h₃))) λ_ _ x=>x)
 first
  | exact wpAny_pure (wpAny_bind fin)
  | exact wpAny_bind (wpAny_pure (wpAny_bind fin))
  | exact wpAny_bind fin
def FX{X:Cx}{pins:Ad}{σ:St}{H:Hp}{s:Shared}{a:Addr}{y:V}{o:Am}(I:cI X pins σ H s)(g:oS H a y o):s.TypeIs (.ref a) "dict" := by
 rcases g with ⟨kvs,k,e,_,_⟩ | ⟨kvs,k,b,e,_,_,_⟩
 ·obtain ⟨_,_,vs,_,dd⟩:=AJ I.hok e;exact dd.typeIs
 ·obtain ⟨_,_,xs,_,dd⟩:=AI I.hok e;exact dd.typeIs
def aCn(td ty:TE):TE:=λσ H Q=>td σ H λx H1=>ty σ H1 λy H2=>∃a v,x=.ref a/\oS H2 a y (some v)/\Q v H2
def aCu(td ty tv:TE):TS:=λD σ H=>tv σ H λv H1=>td σ H1 λx H2=>ty σ H2 λy H3=>∃a H4,x=.ref a/\DS H3 a y v H4/\D.nx σ H4
section
variable{X:Cx}{o i e value:Expr}{pos pos' tpos:Pos}{td ty tv:TE}
def WR(hu:X.A.units+1<cLine)(ho:PE X o td)(hi:PE X i ty)(hs:aBX i):PE X (.Subscript o i pos) (aCn td ty):=by
 intro pins s σ H Q I h;refine UW PySem.F.slot_dict_getitem.lookup hs (thn (ho pins s σ H _ I h) λu s1 ⟨x,H1,I1,rx,q1⟩=>thn (hi pins s1 σ H1 _ I1 q1) λiv s2 ⟨y,H2,I2,ry,a,v,ex,g,q2⟩=>?_);subst ex;obtain rfl:u=Value.ref a:=rx;exact ⟨FX I2 g,NJ hu I2 g ry λw' s3 I3 rw'=>⟨v,H2,I3,rw',q2⟩⟩
def WH(hu:X.A.units+1<cLine)(ho:PE X o td)(hi:PE X i ty)(hv:PE X value tv)(hs:swapsWith value (some (.Subscript o i pos')) pos.line X.env=pure false) :
  PS X (.Assign [.Subscript o i pos'] value pos) (aCu td ty tv):=by
 intro pins s σ H D I h;refine wpAny_Assign_Subscript (thn (hv pins s σ H _ I h) λr s1 ⟨v,H1,I1,rv,q1⟩=>thn (ho pins s1 σ H1 _ I1 q1) λu s2 ⟨x,H2,I2,rx,q2⟩=>thn (hi pins s2 σ H2 _ I2 q2) λiv s3 ⟨y,H3,I3,ry,a,H4,ex,g,q3⟩=>?_) hs;subst ex;obtain rfl:u=Value.ref a:=rx;exact NI hu I3 g ry rv λs4 I4=>⟨σ,H4,I4,q3⟩
end
def SI{P:Program}{w:World}{H:Hp}(h:Heap)(hb:sysModules<h.objs.size):fH P w H (h.push { cls:=.type "dict",data:=.dict #[] }) h.objs.size (.dK []) :=
 ⟨cG _,beq_eq_false_iff_ne.mpr (Ne.symm (cA hb)),[],.nil,Heap.DictOf.new h⟩
def FW{P:Program}{w:World}{H:Hp}(h:Heap)(hb:sysModules<h.objs.size):fH P w H (h.push { cls:=.type "dict",data:=.dict #[] }) h.objs.size (.dT []) :=
 ⟨cG _,beq_eq_false_iff_ne.mpr (Ne.symm (cA hb)),[],.nil,_,#[],0,bB _ rfl,⟨rfl,rfl,rfl⟩,rfl,rfl,List.nodup_nil⟩
def OY:TE:=λ_ H Q=>∀p,H p=none->Q (.ref p) (upd H p (.dT []))
section
variable{X:Cx}{pos:Pos}
def pe_dnewT:PE X (.Dict [] [] pos) OY:=λpins s σ H Q I h =>
 wpAny_Dict_empty ⟨.ref s.heap.objs.size,_,I.laid (a:=s.heap.objs.size) (o:=.dT []) (t':=s.toks) (λ_ _ q=>aC _ q) (aI _) (FW s.heap I.big),rfl,h _ (I.hok.fresh (aI _))⟩
end
def HB:List (TE × TE)->St->Hp->(List (V × V)->Hp->Prop)->Prop
 | [],_,H,Q=>Q [] H
 | (tk,tv)::r,σ,H,Q=>tk σ H λx H1=>tv σ H1 λy H2=>HB r σ H2 λps H3=>Q ((x,y)::ps) H3
abbrev VV:List (V × V)->List (Value × Value)->Prop:=Paired λp q=>dN p.1 q.1/\dN p.2 q.2
def PPs(X:Cx)(pos:Pos)(keys:List (Option Expr))(values:List Expr)(trs:List (TE × TE)):Prop :=
 ∀(pins:Ad) (s:Shared) (σ:St) (H:Hp) (Q:List (V × V)->Hp->Prop),cI X pins σ H s->HB trs σ H Q ->
  wpAny (model X.prog X.w) X.A (evalPairs (pairTrees keys values X.env pos)) (λvs s'=>∃ps H',cI X pins σ H' s'/\VV ps vs/\Q ps H') X.xe s
def pps_nil{X:Cx}{pos:Pos}:PPs X pos [] [] []:=λpins s σ H Q I h=>pairTrees_nil_walk ⟨[],H,I,.nil,h⟩
def QW{X:Cx}{pos:Pos}{k v:Expr}{ks:List (Option Expr)}{vs:List Expr}{tk tv:TE}{trs:List (TE × TE)}(hk:PE X k tk)(hv:PE X v tv)(hr:PPs X pos ks vs trs) :
  PPs X pos (some k::ks) (v::vs) ((tk,tv)::trs):=λpins s σ H Q I h =>
 pairTrees_cons_walk (thn (hk pins s σ H _ I h) λu s1 ⟨x,H1,I1,rx,q1⟩=>thn (hv pins s1 σ H1 _ I1 q1) λw2 s2 ⟨y,H2,I2,ry,q2⟩ =>
  thn (hr pins s2 σ H2 _ I2 q2) λws s3 ⟨ps,H3,I3,rel,q3⟩=>⟨(x,y)::ps,H3,I3,.cons ⟨rx,ry⟩ rel,q3⟩)
def xT(kvs more:List (fE × V)):List (fE × V):=more.foldl (λacc kv=>iX acc kv.1 kv.2) kvs
def KV.merge:∀{more:List (fE × V)}{rs:List (fE × Value)}{kvs:List (fE × V)}{vs:List (fE × Value)},KV more rs->KV kvs vs->KV (xT kvs more) (merged vs rs):=by
 intro more rs kvs vs r;unfold KV at r
 induction r generalizing kvs vs with
 | nil=>intro q;exact q
 | @cons p q ps qs h t ih =>
  intro r0;have e:KV (iX kvs p.1 p.2) (stored vs q.1 q.2):=by
   have:=r0.put p.1 h.2;rw [<-h.1];exact this
  exact ih e
theorem rV:∀(more kvs:List (fE × V)),(xT kvs more).length<=kvs.length+more.length
 | [],kvs=>by show kvs.length<=kvs.length+0;exact Oo
 | p::r,kvs=>by
  have h1:=rV r (iX kvs p.1 p.2);have h2:=fD kvs p.1 p.2;show (xT (iX kvs p.1 p.2) r).length<=_;rw [bT];exact Oo
theorem yK{P:Program}{w:World}:∀{kvs:List (fE × V)}{ws:List (Value × Value)},VV (kvs.map λkv=>(kV kv.1,kv.2)) ws->∃rs,Carries (fX P w) ws rs/\KV kvs rs
 | [],_,r=>by rw [List.map_nil] at r;cases r;exact ⟨[],True.intro,.nil⟩
 | p::kvs,_,r=>by
  rw [bI] at r;cases r with
  | @cons a b as bs h t =>
   obtain ⟨rs,c,q⟩:=yK (P:=P) (w:=w) t;obtain ⟨b1,b2⟩:=b;exact ⟨(p.1,b2)::rs,⟨AE h.1,rfl,c⟩,.cons ⟨rfl,h.2⟩ q⟩
def ZF(trs:List (TE × TE)):TE:=λσ H Q=>∀p,H p=none->HB trs σ (upd H p (.dK [])) λps H2=>H2 p=some (.dK [])/\∃kvs:List (fE × V),ps=kvs.map (λkv=>(kV kv.1,kv.2))/\kvs.length<=15/\Q (.ref p) (upd H2 p (.dK (xT [] kvs)))
def WQ{X:Cx}{pos:Pos}{keys:List (Option Expr)}{values:List Expr}{trs:List (TE × TE)}(h:PPs X pos keys values trs)(hall:keys.all (·.isSome)=true)(hl:keys.length=values.length)(h0:keys≠[])
  (h15:keys.length<=15):PE X (.Dict keys values pos) (ZF trs):=by
 intro pins s σ H Q I q;have hn:=I.hok.fresh (aI s.heap.objs.size);have I1:=I.laid (a:=s.heap.objs.size) (o:=.dK []) (h':=s.heap.push { cls:=.type "dict",data:=.dict #[] }) (t':=s.toks) (λ_ _ q=>aC _ q) (aI _) (SI s.heap I.big);refine wpAny_Dict_walk (knd:=fX X.prog X.w) hall hl h0 h15 (thn (h pins _ σ _ _ I1 (q _ hn)) λws s2 ⟨ps,H2,I2,rel,e,kvs,ep,lk,q2⟩=>?_);subst ep;obtain ⟨rs,c,rk⟩:=yK (P:=X.prog) (w:=X.w) rel;obtain ⟨z,hd,vs0,r0,dd⟩:=ZS I2.hok e;cases r0;refine ⟨rs,c,dd,λh' dd' hs=>⟨.ref s.heap.objs.size,_,?_,rfl,q2⟩⟩;have hz:(xT [] kvs).length<=sizeLine:=by
  have h1:=rV kvs [];rw [List.length_nil] at h1;rw [sizeLine_eq];exact Oo
 have he:∃q,h'.get? s.heap.objs.size=some q:=let ⟨q,_,_,hq,_⟩:=dd';⟨q,hq⟩;exact wW I2 (by rw [e];exact True.intro) hs he (SH hz hd (rk.merge .nil) dd')
structure M2(X:Cx)(o:Expr)(m:Str)(apos:Pos)(e f:Expr)(cpos:Pos):Prop where
 base:attributeBase o m X.env (eval o X.env)=eval o X.env
 few:((backTo cpos (starEach [e,f] X.env)).all (λx=>!x.1)&&(backToKw cpos (keywordEach [] X.env)).all (λx=>x.1.isSome)
  && decide (([e,f]:List Expr).length+([]:List Keyword).length+(if ([]:List Keyword).isEmpty then 0 else 1)<30))=true
 line:(apos.endLine == cpos.line)=true
 trees:backTo cpos (starEach [e,f] X.env)=[(false,eval e X.env),(false,eval f X.env)]
def IsD(H:Hp)(a:Addr):Prop:=(∃kvs,Rd H a (.dK kvs))\/∃kvs,Rd H a (.dT kvs)
def aBx{X:Cx}{pins:Ad}{σ:St}{H:Hp}{s:Shared}{a:Addr}(I:cI X pins σ H s)(d:IsD H a) :
  s.TypeIs (.ref a) "dict" /\ (∀b,Value.ref a=.ref b->∃ob,s.heap.get? b=some ob/\ob.dict=none)/\(a == sysModules)=false:=by
 rcases d with ⟨kvs,e⟩ | ⟨kvs,e⟩
 ·obtain ⟨_,hd,vs,_,dd⟩:=AJ I.hok e;refine ⟨dd.typeIs,λb q=>?_,hd⟩;cases q;obtain ⟨ob,_,_,h1,h2,_⟩:=dd;exact ⟨ob,h1,h2.2.1⟩
 ·obtain ⟨_,hd,xs,_,dd⟩:=AI I.hok e;refine ⟨dd.typeIs,λb q=>?_,hd⟩;cases q;obtain ⟨ob,_,_,h1,h2,_⟩:=dd;exact ⟨ob,h1,h2.2.1⟩
section
variable{X:Cx}{pins:Ad}{σ:St}{H:Hp}{s:Shared}{a:Addr}{y d:V}{u r:Value}{o:Am}{A:Around}{E:Value->Shared->Prop}
def aBG{Q:Value->Shared->Prop}(hu:A.units+1<cLine)(I:cI X pins σ H s)(g:oS H a y o)(ry:dN y u)(rd:dN d r)(h:∀w' s',cI X pins σ H s'->dN (o.getD d) w'->Q w' s') :
  wpAny (model X.prog X.w) A (call (.builtin "dict.get") [.ref a,u,r]) Q E s:=by
 rcases g with ⟨kvs,k,e,ey,l⟩ | ⟨kvs,k,b,e,ey,eb,l⟩
 ·subst ey;obtain ⟨z,hd,vs,rel,dd⟩:=AJ I.hok e;refine call_meetsIn PySem.F.slot_dict_get dd.typeIs PySem.F.entry_dict_get (PySem.F.args_dict_get_3 _ _ _) (meets_dict_get_default (fX X.prog X.w) a (AE ry) hd r) ⟨_,dd.mapOf,h _ _ (I.tok _) ?_⟩;rw [l];exact (rel.val k).getD rd
 ·subst ey;cases (show u=Value.ref b from ry);obtain ⟨z,hd,xs,rel,dd⟩:=AI I.hok e;refine call_meetsIn PySem.F.slot_dict_get dd.typeIs PySem.F.entry_dict_get (PySem.F.args_dict_get_3 _ _ _) (meetsH_dict_get_default (tupleKind (fX X.prog X.w)) a b hd r) ⟨tupleKind_room_in1 hu,k,xs,vF I.hok eb,dd,h _ _ (I.tok _) ?_⟩;rw [l];exact (rel.val k).getD rd
end
def OZ(td ty tx:TE):TE:=λσ H Q=>td σ H λx H1=>∃a,x=.ref a/\IsD H1 a/\ty σ H1 λy H2=>tx σ H2 λz H3=>∃o,oS H3 a y o/\Q (o.getD z) H3
section
variable{X:Cx}{o e f:Expr}{apos cpos:Pos}{td ty tx:TE}
def RC(hu:X.A.units+1<cLine)(ho:PE X o td)(he:PE X e ty)(hf:PE X f tx)(m:M2 X o "get" apos e f cpos):PE X (.Call (.Attribute o "get" apos) [e,f] [] cpos) (OZ td ty tx):=by
 intro pins s σ H Q I h;refine wpAny_Call_method m.base m.few m.line PySem.F.plainAttrs_dict PySem.F.slot_dict_get PySem.F.type_dict_get (thn (ho pins s σ H _ I h) λu s1 ⟨x,H1,I1,rx,a,ex,d,q1⟩=>?_);subst ex;obtain rfl:u=Value.ref a:=rx;obtain ⟨t1,t2,_⟩:=aBx I1 d;refine ⟨t1,t2,?_⟩;rw [m.trees];refine Calls.callWith_builtin rfl (Calls.evalArgs_plain (Calls.spliced_cons (thn (he pins s1 σ H1 _ I1 q1) λiv s2 ⟨y,H2,I2,ry,q2⟩ =>
  Calls.spliced_cons (thn (hf pins s2 σ H2 _ I2 q2) λfv s3 ⟨z,H3,I3,rz,ov,g,q3⟩=>Calls.spliced_nil ?_))))
 exact aBG hu I3 g ry rz λw' s4 I4 rw'=>⟨_,H3,I4,rw',q3⟩
end
section
variable{X:Cx}{pins:Ad}{σ:St}{H:Hp}{s:Shared}{a:Addr}{kvs:List (fE × V)}{A:Around}{E:Value->Shared->Prop}
end
section
variable{X:Cx}{pins:Ad}{σ:St}{H:Hp}{s:Shared}{a:Addr}{y:V}{u:Value}{A:Around}{E:Value->Shared->Prop}
end
section
variable{κ:Type}[DecidableEq κ]
def OS{kvs:List (κ × V)}{k:κ}(h:fQ kvs k=none):¬k∈kvs.map (·.1):=by
 intro m;obtain ⟨p,hp,e⟩:=aX.mp m;have q:(kvs.any λkv=>decide (kv.1=k))=true:=List.any_eq_true.mpr ⟨p,hp,cL e⟩;rw [lC,h] at q;exact absurd q (by simp)
def UP{kvs:List (κ × V)}{k:κ}{v:V}(h:fQ kvs k=some v):k∈kvs.map (·.1):=by
 have q:(kvs.any λkv=>decide (kv.1=k))=true:=by
  rw [lC,h]
  all_goals rfl
 obtain ⟨p,hp,e⟩:=List.any_eq_true.mp q;exact aX.mpr ⟨p,hp,of_decide_eq_true e⟩
end
abbrev bits(i:Int):Nat:=Builtin.Int.intBits i
def UA(i j:Int):Prop:=0<j/\bits j<=9000
def vY{j:Int}{n:Nat}(h:bits j<=n)(hn:0<n):j.natAbs.log2<n:=by
 unfold bits Builtin.Int.intBits at h;by_cases hj:(j == 0)=true
 ·have:j=0:=by simpa using hj
  subst this;exact bC (by decide +kernel:(0:Int).natAbs.log2<=0) hn
 ·rw [if_neg hj] at h;exact Oo
section
variable{X:Cx}
def fU:uG X (binaryOp .FloorDiv) (rI UA λi j=>.int (i/j)):=opI λi j _ _ _ _ _ hc q=>by
 refine floordiv_int (by have:=hc.1;exact Oo) ?_ (.inl (PyProof.noPylong_of_log2 (vY hc.2 Dd)));rw [Int.fdiv_eq_ediv_of_nonneg i (by have:=hc.1;exact Oo)];exact q
def dU:uG X (binaryOp .Mult) (rI IntMulOk λi j=>.int (i*j)):=opI λ_ _ _ _ _ _ _ hc q=>mul_int q hc
end
mutual
def cE(H:Hp):PyData->V->Prop
 | .none,v=>v=.non
 | .bool b,v=>v=.bl b
 | .int i,v=>v=.int i
 | .str x,v=>v=.str x
 | .list ds,v=>∃a xs,v=.ref a/\H a=some (.lst xs)/\aQ H ds xs
 | .tuple ds,v=>∃a xs,v=.ref a/\H a=some (.tup xs)/\aQ H ds xs
 | .dict kvs,v=>kvs=[]/\∃a,v=.ref a/\H a=some (.dK [])
def aQ(H:Hp):List PyData->Al->Prop
 | [],vs=>vs=[]
 | d::ds,vs=>∃x xs,vs=x::xs/\cE H d x/\aQ H ds xs
end
mutual
theorem cE.same{H H':Hp}(e:aU H H'):∀{d:PyData}{v:V},cE H d v->cE H' d v
 | .none,_,h=>h
 | .bool _,_,h=>h
 | .int _,_,h=>h
 | .str _,_,h=>h
 | .list ds,_,h=>by
  unfold cE at h ⊢;obtain ⟨a,xs,rfl,h1,h2⟩:=h;exact ⟨a,xs,rfl,e _ _ h1,aQ.same e h2⟩
 | .tuple ds,_,h=>by
  unfold cE at h ⊢;obtain ⟨a,xs,rfl,h1,h2⟩:=h;exact ⟨a,xs,rfl,e _ _ h1,aQ.same e h2⟩
 | .dict kvs,_,h=>by
  unfold cE at h ⊢;obtain ⟨h0,a,rfl,h1⟩:=h;exact ⟨h0,a,rfl,e _ _ h1⟩
theorem aQ.same{H H':Hp}(e:aU H H'):∀{ds:List PyData}{vs:Al},aQ H ds vs->aQ H' ds vs
 | [],_,h=>h
 | d::ds,_,h=>by
  unfold aQ at h ⊢;obtain ⟨x,xs,rfl,h1,h2⟩:=h;exact ⟨x,xs,rfl,cE.same e h1,aQ.same e h2⟩
end
theorem cE.tup{H:Hp}{a:Addr}{xs:Al}{ds:List PyData}(h:H a=some (.tup xs))(r:aQ H ds xs):cE H (.tuple ds) (.ref a):=by
 unfold cE;exact ⟨a,xs,rfl,h,r⟩
theorem cE.lst{H:Hp}{a:Addr}{xs:Al}{ds:List PyData}(h:H a=some (.lst xs))(r:aQ H ds xs):cE H (.list ds) (.ref a):=by
 unfold cE;exact ⟨a,xs,rfl,h,r⟩
theorem cE.int{H:Hp}(i:Int):cE H (.int i) (.int i):=by unfold cE;rfl
theorem cE.str{H:Hp}(i:Str):cE H (.str i) (.str i):=by unfold cE;rfl
def aQ.nil{H:Hp}:aQ H [] []:=by unfold aQ;rfl
def aQ.cons{H:Hp}{d:PyData}{ds:List PyData}{x:V}{xs:Al}(h:cE H d x)(hs:aQ H ds xs):aQ H (d::ds) (x::xs):=by
 unfold aQ;exact ⟨x,xs,rfl,h,hs⟩
section
variable{X:Cx}{pins:Ad}{σ:St}{H:Hp}{s:Shared}
mutual
theorem cE.reads(I:cI X pins σ H s):∀{d:PyData}{v:V}{u:Value},cE H d v->dN v u->∃as,Reads s.heap u d as
 | .none,_,u,h,r=>by
  cases (show _=V.non from h);cases (show u=Value.none from r);exact ⟨_,.none⟩
 | .bool b,_,u,h,r=>by
  cases (show _=V.bl b from h);cases (show u=Value.bool b from r);exact ⟨_,.bool b⟩
 | .int b,_,u,h,r=>by
  cases (show _=V.int b from h);obtain ⟨t,q⟩:=(show ∃t,u=Value.int b t from r);cases q;exact ⟨_,.int b t⟩
 | .str b,_,u,h,r=>by
  cases (show _=V.str b from h);obtain ⟨t,q⟩:=(show ∃t,u=Value.str b t from r);cases q;exact ⟨_,.str b t⟩
 | .list ds,v,u,h,r=>by
  unfold cE at h;obtain ⟨a,xs,rfl,h1,h2⟩:=h;cases (show u=Value.ref a from r);obtain ⟨_,its,n,r',e⟩:=(show fH X.prog X.w H s.heap a (.lst xs) from I.hok a _ h1);obtain ⟨as,q⟩:=aQ.reads I h2 r';exact ⟨_,.list e rfl rfl (by simpa using q)⟩
 | .tuple ds,v,u,h,r=>by
  unfold cE at h;obtain ⟨a,xs,rfl,h1,h2⟩:=h;cases (show u=Value.ref a from r);obtain ⟨_,its,r',o,e,hc,n,hd⟩:=(show fH X.prog X.w H s.heap a (.tup xs) from I.hok a _ h1);obtain ⟨as,q⟩:=aQ.reads I h2 r';exact ⟨_,.tuple e hc hd (by simpa using q)⟩
 | .dict kvs,v,u,h,r=>by
  unfold cE at h;obtain ⟨rfl,a,rfl,h1⟩:=h;cases (show u=Value.ref a from r);obtain ⟨_,_,vs,kv,o,es,ep,e,hx,hd,_,hes,_⟩:=(show fH X.prog X.w H s.heap a (.dK []) from I.hok a _ h1);cases kv;have he:es.toList=[]:=by
   cases q:es.toList with
   | nil=>rfl
   | cons y ys=>rw [q] at hes;cases hes
  exact ⟨_,.dict e hx.1 hd (by rw [he];exact .nil) (by rw [he];exact .nil)⟩
theorem aQ.reads(I:cI X pins σ H s):∀{ds:List PyData}{vs:Al}{us:Ag},aQ H ds vs->dF vs us->∃as,ReadsAll s.heap us ds as
 | [],_,us,h,r=>by
  cases (show _=[] from h);cases r;exact ⟨_,.nil⟩
 | d::ds,_,us,h,r=>by
  unfold aQ at h;obtain ⟨x,xs,rfl,h1,h2⟩:=h;cases r with
  | cons r1 r2 =>
   obtain ⟨as,q1⟩:=cE.reads I h1 r1;obtain ⟨bs,q2⟩:=aQ.reads I h2 r2;exact ⟨_,.cons q1 q2⟩
end
end
section
variable{X:Cx}
def NN(hg:X.A.guards=some [])(hu:X.A.units+64<cLine):iA X (.builtin "repr") (λxs H Q=>∃x d,xs=[x]/\cE H d x/\d.showable=true/\d.hasDict=false/\d.depth<=60/\d.shown.length<=sizeLine/\Q (.str d.shown) H):=by
 intro pins s σ H xs us Q I r h;obtain ⟨x,d,rfl,hr,hs,hnd,hdp,hz,q⟩:=h;obtain ⟨u,rfl,ru⟩:=kD r;obtain ⟨as,rd⟩:=hr.reads I ru;cases rd with
 | none=>exact PySem.P.repr_of_none ⟨.str _,H,I.tok _,⟨_,rfl⟩,q⟩
 | bool b=>exact PySem.P.repr_of_bool ⟨.str _,H,I.tok _,⟨_,rfl⟩,q⟩
 | int i t=>exact PySem.P.repr_of_int (by simpa [PyData.showable] using hs) ⟨.str _,H,I.tok _,⟨_,rfl⟩,q⟩
 | str y t=>exact PySem.P.repr_of_str ⟨.str _,H,I.tok _,⟨_,rfl⟩,q⟩ hz
 | list a1 a2 a3 a4=>exact repr_of_reads' (.list a1 a2 a3 a4) hs (PyData.noDict_hsm hnd) hg Oo (λ_ _ e=>e) (λh' u tk hk=>⟨.str _,H,I.kept hk,⟨_,rfl⟩,q⟩) hz
 | tuple a1 a2 a3 a4=>exact repr_of_reads' (.tuple a1 a2 a3 a4) hs (PyData.noDict_hsm hnd) hg Oo (λ_ _ e=>e) (λh' u tk hk=>⟨.str _,H,I.kept hk,⟨_,rfl⟩,q⟩) hz
 | dict a1 a2 a3 a4 a5=>simp [PyData.hasDict] at hnd
end
def tyD:PyData->String
 | .none => "NoneType"
 | .bool _ => "bool"
 | .int _ => "int"
 | .str _ => "str"
 | .list _ => "list"
 | .tuple _ => "tuple"
 | .dict _ => "dict"
def isD(T:String)(d:PyData):Bool:=tyD d == T || (T == "int" && tyD d == "bool")
def aBq : ∀ T ∈ ["int", "bool", "tuple", "str", "list", "dict"], ∀ S ∈ ["NoneType", "bool", "int", "str", "list", "tuple", "dict"],
      PySem.W.kitOne [] (.type S) (.type T)=some (S == T || (T == "int" && S == "bool")):=Kk
def XF(K:Aa)(S T:String):PySem.W.kitOne K (.type S) (.type T)=PySem.W.kitOne [] (.type S) (.type T):=rfl
def aCU(K:Aa)(d:PyData)(T:String)(hT:T = "int" \/ T = "bool" \/ T = "tuple" \/ T = "str" \/ T = "list" \/ T = "dict"):PySem.W.kitOne K (.type (tyD d)) (.type T)=some (isD T d):=by
 rw [XF];refine aBq T ?_ (tyD d) ?_
 ·rcases hT with rfl | rfl | rfl | rfl | rfl | rfl <;> decide
 ·cases d <;> simp [tyD]
section
variable{X:Cx}
end
structure gR(CX:NZ)(P:Program)(w:World)(K:Aa)(mg:Str->Option Value)(base:Heap)(k:Nat)(x:Str)(ps:Ah)(sp:Sp):Prop where
 ex:∃(f:Addr) (fd:FuncData),eC P w K mg base CX k f fd ps sp/\mg x=some (.ref f)/\PySem.W.keepIn K (.ref f)=true/\qW K fd ps []
section
variable{X:Cx}{k:Nat}{ps:Ah}{sp:Sp}{x:Str}{p pos:Pos}{e:Expr}{es:List Expr}{t:TA}
def aCL(F:gR dR X.prog X.w X.K X.mg X.base k x ps sp)(hr:iO k X.A)(ha:PA X (e::es) t)(hg:Gl X x:=by rfl)
  (hdb:(x == ("__debug__" : Str))=false:=by decide) (he:starEach (e::es) X.env=(false,eval e X.env)::starEach es X.env:=by rfl) (hpl:(backTo pos (starEach es X.env)).any (·.1)=false:=by rfl) :
  PE X (.Call (.Name x p) (e::es) [] pos) (PC sp [] E0 t):=by
 obtain ⟨f,fd,h1,h2,h3,h4⟩:=F.ex;exact WU h1 hr hg h2 h3 h4 .nil ZL ha hdb he hpl
end
section
variable{K:Aa}{H:Hp}{p:Addr}{xs:Al}{i:Int}{v:V}{Q:VK}
def FR(h:H p=some (.lst xs))(e:yT xs i=some v)(q:Q v H):rIx K (.ref p) (.int i) H Q:=.inl ⟨p,xs,i,v,rfl,rfl,fI.of h,e,q⟩
def jS(h:H p=some (.tup xs))(e:yT xs i=some v)(q:Q v H):rIx K (.ref p) (.int i) H Q:=.inr (.inl ⟨p,xs,i,v,rfl,rfl,iJ.of h,e,q⟩)
def stL{u:V}{Q:Hp->Prop}{j:Nat}(h:H p=some (.lst xs))(e:OA xs.length i=some j)(q:Q (upd H p (.lst (xs.set j u)))):QP (.ref p) (.int i) u H Q:=⟨p,xs,i,j,rfl,rfl,h,e,q⟩
end
def iV(p:Addr)(H:Hp):Hp:=λb=>if b=p then none else H b
def iV.at{p b:Addr}{H:Hp}(h:b≠p):iV p H b=H b:=by unfold iV;rw [if_neg h]
def iV.self{p:Addr}{H:Hp}:iV p H p=none:=by unfold iV;rw [if_pos rfl]
def iV.same{p:Addr}{H:Hp}:aU (iV p H) H:=λb o h=>by
 unfold iV at h;by_cases e:b=p
 ·rw [if_pos e] at h;cases h
 ·rw [if_neg e] at h;exact h
def iV.ne{p b:Addr}{H:Hp}{o:HO}(h:iV p H b=some o):b≠p:=λe=>by
 subst e;rw [iV.self] at h;cases h
def iV.of{p b:Addr}{H:Hp}{o:HO}(n:b≠p)(h:H b=some o):iV p H b=some o:=by rw [iV.at n];exact h
def iV.upd_self{p:Addr}{H:Hp}{o:HO}:iV p (upd H p o)=iV p H:=by
 funext b
 by_cases e:b=p
 ·subst e;rw [iV.self,iV.self]
 ·rw [iV.at e,iV.at e,L2.dC e]
abbrev aR(p:Addr)(H H':Hp):Prop:=aU (iV p H) (iV p H')
def aU.but{p:Addr}{H H':Hp}(h:aU H H'):aR p H H':=λb o e=>by
 have n:=iV.ne e;exact iV.of n (h _ _ (iV.same _ _ e))
theorem aU.upd{H:Hp}{q:Addr}{o:HO}(h:H q=none):aU H (upd H q o):=λb u e=>by
 rw [L2.dC (dE e h)];exact e
def aR.self{p:Addr}{H:Hp}{o:HO}:aR p H (upd H p o):=by unfold aR;rw [iV.upd_self];exact aU.refl _
def aR.free{p q:Addr}{H H':Hp}(e:aR p H H')(hp:∃o,H' p=some o)(h:H' q=none):H q=none:=by
 cases k:H q with
 | none=>rfl
 | some o =>
  by_cases n:q=p
  ·subst n;obtain ⟨o',h'⟩:=hp;rw [h'] at h;cases h
  ·have:=iV.same _ _ (e q o (iV.of n k));rw [this] at h;cases h
section
variable{K:Aa}{H:Hp}{p:Addr}{xs:Al}{i:Int}{v:V}{Q:VK}
def stG{u:V}{Q:Hp->Prop}{j:Nat}(h:H p=some (.lst xs))(e:OA xs.length i=some j)(k:∀H',H' p=some (.lst (xs.set j u))->aR p H H'->Q H'):QP (.ref p) (.int i) u H Q :=
 stL h e (k _ bO aR.self)
def alT{Q:V->Hp->Prop}(hz:xs.length<=sizeLine)(k:∀q H',H q=none->H' q=some (.tup xs)->aU H H'->Q (.ref q) H'):xs.length<=sizeLine/\∀p,H p=none->Q (.ref p) (upd H p (.tup xs)) :=
 ⟨hz,λq hq=>k q _ hq bO (aU.upd hq)⟩
def alL{Q:V->Hp->Prop}(hz:xs.length<=sizeLine)(k:∀q H',H q=none->H' q=some (.lst xs)->aU H H'->Q (.ref q) H'):xs.length<=sizeLine/\∀p,H p=none->Q (.ref p) (upd H p (.lst xs)) :=
 ⟨hz,λq hq=>k q _ hq bO (aU.upd hq)⟩
def aR.at{p b:Addr}{H H':Hp}{o:HO}(s:aR p H H')(n:b≠p)(h:H b=some o):H' b=some o:=iV.same _ _ (s _ _ (iV.of n h))
end
def tL{n:Nat}(h:n<=64):n<=sizeLine:=aM h Dd
def sI{c A B:Prop}[Decidable c](h1:c->A)(h2:¬c->B):if decide c=true then A else B :=
 aCW (λh=>h1 (of_decide_eq_true h)) (λh=>h2 (λk=>h (cL k)))
def aCV{c A B:Prop}[Decidable c](h1:¬c->A)(h2:c->B):if (!decide c)=true then A else B :=
 aCW (λh=>h1 (λk=>by rw [cL k] at h;exact absurd h Dd)) (λh=>h2 (Decidable.of_not_not λk=>h (by rw [cJ k];rfl)))
def rS(c:TT):TT:=λσ H Q=>∃Q':Bool->Hp->Prop,c σ H Q'/\∀b H1,Q' b H1->Q b H1
def PT.mono{X:Cx}{e:Expr}{c:TT}(h:PT X e c):PT X e (rS c):=λpins s σ H Q I ⟨Q',h1,h2⟩ =>
 thn (h pins s σ H Q' I h1) λb s' ⟨H',I',q⟩=>⟨H',I',h2 _ _ q⟩
def MQ{X:Cx}{pos:Pos}{c:Expr}{body:List Stmt}{tc:TT}{tb:TS}(hp:PassesOwn (model X.prog X.w) X.A X.env X.xe)(hc:PT X c tc)(hb:IU X body tb):PS X (.While c body [] pos) (BK (rS tc) tb) :=
 QU hp hc.mono hb
@[irreducible] def MP(K:Aa):Al->Hp->VK->Prop:=λxs H Q=>∃x n,xs=[x]/\aDc K x H n/\Q (.int n) H
@[irreducible] def WB:Al->Hp->VK->Prop:=λxs H Q=>∃i,xs=[.int i]/\Q (.int (i.natAbs:Int)) H
@[irreducible] def EY:Al->Hp->VK->Prop:=λxs H Q=>∃x d,xs=[x]/\cE H d x/\d.showable=true/\d.hasDict=false/\d.depth<=60/\d.shown.length<=sizeLine/\Q (.str d.shown) H
section
variable{X:Cx}{K:Aa}{H:Hp}{p:Addr}{xs:Al}{Q:VK}
def gG:iA X (.builtin "len") (MP X.K):=by unfold MP;exact SY
def aBJ:iA X (.builtin "abs") WB:=by
 unfold WB;exact λpins s σ H xs us Q I r ⟨i,e,q⟩=>SZ pins s σ H xs us Q I r ⟨i,e,by
 have:(if i<0 then -i else i)=(i.natAbs:Int):=by split <;> omega
 rw [this];exact q⟩
def tZ(hg:X.A.guards=some [])(hu:X.A.units+64<cLine):iA X (.builtin "repr") EY:=by unfold EY;exact NN hg hu
def QH(h:H p=some (.lst xs))(q:Q (.int xs.length) H):MP K [V.ref p] H Q:=by unfold MP;exact ⟨_,_,rfl,.inl ⟨xs,fI.of h,rfl⟩,q⟩
def ML(h:H p=some (.tup xs))(q:Q (.int xs.length) H):MP K [V.ref p] H Q:=by unfold MP;exact ⟨_,_,rfl,.inr ⟨xs,iJ.of h,rfl⟩,q⟩
def raI{i:Int}(q:Q (.int (i.natAbs:Int)) H):WB [V.int i] H Q:=by unfold WB;exact ⟨i,rfl,q⟩
def rrI{x:V}{d:PyData}(r:cE H d x)(h1:d.showable=true)(h2:d.hasDict=false)(h3:d.depth<=60)(h4:d.shown.length<=sizeLine)(q:Q (.str d.shown) H):EY [x] H Q:=by unfold EY;exact ⟨x,d,rfl,r,h1,h2,h3,h4,q⟩
end
def wK{c:TT}{tb:TS}{D:uI}{σ:St}{H:Hp}(W:Nat->St->Hp->Prop)(R:St->Hp->Prop)(m:Nat)(h0:W m σ H)
  (hs:∀m σ H,W m σ H->c σ H λb H1=>if b=true then tb { D with nx:=λσ' H'=>∃m',m' < m/\W m' σ' H',ct:=λσ' H'=>∃m',m' < m/\W m' σ' H',bk:=D.nx } σ H1 else R σ H1)
  (hd:∀σ H,R σ H->D.nx σ H):BK (rS c) tb D σ H :=
 ⟨W,⟨m,h0⟩,λm σ H hw=>⟨_,hs m σ H hw,λb H1 q=>by
  by_cases hb:b=true
  ·rw [if_pos hb] at q ⊢;exact ⟨_,λ_ _ h=>h,q⟩
  ·rw [if_neg hb] at q ⊢;exact hd _ _ q⟩⟩
def aCo(t:TS):TS:=λD σ H=>∃R:St->Hp->Prop,(∀σ' H',R σ' H'->D.nx σ' H')/\t { D with nx:=R } σ H
def aA8{X:Cx}{st:Stmt}{t:TS}(h:PS X st t):PS X st (aCo t):=λpins s σ H D I ⟨R,hR,q⟩ =>
 thn (h pins s σ H _ I q) λf s' z=>by
  cases f with
  | next=>obtain ⟨σ',H',I',r⟩:=z;exact ⟨σ',H',I',hR _ _ r⟩
  | brk=>exact z
  | cont=>exact z
  | ret u=>exact z
section
variable{es:List Expr}{env:Env}
def jL{a b c d}:starEach (.BinOp a b c d::es) env=(false,eval (.BinOp a b c d) env)::starEach es env:=by rw [starEach] <;> (intros;contradiction)
def gA{a b c d}:starEach (.ListComp a b c d::es) env=(false,eval (.ListComp a b c d) env)::starEach es env:=by rw [starEach] <;> (intros;contradiction)
def gT{a b c d}:starEach (.Compare a b c d::es) env=(false,eval (.Compare a b c d) env)::starEach es env:=by rw [starEach] <;> (intros;contradiction)
def gM{a b c d}:starEach (.Call a b c d::es) env=(false,eval (.Call a b c d) env)::starEach es env:=by rw [starEach] <;> (intros;contradiction)
def gB{a b c}:starEach (.Constant a b c::es) env=(false,eval (.Constant a b c) env)::starEach es env:=by rw [starEach] <;> (intros;contradiction)
def eQ{a b c}:starEach (.Attribute a b c::es) env=(false,eval (.Attribute a b c) env)::starEach es env:=by rw [starEach] <;> (intros;contradiction)
def dL{a b c}:starEach (.Subscript a b c::es) env=(false,eval (.Subscript a b c) env)::starEach es env:=by rw [starEach] <;> (intros;contradiction)
def gX{a b}:starEach (.Name a b::es) env=(false,eval (.Name a b) env)::starEach es env:=by rw [starEach] <;> (intros;contradiction)
def jK{a b c}:starEach (.Tuple a b c::es) env=(false,eval (.Tuple a b c) env)::starEach es env:=by rw [starEach] <;> (intros;contradiction)
end
section
variable{X:Cx}{k:Nat}{ps:Ah}{sp:Sp}{x:Str}{p pos:Pos}{e:Expr}{es:List Expr}{te:TE}{t:TA}{id T:String}{r:Al->Hp->VK->Prop}
def yM{env:Env}:(backTo pos (starEach [] env)).any (·.1)=false:=rfl
def uC{env:Env}(hs:starEach (e::es) env=(false,eval e env)::starEach es env)(h:(backTo pos (starEach es env)).any (·.1)=false):(backTo pos (starEach (e::es) env)).any (·.1)=false:=by
 rw [hs];show (false || (backTo pos (starEach es env)).any (·.1))=false;rw [h];rfl
end
structure iN(X:Cx)(e:Expr)(t:TE):Prop where p:PE X e t
structure IS(X:Cx)(e:Expr)(t:TT):Prop where p:PT X e t
structure PWw(X:Cx)(e:Expr)(t:TT):Prop where p:PW X e t
structure IV(X:Cx)(es:List Expr)(t:TA):Prop where p:PA X es t
structure GQ(X:Cx)(st:Stmt)(t:TS):Prop where p:PS X st t
structure zI(X:Cx)(st:List Stmt)(t:TS):Prop where p:IU X st t
structure ZY(X:Cx)(e:Expr)(t:TG):Prop where p:PG X e t
structure YQ(X:Cx)(es:List Expr)(t:TV):Prop where p:PGs X es t
structure TW(X:Cx)(tg iter:Expr)(t:TI):Prop where p:PI X tg iter t
structure POw(X:Cx)(e:Option Expr)(t:TO):Prop where p:PO X e t
@[irreducible] def JR(xs:Al)(H:Hp)(Q:VK):Prop:=xs.length<=sizeLine/\∀p,H p=none->Q (.ref p) (upd H p (.tup xs))
@[irreducible] def JS(xs:Al)(H:Hp)(Q:VK):Prop:=xs.length<=sizeLine/\∀p,H p=none->Q (.ref p) (upd H p (.lst xs))
def nZ{xs:Al}{H:Hp}{Q:VK}(hz:xs.length<=64)(k:∀q H',H q=none->H' q=some (.tup xs)->aU H H'->Q (.ref q) H'):JR xs H Q:=by unfold JR;exact alT (tL hz) k
def CI{xs:Al}{H:Hp}{Q:VK}(hz:xs.length<=64)(k:∀q H',H q=none->H' q=some (.lst xs)->aU H H'->Q (.ref q) H'):JS xs H Q:=by unfold JS;exact alL (tL hz) k
def tTu(t:TA):TE:=λσ H Q=>t σ H λxs H1=>JR xs H1 Q
def tLs(t:TA):TE:=λσ H Q=>t σ H λxs H1=>JS xs H1 Q
section
variable{X:Cx}{a b c e o tg:Expr}{es rest:List Expr}{ta tb tc te to:TE}{tA tB':TT}{t:TA}{pos p p2:Pos}{st:Stmt}{sts body orelse:List Stmt}{ts us:TS}{x:Str}{r r':R2}{id T:String}{rl:Al->Hp->VK->Prop}{k i j:Nat}{ps:Ah}{sp:Sp}{n:Nat}
def aD(i:Nat){x:Str}{pos:Pos}(hN:X.N[i]?=some x:=by rfl)(hv:Vis X.env.scope x:=by first | exact Or.inl rfl | exact Or.inr (Or.inl rfl) | exact Or.inr (Or.inr rfl))(hd:(x == ("__debug__" : Str))=false:=by decide)
  (hcd:(x == ("__classdict__" : Str))=false:=by decide):iN X (.Name x pos) (aAi i):=⟨pv i hN hv hd hcd⟩
def aK{i j pos}:iN X (.Constant (.int i) j pos) (tC (.int i)):=⟨pe_int⟩
def rQ{b j pos}:iN X (.Constant (.bool b) j pos) (tC (.bl b)):=⟨pe_bl⟩
def iC{x j pos}:iN X (.Constant (.str x) j pos) (tC (.str x)):=⟨pe_str⟩
def sR{v:V}{u:Value}(hg:Gl X x)(hm:X.mg x=some u)(r:dN v u)(hd:(x == ("__debug__" : Str))=false:=by decide):iN X (.Name x pos) (tC v):=⟨WP hg hm r hd⟩
def JD{v:V}{u:Value}(hg:Gl X x)(hm:X.mg x=none)(hv:bootBuiltins x=some u)(r:dN v u)(hn:x ≠ "__name__" := by decide)(hd:(x == ("__debug__" : Str))=false:=by decide):iN X (.Name x pos) (tC v):=⟨WV hg hm hv r hn hd⟩
def bX{op:Operator}(ho:uG X (binaryOp op) r)(ha:iN X a ta)(hb:iN X b tb):iN X (.BinOp a op b pos) (US r ta tb):=⟨aCJ ho ha.p hb.p⟩
def YX{op:UnaryOp}{r:V->Hp->VK->Prop}(ho:UnR X (unaryOp op) r)(ha:iN X a ta):iN X (.UnaryOp op a pos) (tUn r ta):=⟨aCI ho ha.p⟩
def BF{op:CmpOp}(ho:uG X (compareOp op) r)(ha:iN X a ta)(hb:iN X b tb)(hm:behindInMarks op b=false):iN X (.Compare a [op] [b] pos) (US r ta tb):=⟨WT ho ha.p hb.p hm⟩
def eO{op:CmpOp}(ho:uG X (compareOp op) r)(ha:iN X a ta)(hb:iN X b tb)(hm:behindInMarks op b=false):IS X (.Compare a [op] [b] pos) (YY (US r ta tb)):=⟨WE ho ha.p hb.p hm⟩
def sB(h:iN X e te)(he:∀whole,isTrue e X.env whole=(do let v <-whole;standAt e.pos;holding [v] (truthy v)):=by intro _;rfl):IS X e (tB te):=⟨aA1 h.p he⟩
def wI(ha:IS X a tA):PWw X (.BoolOp .And [a] pos) tA:=⟨WC ha.p⟩
def BA(ha:IS X a tA):PWw X (.BoolOp .Or [a] pos) tA:=⟨aAZ ha.p⟩
def BB(ha:IS X a tA)(hb:PWw X (.BoolOp .And (b::rest) pos) tB'):PWw X (.BoolOp .And (a::b::rest) pos) (aCp tA tB'):=⟨aA0 ha.p hb.p⟩
def DY(ha:IS X a tA)(hb:PWw X (.BoolOp .Or (b::rest) pos) tB'):PWw X (.BoolOp .Or (a::b::rest) pos) (tOr tA tB'):=⟨aCF ha.p hb.p⟩
def DZ(h:PWw X e tA):IS X e tA:=⟨h.p.pt⟩
def BD(ha:IS X a tA):IS X (.UnaryOp .Not a pos) (aCj tA):=⟨aA2 ha.p⟩
def ED(hc:IS X c tA)(ha:iN X a ta)(hb:iN X b tb):iN X (.IfExp c a b pos) (tIf tA ta tb):=⟨RB hc.p ha.p hb.p⟩
def aE:IV X [] aCk:=⟨pa_nil⟩
def aJ(ha:iN X e te)(hr:IV X es t)(hs:starEach (e::es) X.env=(false,eval e X.env)::starEach es X.env:=by first | exact gX | exact gB | exact se_BoolOp | exact jL | exact se_UnaryOp | exact se_IfExp | exact se_Dict | exact gA | exact gT | exact gM | exact eQ | exact dL | exact se_List | exact jK | exact se_JoinedStr | exact se_GeneratorExp):IV X (e::es) (ZH te t):=⟨WW ha.p hr.p hs⟩
def dI{x1}(h:IV X es t):iN X (.Tuple es x1 pos) (tTu t):=⟨by unfold tTu JR;exact aBg h.p⟩
def iD(h:IV X es t):iN X (.List es pos) (tLs t):=⟨by unfold tLs JS;exact aBh h.p⟩
def mJ:iN X (.Dict [] [] pos) OY:=⟨pe_dnewT⟩
def bP(hr:TY X r)(ha:iN X a ta)(hb:iN X b tb)(hs:LL b):iN X (.Subscript a b pos) (US r ta tb):=⟨aCK hr ha.p hb.p hs⟩
def lA:POw X none JG:=⟨po_none⟩
def kZ(h:iN X e te):POw X (some e) (YZ te):=⟨WJ h.p⟩
def jG{lo hi:Option Expr}{tl th:TO}{r:V->Option Int->Option Int->Hp->VK->Prop}(hr:SlR X r)(he:iN X e te)(hl:POw X lo tl)(hu:POw X hi th):iN X (.Subscript e (.Slice lo hi none p2) pos) (tSl r te tl th):=⟨RA hr he.p hl.p hu.p⟩
def bV(F:gR dR X.prog X.w X.K X.mg X.base k x ps sp)(hr:iO k X.A)(ha:IV X (e::es) t)(hg:Gl X x:=by rfl)
  (hdb:(x == ("__debug__" : Str))=false:=by decide) (he:starEach (e::es) X.env=(false,eval e X.env)::starEach es X.env:=by first | exact gX | exact gB | exact se_BoolOp | exact jL | exact se_UnaryOp | exact se_IfExp | exact se_Dict | exact gA | exact gT | exact gM | exact eQ | exact dL | exact se_List | exact jK | exact se_JoinedStr | exact se_GeneratorExp)
  (hpl:(backTo pos (starEach es X.env)).any (·.1)=false:=by repeat (first | exact yM | refine uC (by first | exact gX | exact gB | exact se_BoolOp | exact jL | exact se_UnaryOp | exact se_IfExp | exact se_Dict | exact gA | exact gT | exact gM | exact eQ | exact dL | exact se_List | exact jK | exact se_JoinedStr | exact se_GeneratorExp) ?_)) :
  iN X (.Call (.Name x p) (e::es) [] pos) (PC sp [] E0 t):=⟨aCL F hr ha.p hg hdb he hpl⟩
def dX(hc:iA X (.builtin id) rl)(hg:Gl X x)(hm:X.mg x=none)(hv:bootBuiltins x=some (.builtin id))(ha:IV X (e::es) t)(hn:x ≠ "__name__" := by decide)(hdb:(x == ("__debug__" : Str))=false:=by decide)
  (he:starEach (e::es) X.env=(false,eval e X.env)::starEach es X.env:=by first | exact gX | exact gB | exact se_BoolOp | exact jL | exact se_UnaryOp | exact se_IfExp | exact se_Dict | exact gA | exact gT | exact gM | exact eQ | exact dL | exact se_List | exact jK | exact se_JoinedStr | exact se_GeneratorExp) (hpl:(backTo pos (starEach es X.env)).any (·.1)=false:=by repeat (first | exact yM | refine uC (by first | exact gX | exact gB | exact se_BoolOp | exact jL | exact se_UnaryOp | exact se_IfExp | exact se_Dict | exact gA | exact gT | exact gM | exact eQ | exact dL | exact se_List | exact jK | exact se_JoinedStr | exact se_GeneratorExp) ?_)):iN X (.Call (.Name x p) (e::es) [] pos) (tCB rl t) :=
 ⟨RE hc hg hm hv ha.p hn hdb he hpl⟩
def pK(hc:iA X (.type T) rl)(hg:Gl X x)(hm:X.mg x=none)(hv:bootBuiltins x=some (.type T))(ha:IV X (e::es) t)(hn:x ≠ "__name__" := by decide)(hdb:(x == ("__debug__" : Str))=false:=by decide)
  (he:starEach (e::es) X.env=(false,eval e X.env)::starEach es X.env:=by first | exact gX | exact gB | exact se_BoolOp | exact jL | exact se_UnaryOp | exact se_IfExp | exact se_Dict | exact gA | exact gT | exact gM | exact eQ | exact dL | exact se_List | exact jK | exact se_JoinedStr | exact se_GeneratorExp) (hpl:(backTo pos (starEach es X.env)).any (·.1)=false:=by repeat (first | exact yM | refine uC (by first | exact gX | exact gB | exact se_BoolOp | exact jL | exact se_UnaryOp | exact se_IfExp | exact se_Dict | exact gA | exact gT | exact gM | exact eQ | exact dL | exact se_List | exact jK | exact se_JoinedStr | exact se_GeneratorExp) ?_)):iN X (.Call (.Name x p) (e::es) [] pos) (tCB rl t) :=
 ⟨MT hc hg hm hv ha.p hn hdb he hpl⟩
def nJ{name:Str}{apos cpos:Pos}{r:V->Al->Hp->VK->Prop}(pa:PlainAttrs T)(slot:Slot T name id)(hty:typeOf (.builtin id)=pure (.type "method_descriptor"))(hm:MtR X id r)(ho:iN X o to)(ha:IV X (e::es) t)
  (hbase:attributeBase o name X.env (eval o X.env)=eval o X.env:=by rfl)
  (hfew:((backTo cpos (starEach (e::es) X.env)).all (λx=>!x.1)&&(backToKw cpos (keywordEach [] X.env)).all (λx=>x.1.isSome)
   && decide ((e::es).length+([]:List Keyword).length+(if ([]:List Keyword).isEmpty then 0 else 1)<30))=true:=by rfl)
  (hline:(apos.endLine == cpos.line)=true:=by rfl) (hs:starEach (e::es) X.env=(false,eval e X.env)::starEach es X.env:=by first | exact gX | exact gB | exact se_BoolOp | exact jL | exact se_UnaryOp | exact se_IfExp | exact se_Dict | exact gA | exact gT | exact gM | exact eQ | exact dL | exact se_List | exact jK | exact se_JoinedStr | exact se_GeneratorExp) (hplain:(backTo cpos (starEach es X.env)).any (·.1)=false:=by repeat (first | exact yM | refine uC (by first | exact gX | exact gB | exact se_BoolOp | exact jL | exact se_UnaryOp | exact se_IfExp | exact se_Dict | exact gA | exact gT | exact gM | exact eQ | exact dL | exact se_List | exact jK | exact se_JoinedStr | exact se_GeneratorExp) ?_)) :
  iN X (.Call (.Attribute o name apos) (e::es) [] cpos) (tBM X.K T r to t):=⟨aCM pa slot hty hm ho.p ha.p hbase hfew hline hs hplain⟩
def fK:zI X [] ZA:=⟨pss_nil⟩
def aH(h1:GQ X st ts)(h2:zI X sts us):zI X (st::sts) (aCg ts us):=⟨QT h1.p h2.p⟩
def bD(h1:GQ X st ts):zI X [st] ts:=⟨WF h1.p⟩
def jQ(he:iN X e te)(hs:swapsWith e none pos.line X.env=pure false:=by rfl):GQ X (.Expr e pos) (ZE te):=⟨WG he.p hs⟩
def cH(he:iN X e te):GQ X (.Return (some e) pos) (aCh te):=⟨aA4 he.p⟩
def jF{c:Expr}{a b:List Stmt}(hc:IS X c tA)(ha:zI X a ts)(hb:zI X b us):GQ X (.If c a b pos) (aCl tA ts us):=⟨aCG hc.p ha.p hb.p⟩
def GU(h:GQ X st ts):GQ X st (aCo ts):=⟨aA8 h.p⟩
def cX{i:Nat}{x:Str}(hN:X.N.Nodup)(hi:X.N[i]?=some x)(hx:Loc X.env.scope x)(hf:X.fn x=true\/X.env.scope.names.lookup x=some .local:=by first | exact .inl rfl | exact .inr rfl | assumption):ZY X (.Name x pos) (nE i):=⟨WN hN hi hx hf⟩
def oT:YQ X [] aBA:=⟨pgs_nil⟩
def gL{t:TG}{u:TV}(h1:ZY X e t)(h2:YQ X es u)
  (hs:(assignEach (e::es) X.env).map (·.2)=assign e X.env::(assignEach es X.env).map (·.2):=by rfl):YQ X (e::es) (RZ t u):=⟨QZ h1.p h2.p hs⟩
def sC{k:Nat}{t:TV}{n:Nat}(hc:X.calm=true)(h:YQ X es t)
  (hn:(assignEach es X.env).length=n:=by rfl) (hst:(assignEach es X.env).findIdx? (·.1)=none:=by rfl):ZY X (.Tuple es k pos) (aBz X.K n t):=⟨aBd hc h.p hn hst⟩
def aAe{i:Expr}{ti:TE}{t:YN}(ho:iN X o to)(hi:iN X i ti)(hs:aBW X t)
  (ha:∀v,assign (.Subscript o i pos) X.env v=(do
   let ov <-holding [v] (eval o X.env)
   let iv <-holding [v,ov] (eval i X.env)
   standAt pos
   holding [v,ov,iv] (setItem ov iv v)
   release [v,ov,iv] []):=by intro _;rfl):ZY X (.Subscript o i pos) (aCZ to ti t):=⟨aBe ho.p hi.p hs ha⟩
def GV{g:TG}(he:iN X e te)(hg:ZY X tg g)(hs:swapsWithSole [tg] e pos.line X.env=pure false:=by rfl)(hw:swappedStores [tg] e X.env=pure none:=by rfl)(h1:(assignEach [tg] X.env).map (·.2)=[assign tg X.env]:=by rfl):GQ X (.Assign [tg] e pos) (yW te g):=⟨aA9 he.p hg.p hs hw h1⟩
def bN{i:Nat}{pos':Pos}(hN:X.N.Nodup)(hi:X.N[i]?=some x)(hx:Loc X.env.scope x)(he:iN X e te)(hs:swapsWith e (some (.Name x pos')) pos.line X.env=pure false:=by rfl)(hf:X.fn x=true\/X.env.scope.names.lookup x=some .local:=by first | exact .inl rfl | exact .inr rfl | assumption) :
  GQ X (.Assign [.Name x pos'] e pos) (yW te (nE i)):=⟨aA3 hN hi hx he.p hs hf⟩
def aAb{i j:Nat}{x y:Str}{ta:TA}{px py pt:Pos}{kt k2 pt2}(hc:X.calm=true)(hN:X.N.Nodup)(hi:X.N[i]?=some x)(hj:X.N[j]?=some y)(hij:i≠j)
  (hx:X.env.scope.names.lookup x=some .local) (hy:X.env.scope.names.lookup y=some .local) (ha:IV X [a,b] ta)
  (hw:swappedStores [.Tuple [.Name x px,.Name y py] kt pt] (.Tuple [a,b] k2 pt2) X.env=pure (some [x,y]))
  (hs:swapsWithSole [.Tuple [.Name x px,.Name y py] kt pt] (.Tuple [a,b] k2 pt2) pos.line X.env=pure false:=by rfl) :
  GQ X (.Assign [.Tuple [.Name x px,.Name y py] kt pt] (.Tuple [a,b] k2 pt2) pos) (aCi i j ta):=⟨aA5 hc hN hi hj hij hx hy ha.p hw hs⟩
def sO{c:Expr}{tc:TT}{tb:TS}(hp:PassesOwn (model X.prog X.w) X.A X.env X.xe)(hc:IS X c tc)(hb:zI X body tb):GQ X (.While c body [] pos) (BK (rS tc) tb):=⟨MQ hp hc.p hb.p⟩
def eZ{l:Expr}{tl:TE}(hl:iN X l tl):TW X tg l (ZQ X.K tl):=⟨WM hl.p⟩
def OL{l:Expr}{tl:TE}(hl:iN X l tl):TW X tg l (aCY X.K tl):=⟨aBc hl.p⟩
def cS{a:Expr}{ta:TA}{p pos:Pos}(hg:Gl X "range")(hm:X.mg "range" = none)(ha:IV X [a] ta)(hs:starEach [a] X.env=[(false,eval a X.env)]:=by first | exact gX | exact gB | exact se_BoolOp | exact jL | exact se_UnaryOp | exact se_IfExp | exact se_Dict | exact gA | exact gT | exact gM | exact eQ | exact dL | exact se_List | exact jK | exact se_JoinedStr | exact se_GeneratorExp):TW X tg (.Call (.Name "range" p) [a] [] pos) (ZP ta):=⟨MS hg hm ha.p hs⟩
def eY{iter:Expr}{wi:TI}{g:TG}{tb:TS}{pos:Pos}(hp:PassesOwn (model X.prog X.w) X.A X.env X.xe)(hc:X.calm=true)(hi:TW X tg iter wi)(hg:ZY X tg g)(hb:zI X body tb)
  (hs:∀x,foldedSetIterable iter X.env x=pure x:=by intro _;rfl):GQ X (.For tg iter body [] pos) (aCm wi g tb):=⟨aA6 hp hc hi.p hg.p hb.p hs⟩
end
def jP.okw{P:Program}{w:World}{K:Aa}{mg:Str->Option Value}{base:Heap}{x qual:Str}{st:Stmt}{f:Addr}{fd:FuncData}{N ps:Ah}{k:Nat}{sp:Sp}(F:jP K x qual st f fd)(S:bZ N ps (aY st))(len:∀vs H Q E,sp vs H Q E->vs.length=ps.length)
  (hbody:∀(cdv:Value) (A:Around) (outer:List Env) (s:Shared) (H:Hp) (vs:Al) (Q:VK) (E:XK),iO k (A.deeper (envOfC qual (aY st) s.heap.objs.size f cdv))->sp vs H Q E ->
   ∃t,zI (GA dR P w K mg base N qual (aY st) f cdv A outer s H E).nox (lB st) t/\t { nx:=λ_ H'=>Q .non H',rt:=Q } (start N vs) H):eC P w K mg base dR (k+1) f fd ps sp :=
 F.ok S len λcdv A outer s H vs Q E hr h=>by
  obtain ⟨t,h1,h2⟩:=hbody cdv A outer s H vs Q E hr h;exact ⟨t,h1.p,h2⟩
def jP.oky{P:Program}{w:World}{K:Aa}{mg:Str->Option Value}{base:Heap}{x qual:Str}{st:Stmt}{f:Addr}{fd:FuncData}{N ps:Ah}{k:Nat}{sp:Sp}(F:jP K x qual st f fd)(S:bZ N ps (aY st))
  (h:∀(vs:Al) (H:Hp) (Q:VK) (E:XK),sp vs H Q E->vs.length=ps.length/\∀(cdv:Value) (A:Around) (outer:List Env) (s:Shared),iO k (A.deeper (envOfC qual (aY st) s.heap.objs.size f cdv)) ->
   ∃t,zI (GA dR P w K mg base N qual (aY st) f cdv A outer s H E).nox (lB st) t/\t { nx:=λ_ H'=>Q .non H',rt:=Q } (start N vs) H):eC P w K mg base dR (k+1) f fd ps sp :=
 F.okw S (λvs H Q E q=>(h vs H Q E q).1) λcdv A outer s H vs Q E hr q=>(h vs H Q E q).2 cdv A outer s hr
def FU(a b:Int):Int.gcd b (a % b)=Int.gcd a b:=by
 have h:=Int.gcd_add_mul_right_right b (a % b) (a/b);rw [show a % b+a/b*b=a from by have:=Int.emod_add_mul_ediv a b;rw [Int.mul_comm];exact this] at h;rw [<-h,Int.gcd_comm]
def KI{a:Int}(h:0<a):(Int.gcd a 0:Int)=a:=by rw [Int.gcd_zero_right];exact Oo
section
variable{H:Hp}{x:V}{d:PyData}{Q:VK}
end
theorem aQ.len{H:Hp}:∀{ds:List PyData}{vs:Al},aQ H ds vs->vs.length=ds.length
 | [],_,h=>by cases (show _=[] from h);rfl
 | d::ds,_,h=>by
  unfold aQ at h;obtain ⟨x,xs,rfl,_,h2⟩:=h;simp [aQ.len h2]
section
variable{p:Addr}{σ:St}{t:TE}{ta:TA}{d:PyData}{ds:List PyData}
end
def YL{α:Type}{xs:List α}{x:Int}(h0:0<=x)(h1:x<xs.length):∃v,yT xs x=some v/\v∈xs/\xs[x.toNat]?=some v:=by
 have h:x.toNat<xs.length:=Oo;have e:=aB h;have:=cV e;rw [Int.toNat_of_nonneg h0] at this;exact ⟨_,this,List.getElem_mem h,e⟩
theorem aQ.append{H:Hp}{es:List PyData}{ws:Al}(h':aQ H es ws):∀{ds:List PyData}{vs:Al},aQ H ds vs->aQ H (ds++es) (vs++ws)
 | [],_,h=>by cases (show _=[] from h);exact h'
 | d::ds,_,h=>by
  unfold aQ at h;obtain ⟨x,xs,rfl,h1,h2⟩:=h;exact aQ.cons h1 (aQ.append h' h2)
end L2
namespace L2
end L2
namespace L2
open PySem PySem.Spec PyProof.Rows
def aU.thru{l:Addr}{H0 H1 H2:Hp}(hl:H0 l=none)(s:aU H0 H1)(b:aR l H1 H2):aU H0 H2:=λc o e=>by
 have n:c≠l:=dE e hl;exact b.at n (s _ _ e)
def SX{H:Hp}{l b:Addr}{xs zs:Al}{Q:VK}(h1:H l=some (.lst xs))(h2:H b=some (.lst zs))(hz:xs.length+zs.length<=1000)(k:∀q H',H q=none->H' q=some (.lst (xs++zs))->aU H H'->Q (.ref q) H'):aCE (.ref l) (.ref b) H Q :=
 ⟨l,b,xs,zs,rfl,rfl,h1,h2,Nat.le_of_lt (uU hz),λq hq=>k q _ hq bO (aU.upd hq)⟩
@[irreducible] def WA:V->Al->Hp->VK->Prop:=JZ
def pB{X:Cx}:MtR X "list.append" WA:=by unfold WA;exact rF
def DH{H:Hp}{l:Addr}{xs:Al}{y:V}{Q:VK}(h:H l=some (.lst xs))(hz:xs.length<=1000)(k:∀H',H' l=some (.lst (xs++[y]))->aR l H H'->Q .non H'):WA (.ref l) [y] H Q:=by
 unfold WA;exact ⟨l,xs,y,rfl,rfl,h,uU hz,k _ bO aR.self⟩
def LW{K:Aa}{H:Hp}{l:Addr}{xs:Al}(h:H l=some (.lst xs)):tyV K "list" (.ref l) H:=.inl ⟨rfl,xs,fI.of h⟩
def oP(env:Env):List (Str × NameKind)->List (Str × Addr)->List (Str × Addr)
 | [],cs=>cs
 | (n,k)::r,cs=>if k == .free then oP env r ((n,(env.cells.lookup n).getD 0)::cs) else oP env r cs
theorem KY(env:Env):∀(l:List (Str × NameKind)) (cs:List (Str × Addr)),(∀y∈l,y.2=.free->∃c,env.cells.lookup y.1=some c) ->
  (forIn l cs λ(x:Str × NameKind) r=>if x.2 == .free then (do let c <-cellOf env x.1;pure (ForInStep.yield ((x.1,c)::r)):Sem _) else pure (ForInStep.yield r))=pure (oP env l cs)
 | [],cs,_=>rfl
 | (n,k)::r,cs,h=>by
  rw [List.forIn_cons];have ih:=λcs=>KY env r cs λy hy=>h y (aT _ hy);by_cases hk:(k == NameKind.free)=true
  ·obtain ⟨c,hc⟩:=h (n,k) aS (by simpa using hk);dsimp only at hc;simp only [hk,if_true,oP,hc,Option.getD_some,cellOf,pure_bind];exact ih _
  ·simp only [hk,oP,pure_bind];exact ih _
def jO{env:Env}{scope:Scope}(h:∀y∈scope.names,y.2=.free->∃c,env.cells.lookup y.1=some c):closureFor scope env=pure (oP env scope.names []):=by
 have e:=KY env scope.names [] h;unfold closureFor;simp only [bind_pure];exact e
theorem vG{env:Env}:∀(l:List (Str × NameKind)) (cs:List (Str × Addr)),(∀y∈l,y.2=.free->∃c,env.cells.lookup y.1=some c)->∀p∈oP env l cs,p∈cs\/env.cells.lookup p.1=some p.2
 | [],cs,_,p,hp=>.inl hp
 | (n,k)::r,cs,h,p,hp=>by
  have h':∀y∈r,y.2=.free->∃c,env.cells.lookup y.1=some c:=λy hy=>h y (aT _ hy);unfold oP at hp;by_cases hk:(k == NameKind.free)=true
  ·rw [if_pos hk] at hp;obtain ⟨c,hc⟩:=h (n,k) aS (by simpa using hk);rcases vG r _ h' p hp with hm | hm
   ·rcases aZ.mp hm with rfl | hm
    ·exact .inr (by dsimp only at hc ⊢;rw [hc];rfl)
    ·exact .inl hm
   ·exact .inr hm
  ·rw [if_neg hk] at hp;exact vG r cs h' p hp
theorem vI{env:Env}:∀(l:List (Str × NameKind)) (cs:List (Str × Addr)),∀p∈cs,p∈oP env l cs
 | [],_,_,hp=>hp
 | (n,k)::r,cs,p,hp=>by
  unfold oP;by_cases hk:(k == NameKind.free)=true
  ·rw [if_pos hk];exact vI r _ p (aT _ hp)
  ·rw [if_neg hk];exact vI r _ p hp
theorem vH{env:Env}:∀(l:List (Str × NameKind)) (cs:List (Str × Addr)) (y:Str),(y,NameKind.free)∈l->∃a,(y,a)∈oP env l cs
 | (n,k)::r,cs,y,hy=>by
  unfold oP;rcases aZ.mp hy with e | hm
  ·cases e;rw [if_pos (by rfl)];exact ⟨_,vI r _ _ aS⟩
  ·by_cases hk:(k == NameKind.free)=true
   ·rw [if_pos hk];exact vH r _ y hm
   ·rw [if_neg hk];exact vH r _ y hm
theorem mZ{α β:Type}[BEq α][LawfulBEq α]{x:α}{c:β}:∀{l:List (α × β)},l.lookup x=some c->(x,c)∈l
 | [],h=>by cases h
 | (a,b)::r,h=>by
  rw [List.lookup_cons] at h;by_cases e:(x == a)=true
  ·rw [e] at h;have:x=a:=by simpa using e
   subst this;cases h;exact aS
  ·have e':(x == a)=false:=by simpa using e
   rw [e'] at h;exact aT _ (mZ h)
theorem mY{α β:Type}[BEq α][LawfulBEq α]{x:α}{c:β}:∀{l:List (α × β)},(x,c)∈l->∃c',l.lookup x=some c'
 | (a,b)::r,h=>by
  rw [List.lookup_cons];by_cases e:(x == a)=true
  ·rw [e];exact ⟨_,rfl⟩
  ·have e':(x == a)=false:=by simpa using e
   rw [e'];rcases aZ.mp h with q | q
   ·cases q;simp at e
   ·exact mY q
def wH(X:Cx)(scope:Scope):List (Str × Addr):=oP X.env scope.names []
def fP{X:Cx}{scope:Scope}(h:∀y∈scope.names,y.2=.free->∃c,X.env.cells.lookup y.1=some c){x:Str}{c:Addr}(e:(wH X scope).lookup x=some c):X.env.cells.lookup x=some c:=by
 rcases vG scope.names [] h _ (mZ e) with hm | hm
 ·cases hm
 ·exact hm
def kI{X:Cx}{scope:Scope}(h:∀y∈scope.names,y.2=.free->∃c,X.env.cells.lookup y.1=some c){x:Str}(hx:(x,NameKind.free)∈scope.names){c:Addr}(e:X.env.cells.lookup x=some c):(wH X scope).lookup x=some c:=by
 obtain ⟨a,ha⟩:=vH (env:=X.env) scope.names [] x hx;obtain ⟨c',hc'⟩:=mY ha;have:=fP h hc';rw [e] at this;cases this;exact hc'
def mI(X:Cx)(scope:Scope)(C:Addr)(fp:List Addr)(s₀:Shared)(H₀:Hp)(N':Ah):Cx where
 prog:=X.prog
 w:=X.w
 K:=X.K
 mg:=X.mg
 base:=X.base
 A:=X.A
 N:=N'
 s₀:=s₀
 H₀:=H₀
 env:=compEnvC scope (wH X scope) C X.env
 outer:=X.stack
 stack:=X.stack
 ex:=fp
 fn:=λ_=>false
 calm:=true
 pn:=[]
 xe:=λ_ _=>False
def slots(σ:St)(js:Ae):St:=js.map λj=>(σ[j]?).getD none
def LM(X:Cx)(ifs:List Expr)(t:TT):Prop :=
 ∀(pins:Ad) (s:Shared) (σ:St) (H:Hp) (Q:Bool->Hp->Prop),cI X pins σ H s->t σ H Q ->
  wpAny (model X.prog X.w) X.A (forIn ifs true λc r=>if r=true then do let ok <-isTrue c X.env (eval c X.env);pure (ForInStep.yield ok) else pure (ForInStep.yield r)) (TP X pins σ Q) X.xe s
def BJ:TT:=λ_ H Q=>Q true H
def pts_nil{X:Cx}:LM X [] BJ:=λpins s σ H Q I h=>wpAny_tests_nil ⟨H,I,h⟩
def WD{X:Cx}{c:Expr}{t:TT}(h:PT X c t):LM X [c] t:=λpins s σ H Q I q=>wpAny_tests_one (h pins s σ H Q I q)
def PB(wi:TI)(js:Ae)(tc:TT)(te:TE):TE:=λσ H Q=>wi σ H λJ H1=>∀D,H1 D=none->∃W:Nat->Nat->Al->Hp->Prop,(∃m,W 0 m [] (upd H1 D (.lst []))) /\
 ∀i m ys H2,W i m ys H2->H2 D=some (.lst ys)/\((J.stop i H2/\Q (.ref D) H2)\/(J.go i H2/\ys.length<sizeLine/\∀x H3,J.yld i H2 x H3 ->
  tc (some x::slots σ js) H3 λb H4=>if b=true then te (some x::slots σ js) H4 λy H5=>H5 D=some (.lst ys)/\∃m',m' < m/\W (i+1) m' (ys++[y]) (upd H5 D (.lst (ys++[y])))
   else H4 D=some (.lst ys)/\∃m',m' < m/\W (i+1) m' ys H4))
structure dP(X:Cx)(scope:Scope)(x:Str)(N':Ah)(js:Ae):Prop where
 calm:X.calm=true
 free:∀y∈scope.names,y.2=.free->X.env.kindOf y.1=some .cell
 cell:∀y∈scope.names,y.2 ≠ .cell
 kind:scope.kind=.function
 names:∀y∈scope.names,y.2=.local->scope.names.lookup y.1=some .local
 own:scope.names.lookup x=some .local
 nofl:∀y,(y,NameKind.free)∈scope.names->scope.names.lookup y=some .local->False
 len:N'.length=js.length+1
 zero:N'[0]?=some x
 nd:N'.Nodup
 slot:∀(i:Nat) (j:Nat),js[i]?=some j->∃y,N'[i+1]?=some y/\X.N[j]?=some y/\(y,NameKind.free)∈scope.names
section
variable{X:Cx}{pins:Ad}{σ:St}{H:Hp}{s:Shared}{scope:Scope}{x:Str}{N':Ah}{js:Ae}{fp:List Addr}
theorem dP.cells(S:dP X scope x N' js)(ok:X.Ok):∀y∈scope.names,y.2=.free->∃c,X.env.cells.lookup y.1=some c:=λy hy hf=>ok.has _ (.inl (S.free y hy hf))
theorem jN{env:Env}:∀{names:List (Str × NameKind)}{y:Str}{k:NameKind},(names.map λ(n,k)=>if (k == NameKind.free&&env.scope.kind == .function&&env.kindOf n == some .cell) then (n,NameKind.cell) else (n,k)).lookup y=some k ->
  (k=.cell\/k=.free)->(∀z∈names,z.2 ≠ .cell)->(y,NameKind.free)∈names
 | [],_,_,h,_,_=>by cases h
 | (n,q)::r,y,k,h,hk,hc=>by
  rw [bI,List.lookup_cons] at h;have ih:=λh=>@jN env r y k h hk λz hz=>hc z (aT _ hz);by_cases hq:(q == NameKind.free&&env.scope.kind == .function&&env.kindOf n == some .cell)=true
  ·dsimp only at h;rw [if_pos hq] at h;have qf:q=.free:=by
    rw [cQ,cQ] at hq;simpa using hq.1.1
   subst qf;by_cases e:(y == n)=true
   ·have:y=n:=by simpa using e
    subst this;exact aS
   ·have e':(y == n)=false:=by simpa using e
    dsimp only at h;rw [e'] at h;exact aT _ (ih h)
  ·dsimp only at h;rw [if_neg hq] at h;by_cases e:(y == n)=true
   ·have:y=n:=by simpa using e
    subst this;dsimp only at h;rw [e] at h;have hkq:k=q:=by injection h with h;exact h.symm
    subst hkq;rcases hk with rfl | rfl
    ·exact absurd rfl (hc _ aS)
    ·exact aS
   ·have e':(y == n)=false:=by simpa using e
    dsimp only at h;rw [e'] at h;exact aT _ (ih h)
def aBI(S:dP X scope x N' js)(I:cI X pins σ H s)(hf:∀b∈fp,jE X pins H b)(hb:∀b∈fp,b<s.heap.objs.size):(mI X scope s.heap.objs.size fp s H N').Ok where
 mod:=I.ok.mod
 kind:=S.kind
 glob:=I.ok.glob
 blt:=I.ok.blt
 above:=aI _
 inj:=λy z c h1 h2=>I.ok.inj y z c (fP (S.cells I.ok) h1) (fP (S.cells I.ok) h2)
 has:=λy hy=>by
  have hm:(y,NameKind.free)∈scope.names:=by
   rcases hy with hy | hy
   ·exact jN (env:=X.env) hy (.inl rfl) S.cell
   ·exact jN (env:=X.env) hy (.inr rfl) S.cell
  obtain ⟨c,hc⟩:=S.cells I.ok _ hm rfl;exact ⟨c,kI (S.cells I.ok) hm hc⟩
 cab:=λ_ _ h=>by cases h
 hd:=λ_=>I.ok.hd S.calm
 frames:=I.ok.frames
 stk:=.inl rfl
 exf:=λb hb'=>⟨λe=>by have:=hb b hb';rw [e] at this;exact bL _ this,λy c h=>(hf b hb').2.2.2.2.1 y c (fP (S.cells I.ok) h)⟩
 bs:=I.bs
 bsz:=aM I.ok.bsz I.sz
 noex:=λb o e hb'=>by
  rcases (hf b hb').2.2.2.1 with h | h
  ·exact I.ok.noex b o e h
  ·exact absurd (aN (aV e) (aM I.ok.bsz h)) (bL _)
 exfs:=λb hb' hs=>by
  have h2:=I.stkSub b hs;rcases aZ.mp h2 with h2 | h2
  ·exact (hf b hb').2.1 h2
  ·exact (hf b hb').2.2.1 h2
 funs:=I.stack
 frf:=I.stkFree
def uV{i j:Nat}(h:js[i]?=some j):(slots σ js)[i]?=some ((σ[j]?).getD none):=by
 unfold slots;rw [aL,h];rfl
def XS{h':Heap}{tk:Nat}(S:dP X scope x N' js)(I:cI X pins σ H s)(hf:∀b∈fp,jE X pins H b)(hb:∀b∈fp,b<s.heap.objs.size)
  (hn:h'.Ns s.heap.objs.size (λ_=>none)) (hk:∀b o,s.heap.get? b=some o->h'.get? b=some o):cI (mI X scope s.heap.objs.size fp s H N') [] (none::slots σ js) H { s with heap:=h',toks:=tk } where
 ok:=aBI S I hf hb
 os:=rfl
 bare:=I.bare
 base:=Un.kept hk
 loc:=by
  refine ⟨_,hn,λi y v hi hv hvis=>?_⟩;cases i with
  | zero=>cases hv
  | succ i =>
   have hv':(slots σ js)[i]?=some (some v):=hv;have hlt:i<js.length:=by
    have:=(aF.mp hv').1;unfold slots at this
    rwa [aA] at this
   have hj:js[i]?=some js[i]:=aB hlt;obtain ⟨z,h1,h2,h3⟩:=S.slot i _ hj;have hzy:z=y:=by
    have:N'[i+1]?=some y:=hi;rw [h1] at this;cases this;rfl
   subst hzy;rw [uV hj] at hv';have hσ:σ[js[i]]?=some (some v):=by
    cases q:σ[js[i]]? with
    | none=>rw [q] at hv';cases hv'
    | some o=>rw [q] at hv';cases hv';rfl
   have hkc:X.env.kindOf z=some .cell:=S.free _ h3 rfl;obtain ⟨m,hm,hl⟩:=I.loc;obtain ⟨u,ru,lk⟩:=hl _ z v h2 hσ (.inr (.inl hkc));rcases lk with ⟨hk1,_⟩ | ⟨_,c,hc,hcell⟩
   ·rw [hkc] at hk1;cases hk1
   ·refine ⟨u,ru,.inr ⟨?_,c,kI (S.cells I.ok) h3 hc,?_⟩⟩
    ·rcases hvis with hvis | hvis | hvis
     ·exfalso;have hcl:=kI (S.cells I.ok) h3 hc;have hm2:=mZ (l:=(relabel scope X.env).names) hvis;unfold relabel at hm2;obtain ⟨⟨n,k⟩,hmem,he⟩:=aX.mp hm2;dsimp only at he;by_cases hq:(k == NameKind.free&&X.env.scope.kind == .function&&X.env.kindOf n == some .cell)=true
      ·rw [if_pos hq] at he;cases he
      ·rw [if_neg hq] at he;cases he;have:=S.names _ hmem rfl;have l2:=mY h3;obtain ⟨c',l2⟩:=l2;dsimp only at this;rw [this] at l2;have key:(relabel scope X.env).names.lookup z=some .local:=lookup_relabel_local this;have hck:scope.names.lookup z=some .local:=this;exact S.nofl z h3 hck
     ·exact .inl hvis
     ·exact .inr hvis
    ·obtain ⟨o,e,r⟩:=hcell;exact ⟨o,hk _ _ e,r⟩
 cell:=λy c h=>by
  obtain ⟨v,o,e,r⟩:=I.cell y c (fP (S.cells I.ok) h);exact ⟨v,o,hk _ _ e,r⟩
 free:=I.hok.fresh (aI _)
 freeC:=λy c h=>I.freeC y c (fP (S.cells I.ok) h)
 pin:=λp hp=>by cases hp
 hok:=I.hok.kept hk
 len:=by
  show (slots σ js).length+1=N'.length;unfold slots;rw [aA,S.len]
def pQ.but{P:Program}{w:World}{H:Hp}{h h':Heap}{C:Addr}(x:pQ P w H h)(hC:H C=none)(k:∀b u,b≠C->h.get? b=some u->h'.get? b=some u):pQ P w H h':=λa o e =>
 (x a o e).stay (λb u hb q=>k b u (by
  rcases hb with rfl | hb
  ·exact dE e hC
  ·exact dE hb hC) q) (λ_ q=>q) λ_ _ q=>q
def GB{H2:Hp}{σ':St}{s2:Shared}{h'':Heap}(S:dP X scope x N' js)(I:cI X pins σ H s)(hf:∀b∈fp,jE X pins H b)
  (J:cI (mI X scope s.heap.objs.size fp s H N') [] σ' H2 s2) (hs:Heap.SameBut s.heap.objs.size s2.heap h''):cI X pins σ H2 { s2 with heap:=h'' }:=by
 have hC:H2 s.heap.objs.size=none:=J.free;have ne:∀{b:Addr} {o:Obj},s.heap.get? b=some o->b≠s.heap.objs.size:=λe q=>by
  have:=aV e;rw [q] at this;exact bL _ this
 refine I.call' (s':={ s2 with heap:=h'' }) (ch:=fp) (by rw [show ({ s2 with heap:=h'' }:Shared).os=s2.os from rfl];exact J.os) ?_ (J.hok.but hC λb u hb q=>hs.extBut b u hb q) J.bare λb hb=>⟨(hf b hb).2.2.2.1,(hf b hb).2.1,(hf b hb).2.2.2.2.1,(hf b hb).2.2.2.2.2⟩;have U:=J.base;exact {
  keep:=λb o e n h1 h2=>hs.extBut b o (ne e) (U.keep b o e n h1 h2)
  slot:=λb o e n h1 h2=>by
   obtain ⟨sl,q⟩:=U.slot b o e n h1 h2;exact ⟨sl,hs.extBut b _ (ne e) q⟩
  free:=U.free
  there:=λb o e h2=>by
   obtain ⟨o',q⟩:=U.there b o e h2;exact ⟨o',hs.extBut b _ (ne e) q⟩
  tups:=U.tups
  frzs:=U.frzs
  tbls:=U.tbls }
end
abbrev OD:Value->Shared->Prop:=λ_ _=>False
def pI{prog:Program}{w:World}{A:Around}{R:Result->Shared->Prop}{s:Shared}{elt target iter:Expr}{ifs:List Expr}{scope:Scope}{pos:Pos}{it acc:Value}{env:Env}(I:Nat->Shared->Prop)
  (turn:∀n s,I n s->wpAny (model prog w) A (pyNext it) (λr s₁=>match r with
   | none=>R (.ok .next) s₁
   | some v=>wpAny (model prog w) A (letOwnedTupleGo target it v) (λ_ s₁'=>wpAny (model prog w) A (assign target env v) (λ_ s₂ =>
     wpAny (model prog w) A (forIn ifs true λc r=>if r=true then do let ok <-isTrue c env (eval c env);pure (ForInStep.yield ok) else pure (ForInStep.yield r)) (λok s₃ =>
      if ok=true then wpAny (model prog w) A (eval elt env) (λx s₄=>wpAny (model prog w) A (call (.builtin "list.append") [acc,x]) (λ_ s₅=>∃m,m<n/\I m s₅) OD s₄) OD s₃
      else ∃m,m<n/\I m s₃) OD s₂) OD s₁') OD s₁) OD s)
  (n:Nat) (h:I n s):codeAny (model prog w) A (.compLoop (.ListComp elt [⟨target,iter,ifs,0⟩] scope pos) 0 it acc env) R s:=by
 refine codeAny_loop rfl I (λn s hI=>?_) n h;show wpAny _ A ((compTurn (.ListComp elt [⟨target,iter,ifs,0⟩] scope pos) 0 it acc env).onRaise (λx=>do noteFrame x env;theTreesLotGoes x)) _ _ s;refine wpAny_noted ?_;rw [compTurn_list];refine wpAny_bind (wpAny_standAt (wpAny_bind (wpAny_mono (turn n s hI) (λr s₁ h₁=>?_) λ_ _ h'=>h'.elim)));cases r with
 | none=>exact wpAny_pure h₁
 | some v =>
  refine wpAny_bind (wpAny_mono h₁ (λ_ s₁' h₁'=>?_) λ_ _ h'=>h'.elim);refine wpAny_bind (wpAny_mono h₁' (λ_ s₂ h₂=>wpAny_bind (wpAny_mono h₂ (λok s₃ h₃=>?_) λ_ _ h'=>h'.elim)) λ_ _ h'=>h'.elim);cases ok with
  | false=>exact wpAny_pure ⟨rfl,h₃⟩
  | true =>
   exact wpAny_bind (wpAny_bind (wpAny_mono h₃ (λx s₄ h₄=>wpAny_bind (wpAny_mono h₄ (λ_ s₅ h₅=>wpAny_pure (wpAny_pure ⟨rfl,h₅⟩)) λ_ _ h'=>h'.elim)) λ_ _ h'=>h'.elim))
section
variable{X:Cx}{pins:Ad}{σ:St}{H:Hp}{s:Shared}{scope:Scope}{x:Str}{N':Ah}{js:Ae}{fp:List Addr}{elt iter:Expr}{px pos:Pos}{ifs:List Expr}{tc:TT}{te:TE}
def yI{J:It}{it:Addr}{tn:Nat->Heap->Prop}{RR:Value->Addr->Result->Shared->Prop}{E:Value->Shared->Prop}{Q:VK}
  (S:dP X scope x N' js) (I:cI X pins σ H s) (T:DO X.prog X.w X.K (.Name x px) J fp it tn) (h0:tn 0 s.heap) (hf:∀b∈fp,jE X pins H b)
  (ht:∀C fp s₀ H₀,LM (mI X scope C fp s₀ H₀ N') ifs tc) (he:∀C fp s₀ H₀,PE (mI X scope C fp s₀ H₀ N') elt te)
  (R:∀D,H D=none->∃W:Nat->Nat->Al->Hp->Prop,(∃m,W 0 m [] (upd H D (.lst []))) /\
   ∀i m ys H2,W i m ys H2->H2 D=some (.lst ys)/\((J.stop i H2/\Q (.ref D) H2)\/(J.go i H2/\ys.length<sizeLine/\∀x H3,J.yld i H2 x H3 ->
    tc (some x::slots σ js) H3 λb H4=>if b=true then te (some x::slots σ js) H4 λy H5=>H5 D=some (.lst ys)/\∃m',m' < m/\W (i+1) m' (ys++[y]) (upd H5 D (.lst (ys++[y])))
     else H4 D=some (.lst ys)/\∃m',m' < m/\W (i+1) m' ys H4)))
  (hRR:∀(D:Addr) (H3:Hp) (s3:Shared) (σ':St) (H':Hp) (s':Shared),cI X pins σ H3 s3->(∀b∈fp,jE X pins H3 b)->cI (mI X scope s3.heap.objs.size fp s3 H3 N') [] σ' H' s'->Q (.ref D) H'->RR (.ref D) s3.heap.objs.size (.ok .next) s') :
  wpAny (model X.prog X.w) X.A (newList []) (λacc s₃=>wpAny (model X.prog X.w) X.A (newFunctionEnv scope X.env.globals (wH X scope) [] X.env.qual none .none (some X.env)) (λcenv s₄ =>
   codeAny (model X.prog X.w) X.A (.compStart (.ListComp elt [⟨.Name x px,iter,ifs,0⟩] scope pos) 0 (.ref it) acc { cenv with scope:=relabel scope X.env }) (RR acc cenv.locals) s₄) E s₃) E s:=by
 have hb:∀b∈fp,b<s.heap.objs.size:=λb hb=>by
  obtain ⟨o,e,_⟩:=T.obj 0 _ h0 b hb;exact aV e
 refine wpAny_newObj_type (wpAny_newFunctionEnv S.cell (by intro y hy;simp at hy) (λh₁ hns₁ hsb₁=>?_) S.kind);have hDn:H s.heap.objs.size=none:=I.hok.fresh (aI _);obtain ⟨W,⟨m0,hw0⟩,hW⟩:=R _ hDn;have I3:cI X pins σ (upd H s.heap.objs.size (.lst [])) { s with heap:=s.heap.push { cls:=.type "list",dict:=none,data:=.seq ([]:Ag).toArray } }:=I.lnew (its:=[]) (ys:=[]) (t':=s.toks) .nil (cG _);have hf3:∀b∈fp,jE X pins (upd H s.heap.objs.size (.lst [])) b:=λb hb' =>
  ⟨by rw [dC (λe=>by have:=hb b hb';rw [e] at this;exact bL _ this)];exact (hf b hb').1,(hf b hb').2⟩
 have hb3:∀b∈fp,b<(s.heap.push { cls:=.type "list",dict:=none,data:=.seq ([]:Ag).toArray }).objs.size:=λb hb'=>by
  rw [fG];exact Nat.lt_succ_of_lt (hb b hb')
 have hkeep:∀b o,(s.heap.push { cls:=.type "list",dict:=none,data:=.seq ([]:Ag).toArray }).get? b=some o->h₁.get? b=some o:=λb o e =>
  hsb₁.extBut b o (λq=>by have:=aV e;rw [q] at this;exact bL _ this) (aC _ e)
 have J4:=XS (h':=h₁) (tk:=s.toks+([]:List (Str × Value)).length) S I3 hf3 hb3 hns₁ hkeep;have t4:tn 0 h₁:=T.keep 0 _ _ h0 λb hb' o e=>hkeep b o (aC _ e);have loop:codeAny (model X.prog X.w) X.A (.compLoop (.ListComp elt [⟨.Name x px,iter,ifs,0⟩] scope pos) 0 (.ref it) (.ref s.heap.objs.size) (compEnvC scope (wH X scope) (s.heap.push { cls:=.type "list",dict:=none,data:=.seq ([]:Ag).toArray }).objs.size X.env))
   (RR (.ref s.heap.objs.size) (s.heap.push { cls:=.type "list",dict:=none,data:=.seq ([]:Ag).toArray }).objs.size) { s with heap:=h₁,toks:=s.toks+([]:List (Str × Value)).length }:=by
  refine pI (λn s'=>∃(i:Nat) (ys:Al) (H2:Hp) (o:Am),cI (mI X scope _ fp _ _ N') [] (o::slots σ js) H2 s'/\tn i s'.heap/\(∀b∈fp,H2 b=none)/\W i n ys H2) ?_ m0 ⟨0,[],_,none,J4,t4,λb hb'=>(hf3 b hb').1,hw0⟩;rintro n s' ⟨i,ys,H2,o,J2,t2,f2,w2⟩;obtain ⟨hD,hcase⟩:=hW i n ys H2 w2;have Fp:∀b∈fp,jE (mI X scope (s.heap.push { cls:=.type "list",dict:=none,data:=.seq ([]:Ag).toArray }).objs.size fp { s with heap:=s.heap.push { cls:=.type "list",dict:=none,data:=.seq ([]:Ag).toArray } } (upd H s.heap.objs.size (.lst [])) N') [] H2 b:=λb hb' =>
   ⟨f2 b hb',(J2.ok.exf b hb').1,J2.ok.exfs b hb',.inl hb',(J2.ok.exf b hb').2,λp hp=>by cases hp⟩
  rcases hcase with ⟨hstop,hq⟩ | ⟨hgo,hz,hturn⟩
  ·refine wpAny_mono (T.done (mI X scope _ fp _ _ N') rfl rfl rfl rfl i [] s' _ H2 OD J2 Fp t2 hstop) (λr s1 ⟨hr,J5⟩=>?_) λ_ _ f=>f;subst hr;exact hRR _ _ _ _ _ _ I3 hf3 J5 hq
  ·refine wpAny_mono (T.item (mI X scope _ fp _ _ N') rfl rfl rfl rfl i [] s' _ H2 OD J2 Fp t2 hgo) (λr s1 ⟨u,hr,hx⟩=>?_) λ_ _ f=>f;subst hr;refine wpAny_mono hx (λ_ s2 ⟨v,H3,J3,rv,hy,t3,f3⟩=>?_) λ_ _ f=>f;have Fp3:∀b∈fp,jE (mI X scope (s.heap.push { cls:=.type "list",dict:=none,data:=.seq ([]:Ag).toArray }).objs.size fp { s with heap:=s.heap.push { cls:=.type "list",dict:=none,data:=.seq ([]:Ag).toArray } } (upd H s.heap.objs.size (.lst [])) N') [] H3 b:=λb hb' =>
    ⟨f3 b hb',(J3.ok.exf b hb').1,J3.ok.exfs b hb',.inl hb',(J3.ok.exf b hb').2,λp hp=>by cases hp⟩
   have P3:=J3.pinned Fp3 (T.obj (i+1) _ t3);have keepT:∀{σ':St} {Hx:Hp} {sx:Shared},cI (mI X scope (s.heap.push { cls:=.type "list",dict:=none,data:=.seq ([]:Ag).toArray }).objs.size fp { s with heap:=s.heap.push { cls:=.type "list",dict:=none,data:=.seq ([]:Ag).toArray } } (upd H s.heap.objs.size (.lst [])) N') ([]++sF fp s2.heap) σ' Hx sx->tn (i+1) sx.heap/\∀b∈fp,Hx b=none:=λJx =>
    ⟨T.keep (i+1) _ _ t3 λb hb' ob e=>(Jx.pin (b,ob) (aO _ (aO _ (iT hb' e)))).1,λb hb'=>by
     obtain ⟨ob,e,_⟩:=T.obj (i+1) _ t3 b hb';exact (Jx.pin (b,ob) (aO _ (aO _ (iT hb' e)))).2.1⟩
   refine wpAny_assign_Name (oF P3 (i:=0) (x:=x) (v:=v) ?nd ?hi ?hx rv (λs5 J5=>?_) ?hfn)
   case nd=>exact S.nd
   case hi=>exact S.zero
   case hx=>exact .inl (lookup_relabel_local S.own)
   case hfn=>exact .inr (lookup_relabel_local S.own)
   have J5':cI _ _ (some v::slots σ js) H3 s5:=J5;refine wpAny_mono (ht _ _ _ _ _ _ _ _ _ J5' (hturn v H3 hy)) (λok s6 ⟨H6,J6,q6⟩=>?_) λ_ _ f=>f;dsimp only at q6;by_cases hok:ok=true
   ·rw [if_pos hok] at q6 ⊢;refine wpAny_mono (he _ _ _ _ _ _ _ _ _ J6 q6) (λy s7 ⟨w',H7,J7,r7,hD7,m',hm',w7⟩=>?_) λ_ _ f=>f;refine wpAny_mono (rF (X:=mI X scope _ fp _ _ N') _ _ _ _ (.ref s.heap.objs.size) [w'] (.ref s.heap.objs.size) [y] (λ_ H8=>H8=upd H7 s.heap.objs.size (.lst (ys++[w']))) J7 rfl (.cons r7 .nil) ⟨_,_,_,rfl,rfl,hD7,hz,rfl⟩) (λ_ s8 ⟨_,H8,J8,_,e8⟩=>?_) λ_ _ f=>f;subst e8;obtain ⟨k1,k2⟩:=keepT J8;exact ⟨m',hm',i+1,ys++[w'],_,some v,J8.unpinned,k1,k2,w7⟩
   ·rw [if_neg hok] at q6 ⊢;obtain ⟨_,m',hm',w7⟩:=q6;obtain ⟨k1,k2⟩:=keepT J6;exact ⟨m',hm',i+1,ys,_,some v,J6.unpinned,k1,k2,w7⟩
 refine codeAny_compStart_list loop (T.self X.A 0 _ _ _ t4 loop)
def WS{wi:TI}(S:dP X scope x N' js)(hi:PI X (.Name x px) iter wi)(ht:∀C fp s₀ H₀,LM (mI X scope C fp s₀ H₀ N') ifs tc)(he:∀C fp s₀ H₀,PE (mI X scope C fp s₀ H₀ N') elt te)
  (hs:∀x,foldedSetIterable iter X.env x=pure x:=by intro _;rfl):PE X (.ListComp elt [⟨.Name x px,iter,ifs,0⟩] scope pos) (PB wi js tc te):=by
 intro pins s σ H Q I h;rw [eval_ListComp];refine wpAny_comprehension_free (use:=none) rfl hs (jO (S.cells I.ok)) S.kind S.names (wpAny_mono (hi pins s σ H _ I h) (λv s1 h1=>?_) λ_ _ e=>e);refine wpAny_mono h1 (λitv s2 ⟨it,fp,tn,J,H2,e,I2,T,t0,hf,R⟩=>?_) λ_ _ e=>e;subst e;refine yI S I2 T t0 hf ht he R ?_;intro D H3 s3 σ' H' s' I3 hf3 J3 q;obtain ⟨m,hm,_⟩:=J3.loc;exact ⟨m,hm,λh' hs'=>⟨.ref D,H',GB S I3 hf3 J3 hs',rfl,q⟩⟩
def HS{wi:TI}{y:Str}{py spos:Pos}{i:Nat}(S:dP X scope x N' js)(hN:X.N.Nodup)(hiN:X.N[i]?=some y)(hy:X.env.kindOf y=some .local)(hi:PI X (.Name x px) iter wi)(ht:∀C fp s₀ H₀,LM (mI X scope C fp s₀ H₀ N') ifs tc)(he:∀C fp s₀ H₀,PE (mI X scope C fp s₀ H₀ N') elt te)
  (hsw:swapsWith (.ListComp elt [⟨.Name x px,iter,ifs,0⟩] scope pos) (some (.Name y py)) spos.line X.env=pure true) (hs:∀x,foldedSetIterable iter X.env x=pure x:=by intro _;rfl) :
  PS X (.Assign [.Name y py] (.ListComp elt [⟨.Name x px,iter,ifs,0⟩] scope pos) spos) (yW (PB wi js tc te) (nE i)):=by
 intro pins s σ H D0 I h;rw [exec_Assign_Name_used _ _ _ _ hsw];refine wpAny_bind (wpAny_standAt (wpAny_bind ?_));show wpAny _ X.A (do let _ <-comprehension (.ListComp elt [⟨.Name x px,iter,ifs,0⟩] scope pos) scope X.env _ (newList []) false (eval iter X.env) (some (assign (.Name y py) X.env))) _ _ s;refine wpAny_bind (wpAny_mono (wpAny_comprehension_free (use:=some (assign (.Name y py) X.env)) (Q:=λ_ s'=>SP X pins D0 .next s') rfl hs (jO (S.cells I.ok)) S.kind S.names (wpAny_mono (hi pins s σ H _ I h) (λv s1 h1=>?_) λ_ _ e=>e)) (λ_ s' hq=>wpAny_pure (wpAny_pure hq)) λ_ _ e=>e);refine wpAny_mono h1 (λitv s2 ⟨it,fp,tn,J,H2,e,I2,T,t0,hf,R⟩=>?_) λ_ _ e=>e;subst e;refine yI (Q:=λv H'=>nE i v σ H' D0.nx) S I2 T t0 hf ht he R ?_;intro D H3 s3 σ' H' s' I3 hf3 J3 q;obtain ⟨m,hm,_⟩:=J3.loc;have IX:cI X pins σ H' s':=GB S I3 hf3 J3 (Heap.SameBut.refl ..);have hCL:s3.heap.objs.size≠X.env.locals:=λe=>by have:=I3.lt;rw [e] at this;exact bL _ this
 show wpAny _ X.A (assign (.Name y py) X.env (.ref D)) _ _ _;refine wpAny_assign_Name (rA IX hN hiN (.inl hy) (v:=.ref D) rfl (λs5 I5 hsb=>?_) (.inr hy));obtain ⟨a,hsb,ha⟩:=hsb;have hCa:s3.heap.objs.size≠a:=by
  rcases ha with rfl | ha
  ·exact hCL
  ·intro e;obtain ⟨v,o,eo,_⟩:=I3.cell y a ha;have:=aV eo;rw [<-e] at this;exact bL _ this
 refine ⟨m,hm.sameBut hsb hCa,λh' hs'=>⟨_,H',?_,q⟩⟩;exact I5.turned (it:=s3.heap.objs.size) (t':=s5.toks) (λb o n e=>hs'.extBut b o n e) J3.free hCL (.inr I3.sz)
  (λz c hz e=>by
   obtain ⟨v,o,eo,_⟩:=I3.cell z c hz;have:=aV eo;rw [e] at this;exact bL _ this)
  (λp hp e=>by
   have:=aV (I3.pin p hp).1;rw [e] at this;exact bL _ this)
end
structure IT(X:Cx)(ifs:List Expr)(t:TT):Prop where p:LM X ifs t
def xA(t:TE):TE:=λσ H Q=>∃Q':VK,t σ H Q'/\∀v H1,Q' v H1->Q v H1
def PE.mono{X:Cx}{e:Expr}{t:TE}(h:PE X e t):PE X e (xA t):=λpins s σ H Q I ⟨Q',h1,h2⟩ =>
 thn (h pins s σ H Q' I h1) λb s' ⟨v,H',I',r,q⟩=>⟨v,H',I',r,h2 _ _ q⟩
def LM.mono{X:Cx}{es:List Expr}{t:TT}(h:LM X es t):LM X es (rS t):=λpins s σ H Q I ⟨Q',h1,h2⟩ =>
 thn (h pins s σ H Q' I h1) λb s' ⟨H',I',q⟩=>⟨H',I',h2 _ _ q⟩
@[irreducible] def lM(J:It)(σ:St)(js:Ae)(tc:TT)(te:TE)(H1:Hp)(Q:VK):Prop:=∀D,H1 D=none->∃W:Nat->Nat->Al->Hp->Prop,(∃m,W 0 m [] (upd H1 D (.lst []))) /\
 ∀i m ys H2,W i m ys H2->H2 D=some (.lst ys)/\((J.stop i H2/\Q (.ref D) H2)\/(J.go i H2/\ys.length<sizeLine/\∀x H3,J.yld i H2 x H3 ->
  rS tc (some x::slots σ js) H3 λb H4=>if b=true then xA te (some x::slots σ js) H4 λy H5=>H5 D=some (.lst ys)/\∃m',m' < m/\W (i+1) m' (ys++[y]) (upd H5 D (.lst (ys++[y])))
   else H4 D=some (.lst ys)/\∃m',m' < m/\W (i+1) m' ys H4))
def uP(wi:TI)(js:Ae)(tc:TT)(te:TE):TE:=λσ H Q=>wi σ H λJ H1=>lM J σ js tc te H1 Q
section
variable{X:Cx}{scope:Scope}{x y:Str}{N':Ah}{js:Ae}{elt iter c:Expr}{px py pos spos:Pos}{ifs:List Expr}{tc:TT}{te:TE}{wi:TI}{i:Nat}
def dW:IT X [] BJ:=⟨pts_nil⟩
def BC{t:TT}(h:IS X c t):IT X [c] t:=⟨WD h.p⟩
def gI(S:dP X scope x N' js)(hi:TW X (.Name x px) iter wi)(ht:∀C fp s₀ H₀,IT (mI X scope C fp s₀ H₀ N') ifs tc)(he:∀C fp s₀ H₀,iN (mI X scope C fp s₀ H₀ N') elt te)
  (hs:∀x,foldedSetIterable iter X.env x=pure x:=by intro _;rfl):iN X (.ListComp elt [⟨.Name x px,iter,ifs,0⟩] scope pos) (uP wi js tc te) :=
 ⟨by unfold uP lM;exact WS S hi.p (λC fp s₀ H₀=>(ht C fp s₀ H₀).p.mono) (λC fp s₀ H₀=>(he C fp s₀ H₀).p.mono) hs⟩
def iB(S:dP X scope x N' js)(hN:X.N.Nodup)(hiN:X.N[i]?=some y)(hy:X.env.kindOf y=some .local)(hi:TW X (.Name x px) iter wi)(ht:∀C fp s₀ H₀,IT (mI X scope C fp s₀ H₀ N') ifs tc)(he:∀C fp s₀ H₀,iN (mI X scope C fp s₀ H₀ N') elt te)
  (hsw:swapsWith (.ListComp elt [⟨.Name x px,iter,ifs,0⟩] scope pos) (some (.Name y py)) spos.line X.env=pure true:=by rfl) (hs:∀x,foldedSetIterable iter X.env x=pure x:=by intro _;rfl) :
  GQ X (.Assign [.Name y py] (.ListComp elt [⟨.Name x px,iter,ifs,0⟩] scope pos) spos) (yW (uP wi js tc te) (nE i)) :=
 ⟨by unfold uP lM;exact HS S hN hiN hy hi.p (λC fp s₀ H₀=>(ht C fp s₀ H₀).p.mono) (λC fp s₀ H₀=>(he C fp s₀ H₀).p.mono) hsw hs⟩
end
def ZU(psc scope:Scope)(N:Ah)(x:Str)(N':Ah)(js:Ae):Bool :=
 (scope.names.all λy=>!(y.2 == .free) || psc.names.lookup y.1 == some .cell)&&(scope.names.all λy=>!(y.2 == .cell))&&scope.kind == .function &&
 (scope.names.all λy=>!(y.2 == .local) || scope.names.lookup y.1 == some .local)&&scope.names.lookup x == some .local &&
 (scope.names.all λy=>!(y.2 == .free) || !(scope.names.lookup y.1 == some .local))&&N'.length == js.length+1&&N'[0]? == some x&&decide N'.Nodup &&
 ((List.range js.length).all λi=>match js[i]?,N'[i+1]? with
  | some j,some y=>N[j]? == some y&&scope.names.contains (y,NameKind.free)
  | _,_=>false)
def dP.of{X:Cx}{psc scope:Scope}{N:Ah}{x:Str}{N':Ah}{js:Ae}(h:ZU psc scope N x N' js=true)(hX:X.env.scope=psc)(hN:X.N=N)(hc:X.calm=true):dP X scope x N' js:=by
 unfold ZU at h;simp only [cQ] at h;obtain ⟨⟨⟨⟨⟨⟨⟨⟨⟨h1,h2⟩,h3⟩,h4⟩,h5⟩,h6⟩,h7⟩,h8⟩,h9⟩,h10⟩:=h;rw [List.all_eq_true] at h1 h2 h4 h6 h10;refine ⟨hc,λy hy e=>?_,λy hy e=>?_,by simpa using h3,λy hy e=>?_,by simpa using h5,λy hy e=>?_,by simpa using h7,by simpa using h8,of_decide_eq_true h9,λi j hj=>?_⟩
 ·have:=h1 y hy;rw [e] at this;show X.env.scope.names.lookup y.1=_;rw [hX];simpa using this
 ·have:=h2 y hy;rw [e] at this;simp at this
 ·have:=h4 y hy;rw [e] at this;simpa using this
 ·have:=h6 _ hy;rw [e] at this;simp at this
 ·have hi:i<js.length:=(aF.mp hj).1;have:=h10 i (bU.mpr hi);rw [hj] at this;cases q:N'[i+1]? with
  | none=>rw [q] at this;simp at this
  | some y =>
   rw [q] at this;simp only [cQ] at this;exact ⟨y,rfl,by rw [hN];simpa using this.1,List.contains_iff_mem.mp this.2⟩
section
variable{js:Ae}{te:TE}{tc:TT}{σ:St}{H:Hp}{Q:VK}
def GE{J:It}{n:Nat}(src:Nat->V->Prop)(hz:n<=100000)(Pv:Addr->Nat->Al->Hp->Prop)
  (h0:∀D H1,H D=none->H1 D=some (.lst [])->aU H H1->Pv D 0 [] H1)
  (hg:∀D i ys H',i<n->H' D=some (.lst ys)->Pv D i ys H'->J.go i H'/\∀x H3,J.yld i H' x H3->H3=H'/\src i x)
  (hst:∀D ys H',H' D=some (.lst ys)->Pv D n ys H'->J.stop n H')
  (hs:∀D i x ys H',src i x->i<n->ys.length=i->H' D=some (.lst ys)->Pv D i ys H'->te (some x::slots σ js) H' λy H5=>H5 D=some (.lst ys)/\∀H6,H6 D=some (.lst (ys++[y]))->aR D H5 H6->Pv D (i+1) (ys++[y]) H6)
  (hd:∀D ys H',ys.length=n->H D=none->H' D=some (.lst ys)->Pv D n ys H'->Q (.ref D) H') :
  lM J σ js BJ te H Q:=by
 unfold lM;intro D hD;refine ⟨λi m ys H'=>m=n-i/\i<=n/\ys.length=i/\H' D=some (.lst ys)/\Pv D i ys H',⟨n,by simp,cG _,rfl,bO,h0 D _ hD bO (aU.upd hD)⟩,?_⟩;rintro i m ys H2 ⟨rfl,hi,hy,hD2,p⟩;refine ⟨hD2,?_⟩;by_cases hlt:i<n
 ·obtain ⟨g1,g2⟩:=hg D i ys H2 hlt hD2 p;refine .inr ⟨g1,bC (m:=100000) Oo Dd,λx H3 hy3=>?_⟩;obtain ⟨rfl,hx⟩:=g2 x H3 hy3;refine ⟨λb H4=>b=true/\H4=H3,⟨rfl,rfl⟩,?_⟩;rintro b H4 ⟨rfl,rfl⟩;rw [if_pos rfl];refine ⟨_,hs D i x ys H4 hx hlt hy hD2 p,?_⟩;rintro v H5 ⟨hD5,k⟩;exact ⟨hD5,n-(i+1),Oo,rfl,hlt,by rw [bE,hy];rfl,bO,k _ bO aR.self⟩
 ·have e:i=n:=Oo;subst e;exact .inl ⟨hst D ys H2 hD2 p,hd D ys H2 hy hD hD2 p⟩
end
@[irreducible] def QO(K:Aa):Al->Hp->VK->Prop:=λxs H Q=>∃(p:Addr) (ns:Af),xs=[.ref p]/\fI K H p (ns.map V.int)/\Q (.int ns.sum) H
@[irreducible] def VY(b:Bool):R2:=λx y H Q=>∃d d',cE H d x/\cE H d' y/\SeqAt.shaped d=true/\SeqAt.shaped d'=true/\Q (.bl (b == PyData.eqv d d')) H
section
variable{X:Cx}
def SS(hc:X.calm=true):iA X (.builtin "sum") (QO X.K):=by
 unfold QO;intro pins s σ H xs us Q I r h;obtain ⟨p,ns,rfl,hq,q⟩:=h;obtain ⟨u,rfl,rx⟩:=kD r;cases rx;obtain ⟨its,r',pl,hz⟩:=I.list hq;have hi:=nC r';obtain ⟨xs',e⟩:=hi.allInts.items;rw [e] at pl;refine sum_intListG (I.ok.hd hc) pl.isList λh' tk t' hk=>⟨.int ns.sum,H,I.kept hk,⟨t',?_⟩,q⟩;rw [preSum_eq,List.take_of_length_le (by simp)];rw [<-hi.numsOf];have e2:its=(intItems xs').toList:=by rw [<-e]
 rw [e2,nums_intItems]
def rsI{K:Aa}{H:Hp}{p:Addr}{ns:Af}{Q:VK}(h:fI K H p (ns.map V.int))(q:Q (.int ns.sum) H):QO K [.ref p] H Q:=by unfold QO;exact ⟨p,ns,rfl,h,q⟩
def HY(hu:X.A.units+64<cLine):uG X (compareOp .NotEq) (VY false):=by
 unfold VY;intro pins s σ H x y v u Q I rx ry h;obtain ⟨d,d',h1,h2,s1,s2,q⟩:=h;obtain ⟨as,ra⟩:=h1.reads I rx;obtain ⟨bs,rb⟩:=h2.reads I ry;exact SeqAt.compareNe_shaped ra rb s1 s2 hu ⟨.bl _,H,I,by show _=_;simp,q⟩
def reD{b:Bool}{x y:V}{d d':PyData}{H:Hp}{Q:VK}(h1:cE H d x)(h2:cE H d' y)(s1:SeqAt.shaped d=true)(s2:SeqAt.shaped d'=true)(q:Q (.bl (b == PyData.eqv d d')) H):VY b x y H Q:=by
 unfold VY;exact ⟨d,d',h1,h2,s1,s2,q⟩
end
mutual
def fO:PyData->Bool
 | .list _=>false
 | .dict _=>false
 | .tuple ds=>fY ds
 | _=>true
def fY:List PyData->Bool
 | []=>true
 | d::ds=>fO d&&fY ds
end
def dA(H H':Hp):Prop:=∀b xs,H b=some (.tup xs)->H' b=some (.tup xs)
def dA.trans{H H1 H2:Hp}(a:dA H H1)(b:dA H1 H2):dA H H2:=λc o h=>b c o (a c o h)
def aU.t{H H':Hp}(s:aU H H'):dA H H':=λb xs h=>s _ _ h
def aR.t{H H':Hp}{p:Addr}(s:aR p H H'){xs:Al}(hp:H p=some (.lst xs)):dA H H':=λb ys h=>s.at (pN h hp (by intro z;cases z)) h
mutual
theorem cE.flat{H H':Hp}(s:dA H H'):∀{d:PyData}{v:V},fO d=true->cE H d v->cE H' d v
 | .none,_,_,h=>h
 | .bool _,_,_,h=>h
 | .int _,_,_,h=>h
 | .str _,_,_,h=>h
 | .list _,_,f,_=>by simp [fO] at f
 | .dict _,_,f,_=>by simp [fO] at f
 | .tuple ds,_,f,h=>by
  unfold cE at h ⊢;obtain ⟨a,ys,rfl,h1,h2⟩:=h;exact ⟨a,ys,rfl,s _ _ h1,aQ.flat s (by simpa [fO] using f) h2⟩
theorem aQ.flat{H H':Hp}(s:dA H H'):∀{ds:List PyData}{vs:Al},fY ds=true->aQ H ds vs->aQ H' ds vs
 | [],_,_,h=>h
 | d::ds,_,f,h=>by
  unfold aQ at h ⊢;obtain ⟨x,ys,rfl,h1,h2⟩:=h;simp only [fY,cQ] at f;exact ⟨x,ys,rfl,cE.flat s f.1 h1,aQ.flat s f.2 h2⟩
end
theorem aQ.get{H:Hp}:∀{ds:List PyData}{vs:Al}{i:Nat}{v:V},aQ H ds vs->vs[i]?=some v->∃d,ds[i]?=some d/\cE H d v
 | [],_,i,v,h,e=>by cases (show _=[] from h);simp at e
 | d::ds,_,i,v,h,e=>by
  unfold aQ at h;obtain ⟨x,ys,rfl,h1,h2⟩:=h;cases i with
  | zero=>simp at e;subst e;exact ⟨d,rfl,h1⟩
  | succ i =>
   rw [List.getElem?_cons_succ] at e ⊢;exact aQ.get h2 e
theorem aQ.get'{H:Hp}:∀{ds:List PyData}{vs:Al}{i:Nat}{d:PyData},aQ H ds vs->ds[i]?=some d->∃v,vs[i]?=some v/\cE H d v
 | [],_,i,d,h,e=>by simp at e
 | d' :: ds,_,i,d,h,e=>by
  unfold aQ at h;obtain ⟨x,ys,rfl,h1,h2⟩:=h;cases i with
  | zero=>simp at e;subst e;exact ⟨x,rfl,h1⟩
  | succ i =>
   rw [List.getElem?_cons_succ] at e ⊢;exact aQ.get' h2 e
def aQ.snoc{H:Hp}{ds:List PyData}{vs:Al}{d:PyData}{v:V}(h:aQ H ds vs)(r:cE H d v):aQ H (ds++[d]) (vs++[v]):=aQ.append (aQ.cons r aQ.nil) h
def DE{i:Int}{n:Nat}(h:i.natAbs<2^n):bits i<=n:=PySem.intBits_le_iff.mpr h
def nT{i j:Int}{n m:Nat}(h1:i.natAbs<2^n)(h2:j.natAbs<2^m)(hn:n<=1048576:=by decide)(hm:m<=1048576:=by decide):IntMulOk i j:=by
 refine IntMulOk.of_bits ?_ ?_
 ·exact aM (DE h1) hn
 ·exact aM (DE h2) hm
mutual
def UC:PyData->Nat
 | .none=>4
 | .bool _=>5
 | .int _=>1921
 | .str x=>(reprText x).length
 | .list xs=>BT xs+4
 | .tuple xs=>BT xs+4
 | .dict _=>0
def BT:List PyData->Nat
 | []=>0
 | x::xs=>UC x+2+BT xs
end
theorem vP:∀(ts:Ah) (k:Nat) (acc:Str),(textFrom k acc ts).length<=acc.length+piled ts
 | [],k,acc=>by show acc.length<=_;exact Oo
 | t::r,k,acc=>by
  have h:=vP r (k+1) (acc++(if k > 0 then ", " else "" : String)++t);have e:(acc++(if k > 0 then ", " else "" : String)++t).length=acc.length+(if k > 0 then 2 else 0)+t.length:=by
   rw [strLen_append,strLen_append];split <;> rfl
  rw [e] at h;rw [piled_cons];show (textFrom (k+1) _ r).length<=_;refine aM h ?_;split <;> omega
def BI(ts:Ah):(tupleText ts).length<=piled ts+4:=by
 unfold tupleText;rw [strLen_append,strLen_append];have e1:(("(" : Str)).length=1:=rfl;have e2:((if ts.length == 1 then ",)" else ")" : String):Str).length<=2:=by split <;> decide
 rw [e1];by_cases h:ts=[]
 ·subst h;have:(Str.join ", " []).length=0:=rfl;exact Oo
 ·have:=join_length_add ts h;exact Oo
def FN(ts:Ah):(listText ts).length<=piled ts+4:=by
 unfold listText;rw [strLen_append];have:=vP ts 0 "[";have e1:(("[" : String):Str).length=1:=rfl;have e2:(("]" : String):Str).length=1:=rfl;rw [e1] at this;rw [e2];exact Oo
mutual
theorem xK:∀d:PyData,d.showable=true->d.hasDict=false->d.shown.length<=UC d
 | .none,_,_=>by simp only [PyData.shown,UC];decide
 | .bool b,_,_=>by cases b <;> (simp only [PyData.shown,UC];decide)
 | .int i,h,_=>by
  simp only [PyData.shown,UC];exact int_text_len_1921 (by simpa [PyData.showable] using h)
 | .str x,_,_=>by simp only [PyData.shown,UC];exact aI _
 | .list xs,h,h2=>by
  simp only [PyData.shown,UC];have:=qH xs (by simpa [PyData.showable] using h) (by simpa [PyData.hasDict] using h2);have:=FN (PyData.shownAll xs);exact Oo
 | .tuple xs,h,h2=>by
  simp only [PyData.shown,UC];have:=qH xs (by simpa [PyData.showable] using h) (by simpa [PyData.hasDict] using h2);have:=BI (PyData.shownAll xs);exact Oo
 | .dict _,_,h=>by simp [PyData.hasDict] at h
theorem qH:∀ds:List PyData,PyData.showableAll ds=true->PyData.hasDictAll ds=false->piled (PyData.shownAll ds)<=BT ds
 | [],_,_=>by simp only [PyData.shownAll,BT];exact aI _
 | d::ds,h,h2=>by
  simp only [PyData.showableAll,cQ] at h;simp only [PyData.hasDictAll,Bool.or_eq_false_iff] at h2;have:=xK d h.1 h2.1;have:=qH ds h.2 h2.2;simp only [PyData.shownAll,BT,piled_cons];exact Oo
end
def UZ{i:Int}{n:Nat}(h:i.natAbs<2^n)(hn:n<=1920:=by decide):PyData.showable (.int i)=true:=by
 simp only [PyData.showable];refine cL (vY (aM (DE h) hn) Dd)
section
variable{X:Cx}(K:Aa)
def iZ(h:X.K=K:=by rfl):TY X (rIx K):=by subst h;exact bK
def XW(hc:X.calm=true)(h:X.K=K:=by rfl):iA X (.builtin "sum") (QO K):=by subst h;exact SS hc
end
end L2
namespace L2
open PySem
def zD(b:Bool)(h:Heap)(i l:Addr)(k:Nat):Prop:=∃o,h.get? i=some o/\o.cls=.type (bif b then "tuple_iterator" else "list_iterator")/\o.data=.fields #[.ref l,.int k 0]
def nV(b:Bool)(h:Heap)(l:Addr)(xs:Ai):Prop:=∃o,h.get? l=some o/\o.cls=.type (bif b then "tuple" else "list")/\∃n,o.data=.seq xs n
def zD.at{b:Bool}{h h':Heap}{i l:Addr}{k:Nat}(x:zD b h i l k)(f:∀o,h.get? i=some o->h'.get? i=some o):zD b h' i l k:=let ⟨o,ho,r⟩:=x;⟨o,f o ho,r⟩
def nV.at{b:Bool}{h h':Heap}{l:Addr}{xs:Ai}(x:nV b h l xs)(f:∀o,h.get? l=some o->h'.get? l=some o):nV b h' l xs:=let ⟨o,ho,r⟩:=x;⟨o,f o ho,r⟩
section
variable{prog:Program}{w:World}{A:Around}{E:Value->Shared->Prop}{s:Shared}
def CH{b:Bool}{it l:Addr}{i:Nat}{items:Ai}{x:Value}{Q:Value->Shared->Prop}(hit:zD b s.heap it l i)(hl:nV b s.heap l items)(hx:items[i]?=some x)
  (hQ:∀h',zD b h' it l (i+1)->Heap.SameBut it s.heap h'->Q x { s with heap:=h' }):wpAny (model prog w) A (Builtin.SmallTypes.nextOf (.ref it)) Q E s:=by
 cases b with
 | false=>exact wpAny_nextOf_list_item hit hl hx hQ
 | true =>
  have ty:s.heap.IsTupleIter it l i:=hit;obtain ⟨o,ho,hc,hd⟩:=id ty;obtain ⟨ol,hol,_,nl,hdl⟩:=hl;unfold Builtin.SmallTypes.nextOf;refine wpAny_bind (wpAny_callSpecial?_slot (name:=Str.ofString "__next__") ty.typeIs F.slot_tuple_iterator_next (wpAny_call_entry F.slot_tuple_iterator_next ty.typeIs F.entry_tuple_iterator_next ?_ (F.args_tuple_iterator_next_1 _)));show wpAny _ _ (field (.ref it) 0 >>= _) _ _ s;refine wpAny_bind (wpAny_field ho hd (x:=.ref l) rfl ?_);show wpAny _ _ (if (Value.ref l == Value.none)=true then _ else _) _ _ s;rw [if_neg (show ¬((Value.ref l == Value.none)=true) from bR)];show wpAny _ _ (field (.ref it) 1 >>= _) _ _ s;refine wpAny_bind (wpAny_field ho hd (x:=.int i 0) rfl ?_);show wpAny _ _ (seqItems? (.ref l) >>= _) _ _ s;refine wpAny_bind (wpAny_seqItems hol hdl ?_);simp only [Int.toNat_natCast,hx];refine wpAny_bind (wpAny_setField ho hd (by simp) (wpAny_pure ⟨x,rfl,wpAny_pure (hQ _ ?_ (Heap.SameBut.update ..))⟩));refine ⟨_,Heap.get?_update_self _ ho (Obj.isFreed_of_fields (Obj.data_mapFields hd _)),(Obj.cls_mapFields ..).trans hc,?_⟩;rw [Obj.data_mapFields hd];simp [rawInt]
def RH{b:Bool}{it l:Addr}{i:Nat}{items:Ai}{Q:Value->Shared->Prop}(hh:A.handled=none)(hit:zD b s.heap it l i)(hl:nV b s.heap l items)(hx:items[i]?=none)
  (hE:∀h' e,Heap.ExtBut it s.heap h'->(∃o,h'.get? e=some o/\o.cls=.type "StopIteration")->E (.ref e) { s with heap:=h' }):wpAny (model prog w) A (Builtin.SmallTypes.nextOf (.ref it)) Q E s:=by
 cases b with
 | false=>exact wpAny_nextOf_list_end hh hit hl hx hE
 | true =>
  have ty:s.heap.IsTupleIter it l i:=hit;obtain ⟨o,ho,hc,hd⟩:=id ty;obtain ⟨ol,hol,_,nl,hdl⟩:=hl;unfold Builtin.SmallTypes.nextOf;refine wpAny_bind (wpAny_callSpecial?_slot (name:=Str.ofString "__next__") ty.typeIs F.slot_tuple_iterator_next (wpAny_call_entry F.slot_tuple_iterator_next ty.typeIs F.entry_tuple_iterator_next ?_ (F.args_tuple_iterator_next_1 _)));show wpAny _ _ (field (.ref it) 0 >>= _) _ _ s;refine wpAny_bind (wpAny_field ho hd (x:=.ref l) rfl ?_);show wpAny _ _ (if (Value.ref l == Value.none)=true then _ else _) _ _ s;rw [if_neg (show ¬((Value.ref l == Value.none)=true) from bR)];show wpAny _ _ (field (.ref it) 1 >>= _) _ _ s;refine wpAny_bind (wpAny_field ho hd (x:=.int i 0) rfl ?_);show wpAny _ _ (seqItems? (.ref l) >>= _) _ _ s;refine wpAny_bind (wpAny_seqItems hol hdl ?_);simp only [Int.toNat_natCast,hx];refine wpAny_bind (wpAny_rule (wpAny_bind (wpAny_setField ho hd (by simp) ?_)));show wpAny _ _ (newExc (.type "StopIteration") [] >>= _) _ _ _;refine wpAny_bind ?_;simp only [newExc,newTuple];refine wpAny_bind (wpAny_newObj_type ?_ (by size_fits));refine wpAny_bind (m:=firstArgMember _ _) (wpAny_of_eq (a:=Value.none) (by first | rfl | (simp only [firstArgMember];rfl)) ?_);refine wpAny_newObj_type ?_ (by size_fits);simp only [raiseNew];refine wpAny_bind (wpAny_handled ?_)
  first | rw [show A.in1.handled=none from hh] | rw [hh]
  refine wpAny_bind (wpAny_pure (wpAny_throw ?_));exact hE _ _ (((Heap.SameBut.update ..).extBut.push _).push _) ⟨_,bB _ rfl,rfl⟩
structure ZW(b1 b2:Bool)(z TI TO i1 i2 l1 l2:Addr)(f:Value)(k:Nat)(h:Heap):Prop where
 z:IsZip h z TI TO f
 ti:IsPair h TI (.ref i1) (.ref i2)
 to:∃a b,IsPair h TO a b
 i1:zD b1 h i1 l1 k
 i2:zD b2 h i2 l2 k
def LQ{b1 b2:Bool}{z TI TO i1 i2 l1 l2:Addr}{k:Nat}{xs ys:Ai}{x y:Value}{Q:Value->Shared->Prop}(D:ZipApart z TI TO i1 i2 l1 l2)(Z:ZW b1 b2 z TI TO i1 i2 l1 l2 .none k s.heap)
  (hl1:nV b1 s.heap l1 xs) (hl2:nV b2 s.heap l2 ys) (hx:xs[k]?=some x) (hy:ys[k]?=some y)
  (hQ:∀h',ZW b1 b2 z TI TO i1 i2 l1 l2 (rawInt s.heap.objs.size) (k+1) h'->IsPair h' s.heap.objs.size x y->(∀c o,c≠z->c≠TO->c≠i1->c≠i2->s.heap.get? c=some o->h'.get? c=some o)->Q (.ref s.heap.objs.size) { s with heap:=h' }) :
  wpAny (model prog w) A (Builtin.«zip.__next__» ⟨[.ref z],[]⟩) (λfin s'=>∃v,fin=.done (.ret v)/\Q v s') E s:=by
 obtain ⟨hz,hTI,⟨a,b,hTO⟩,h1,h2⟩:=Z;show wpAny _ _ (field (.ref z) 2 >>= _) _ _ _;refine wpAny_bind (wpAny_field hz rfl (x:=.bool false) rfl ?_);show wpAny _ _ (field (.ref z) 3 >>= _) _ _ _;refine wpAny_bind (wpAny_field hz rfl (x:=.ref TI) rfl ?_);refine wpAny_bind (wpAny_seqItems hTI rfl ?_);show wpAny _ _ (Builtin.SmallTypes.ownedTupleIsFree (.ref z) >>= _) _ _ _;refine wpAny_bind ?_;unfold Builtin.SmallTypes.ownedTupleIsFree;refine wpAny_bind (wpAny_field hz rfl (x:=.none) rfl (wpAny_pure ?_));simp only [if_true];refine wpAny_bind (wpAny_rule ?_);refine wpAny_bind (wpAny_field hz rfl (x:=.ref TO) rfl ?_);refine wpAny_bind (wpAny_setField_rec hz (by simp) λh₁ hz₁ hs₁=>?_);have g₁:=hs₁.extBut;replace hz₁:IsZip h₁ z TI TO .ellipsis:=hz₁;refine wpAny_bind ?_;simp only [List.zipIdx_cons,List.zipIdx_nil,List.forIn_cons,List.forIn_nil];refine wpAny_bind (wpAny_bind (wpAny_onRaise ?_));show wpAny _ _ (Builtin.SmallTypes.nextOf (.ref i1) >>= _) _ _ _;refine wpAny_bind (CH (h1.at λo e=>g₁ _ o D.i1z e) (hl1.at λo e=>g₁ _ o D.l1z e) hx λh₂ h1₂ hs₂=>wpAny_pure ?_);have g₂:=hs₂.extBut;have hTO₂:IsPair h₂ TO a b:=g₂ _ _ D.TOi1 (g₁ _ _ D.TOz hTO);refine wpAny_bind (wpAny_seqItems hTO₂ rfl ?_);refine wpAny_bind (wpAny_updateSeq_pair hTO₂ λh₃ hTO₃ hs₃=>?_);have g₃:=hs₃.extBut;replace hTO₃:IsPair h₃ TO x b:=hTO₃;refine wpAny_bind (wpAny_letGo (wpAny_pure ?_));refine wpAny_bind (wpAny_bind (wpAny_onRaise ?_));show wpAny _ _ (Builtin.SmallTypes.nextOf (.ref i2) >>= _) _ _ _
 refine wpAny_bind (CH (h2.at λo e=>g₃ _ o D.TOi2.symm (g₂ _ o D.i12.symm (g₁ _ o D.i2z e))) (hl2.at λo e=>g₃ _ o D.l2TO (g₂ _ o D.l2i1 (g₁ _ o D.l2z e))) hy λh₄ h2₄ hs₄=>wpAny_pure ?_);have g₄:=hs₄.extBut;have hTO₄:IsPair h₄ TO x b:=g₄ _ _ D.TOi2 hTO₃;refine wpAny_bind (wpAny_seqItems hTO₄ rfl ?_);refine wpAny_bind (wpAny_updateSeq_pair hTO₄ λh₅ hTO₅ hs₅=>?_);have g₅:=hs₅.extBut;replace hTO₅:IsPair h₅ TO x y:=hTO₅;refine wpAny_bind (wpAny_letGo (wpAny_pure (wpAny_pure ?_)));refine wpAny_bind (wpAny_seqItems hTO₅ rfl ?_);refine wpAny_bind (wpAny_newTuple ?_);have hsz:h₅.objs.size=s.heap.objs.size:=by rw [hs₅.1,hs₄.1,hs₃.1,hs₂.1,hs₁.1]
 have hz₅:IsZip h₅ z TI TO .ellipsis:=g₅ _ _ D.TOz.symm (g₄ _ _ D.i2z.symm (g₃ _ _ D.TOz.symm (g₂ _ _ D.i1z.symm hz₁)));have hk₅:∀c o,c≠z->c≠TO->c≠i1->c≠i2->s.heap.get? c=some o->h₅.get? c=some o:=λc o c1 c2 c3 c4 e=>g₅ _ _ c2 (g₄ _ _ c4 (g₃ _ _ c2 (g₂ _ _ c3 (g₁ _ _ c1 e))));have h1₅:zD b1 h₅ i1 l1 (k+1):=h1₂.at λo e=>g₅ _ o D.TOi1.symm (g₄ _ o D.i12 (g₃ _ o D.TOi1.symm e));have h2₅:zD b2 h₅ i2 l2 (k+1):=h2₄.at λo e=>g₅ _ o D.TOi2.symm e;have hzlt:=aV hz₅;show wpAny _ _ (Builtin.SmallTypes.ownedTupleHandOut (.ref z) (.ref h₅.objs.size) >>= _) _ _ _;refine wpAny_bind ?_;unfold Builtin.SmallTypes.ownedTupleHandOut;have hz₆:IsZip (h₅.push { cls:=.type "tuple",data:=.seq #[x,y] }) z TI TO .ellipsis:=aC _ hz₅;refine wpAny_bind (wpAny_setField_rec hz₆ (by simp) λh₇ hz₇ hs₇=>?_);replace hz₇:IsZip h₇ z TI TO (rawInt h₅.objs.size):=hz₇;refine wpAny_setField_rec hz₇ (by simp) λh₈ hz₈ hs₈=>?_;replace hz₈:IsZip h₈ z TI TO (rawInt h₅.objs.size):=hz₈;have up:∀c o,c≠z->h₅.get? c=some o->h₈.get? c=some o:=λc o c1 e=>hs₈.extBut _ _ c1 (hs₇.extBut _ _ c1 (aC _ e));have hT₈:IsPair h₈ h₅.objs.size x y:=hs₈.extBut _ _ (Nat.ne_of_gt hzlt) (hs₇.extBut _ _ (Nat.ne_of_gt hzlt) (bB _ rfl));rw [hsz] at hz₈ hT₈;refine wpAny_pure ⟨_,rfl,?_⟩;show Q (.ref h₅.objs.size) _;rw [hsz]
 exact hQ h₈ ⟨hz₈,up _ _ D.TIz (hk₅ _ _ D.TIz D.TITO D.TIi1 D.TIi2 hTI),⟨_,_,up _ _ D.TOz hTO₅⟩,h1₅.at λo e=>up _ o D.i1z e,h2₅.at λo e=>up _ o D.i2z e⟩ hT₈ λc o c1 c2 c3 c4 e=>up c o c1 (hk₅ c o c1 c2 c3 c4 e)
def OE{b1 b2:Bool}{z TI TO i1 i2 l1 l2:Addr}{k:Nat}{xs ys:Ai}{Q:Fin->Shared->Prop}(hh:A.handled=none)(D:ZipApart z TI TO i1 i2 l1 l2)(Z:ZW b1 b2 z TI TO i1 i2 l1 l2 .none k s.heap)
  (hl1:nV b1 s.heap l1 xs) (hl2:nV b2 s.heap l2 ys) (hend:xs[k]?=none\/ys[k]?=none)
  (hE:∀h' e,(∀c o,c≠z->c≠TO->c≠i1->c≠i2->s.heap.get? c=some o->h'.get? c=some o)->(∃o,h'.get? e=some o/\o.cls=.type "StopIteration")->E (.ref e) { s with heap:=h' }) :
  wpAny (model prog w) A (Builtin.«zip.__next__» ⟨[.ref z],[]⟩) Q E s:=by
 obtain ⟨hz,hTI,⟨a,b,hTO⟩,h1,h2⟩:=Z;show wpAny _ _ (field (.ref z) 2 >>= _) _ _ _;refine wpAny_bind (wpAny_field hz rfl (x:=.bool false) rfl ?_);show wpAny _ _ (field (.ref z) 3 >>= _) _ _ _;refine wpAny_bind (wpAny_field hz rfl (x:=.ref TI) rfl ?_);refine wpAny_bind (wpAny_seqItems hTI rfl ?_);show wpAny _ _ (Builtin.SmallTypes.ownedTupleIsFree (.ref z) >>= _) _ _ _;refine wpAny_bind ?_;unfold Builtin.SmallTypes.ownedTupleIsFree;refine wpAny_bind (wpAny_field hz rfl (x:=.none) rfl (wpAny_pure ?_));simp only [if_true];refine wpAny_bind (wpAny_rule ?_);refine wpAny_bind (wpAny_field hz rfl (x:=.ref TO) rfl ?_);refine wpAny_bind (wpAny_setField_rec hz (by simp) λh₁ hz₁ hs₁=>?_);have g₁:=hs₁.extBut;replace hz₁:IsZip h₁ z TI TO .ellipsis:=hz₁;refine wpAny_bind ?_;simp only [List.zipIdx_cons,List.zipIdx_nil,List.forIn_cons,List.forIn_nil];refine wpAny_bind (wpAny_bind (wpAny_onRaise ?_));show wpAny _ _ (Builtin.SmallTypes.nextOf (.ref i1) >>= _) _ _ _;cases hx:xs[k]? with
 | none =>
  refine wpAny_bind (RH hh (h1.at λo e=>g₁ _ o D.i1z e) (hl1.at λo e=>g₁ _ o D.l1z e) hx λh₂ e hs₂ he=>?_);obtain ⟨oe,hoe,hce⟩:=he;have hz₂:IsZip h₂ z TI TO .ellipsis:=hs₂ _ _ D.i1z.symm hz₁;have hez:e≠z:=λx=>by subst x;rw [hz₂] at hoe;cases hoe;simp at hce
  exact wpAny_setField_rec hz₂ (by simp) λh₃ _ hs₃=>hE h₃ e (λc o c1 _ c3 _ x=>hs₃.extBut _ _ c1 (hs₂ _ _ c3 (g₁ _ _ c1 x))) ⟨oe,hs₃.extBut _ _ hez hoe,hce⟩
 | some x =>
  have hy:ys[k]?=none:=by
   rcases hend with h | h
   ·rw [hx] at h;cases h
   ·exact h
  refine wpAny_bind (CH (h1.at λo e=>g₁ _ o D.i1z e) (hl1.at λo e=>g₁ _ o D.l1z e) hx λh₂ h1₂ hs₂=>wpAny_pure ?_);have g₂:=hs₂.extBut;have hTO₂:IsPair h₂ TO a b:=g₂ _ _ D.TOi1 (g₁ _ _ D.TOz hTO);refine wpAny_bind (wpAny_seqItems hTO₂ rfl ?_);refine wpAny_bind (wpAny_updateSeq_pair hTO₂ λh₃ hTO₃ hs₃=>?_);have g₃:=hs₃.extBut;refine wpAny_bind (wpAny_letGo (wpAny_pure ?_));refine wpAny_bind (wpAny_bind (wpAny_onRaise ?_));show wpAny _ _ (Builtin.SmallTypes.nextOf (.ref i2) >>= _) _ _ _;refine wpAny_bind (RH hh (h2.at λo e=>g₃ _ o D.TOi2.symm (g₂ _ o D.i12.symm (g₁ _ o D.i2z e))) (hl2.at λo e=>g₃ _ o D.l2TO (g₂ _ o D.l2i1 (g₁ _ o D.l2z e))) hy λh₄ e hs₄ he=>?_);obtain ⟨oe,hoe,hce⟩:=he;have hz₄:IsZip h₄ z TI TO .ellipsis:=hs₄ _ _ D.i2z.symm (g₃ _ _ D.TOz.symm (g₂ _ _ D.i1z.symm hz₁));have hez:e≠z:=λx=>by subst x;rw [hz₄] at hoe;cases hoe;simp at hce
  exact wpAny_setField_rec hz₄ (by simp) λh₅ _ hs₅=>hE h₅ e (λc o c1 c2 c3 c4 x=>hs₅.extBut _ _ c1 (hs₄ _ _ c4 (g₃ _ _ c2 (g₂ _ _ c3 (g₁ _ _ c1 x))))) ⟨oe,hs₅.extBut _ _ hez hoe,hce⟩
def LP{b1 b2:Bool}{z TI TO i1 i2 l1 l2:Addr}{k:Nat}{xs ys:Ai}{x y:Value}{Q:Option Value->Shared->Prop}(D:ZipApart z TI TO i1 i2 l1 l2)(Z:ZW b1 b2 z TI TO i1 i2 l1 l2 .none k s.heap)
  (hl1:nV b1 s.heap l1 xs) (hl2:nV b2 s.heap l2 ys) (hx:xs[k]?=some x) (hy:ys[k]?=some y)
  (hQ:∀h',ZW b1 b2 z TI TO i1 i2 l1 l2 (rawInt s.heap.objs.size) (k+1) h'->IsPair h' s.heap.objs.size x y->(∀c o,c≠z->c≠TO->c≠i1->c≠i2->s.heap.get? c=some o->h'.get? c=some o)->Q (some (.ref s.heap.objs.size)) { s with heap:=h' }) :
  wpAny (model prog w) A (pyNext (.ref z)) Q E s:=by
 have hT:s.TypeIs (.ref z) "zip" := ⟨_,Z.z,rfl⟩;unfold pyNext;refine wpAny_bind (wpAny_attempt (wpAny_callSpecial?_slot (name:=Str.ofString "__next__") hT F.slot_zip_next (wpAny_call_entry F.slot_zip_next hT F.entry_zip_next ?_ (F.args_zip_next_1 _))));exact LQ D Z hl1 hl2 hx hy λh' a1 a2 a3=>wpAny_pure (hQ h' a1 a2 a3)
def LO{b1 b2:Bool}{z TI TO i1 i2 l1 l2:Addr}{k:Nat}{xs ys:Ai}{Q:Option Value->Shared->Prop}(hh:A.handled=none)(D:ZipApart z TI TO i1 i2 l1 l2)(Z:ZW b1 b2 z TI TO i1 i2 l1 l2 .none k s.heap)
  (hl1:nV b1 s.heap l1 xs) (hl2:nV b2 s.heap l2 ys) (hend:xs[k]?=none\/ys[k]?=none)
  (hQ:∀h',(∀c o,c≠z->c≠TO->c≠i1->c≠i2->s.heap.get? c=some o->h'.get? c=some o)->Q none { s with heap:=h' }):wpAny (model prog w) A (pyNext (.ref z)) Q E s:=by
 have hT:s.TypeIs (.ref z) "zip" := ⟨_,Z.z,rfl⟩;unfold pyNext;refine wpAny_bind (wpAny_attempt (wpAny_callSpecial?_slot (name:=Str.ofString "__next__") hT F.slot_zip_next (wpAny_call_entry F.slot_zip_next hT F.entry_zip_next ?_ (F.args_zip_next_1 _))));refine OE hh D Z hl1 hl2 hend λh' e hk he=>?_;obtain ⟨o,ho,hc⟩:=he;refine wpAny_bind (wpAny_isInstance (T := "StopIteration") (b:=true) ⟨o,ho,hc⟩ isSubtype_stop ?_);exact wpAny_pure (hQ _ hk)
abbrev itO(b:Bool)(l:Addr):Obj:={ cls:=.type (bif b then "tuple_iterator" else "list_iterator"),data:=.fields #[.ref l,.int 0 0] }
def ZO{b:Bool}{l:Addr}{xs:Ai}{Q:Value->Shared->Prop}(h:nV b s.heap l xs)(q:Q (.ref s.heap.objs.size) { s with heap:=s.heap.push (itO b l) }):wpAny (model prog w) A (pyIter (.ref l)) Q E s:=by
 cases b with
 | false=>exact wpAny_pyIter_list h q
 | true=>exact wpAny_pyIter_tuple h q
end
end L2
namespace L2
open PySem PySem.Spec PyProof.Rows
section
variable{X:Cx}{pins:Ad}{σ:St}{H:Hp}{s:Shared}{h':Heap}
def cI.turnedL{t':Nat}{fp:List Addr}(I:cI X pins σ H s)(k:∀b o,b ∉ fp->s.heap.get? b=some o->h'.get? b=some o)(hf:∀b∈fp,jE X pins H b):cI X pins σ H { s with heap:=h',toks:=t' }:=by
 have nit:∀b u,H b=some u->b ∉ fp:=λb u e z=>by rw [(hf b z).1] at e;cases e
 refine I.step (g':=s.gens) (d':=s.drawn) (ch:=fp) (λb hb=>?_) (λb o _ _ hc e _=>k b o hc e) (λb o _ _ hc e _=>⟨o.slots,k b o hc e⟩) (λ_ _ _ _ n=>n)
  (λb o hc e=>⟨o,k b o hc e⟩) (λ_ _ e=>e) (λ_ _ _ e=>e) (λb ps e=>⟨#[],by rw [e];simp⟩) (λm hm=>?_) (λb u e=>?_) I.bare
 ·obtain ⟨f0,f1,f2,f3,f4,f5⟩:=hf b hb;exact ⟨f3,f1,f4,f5⟩
 ·obtain ⟨o,es,ep,ho,r⟩:=hm;exact ⟨o,es,ep,k _ o (λz=>(hf _ z).2.1 rfl) ho,r⟩
 ·refine (I.hok b u e).stay (λc v hc q=>k c v ?_ q) (λ_ q=>q) λ_ _ q=>q;rcases hc with z | z
  ·rw [z];exact nit b u e
  ·exact nit c _ z
def Un.putE{fs ex:List Addr}{H H1:Hp}{h h1:Heap}{a:Addr}{u:HO}(x:Un fs ex H H1 h h1)(ha:h.get? a=none)(hn:H1 a=none):Un fs ex H (upd H1 a u) h h1 where
 keep:=x.keep
 slot:=x.slot
 free:=λb ob e n m=>by rw [dC (λz=>by subst z;rw [ha] at e;cases e)];exact x.free b ob e n m
 there:=x.there
 tups:=λb xs e=>by rw [dC (dE (x.tups b xs e) hn)];exact x.tups b xs e
 frzs:=λb ob xs e=>by rw [dC (dE (x.frzs b ob xs e) hn)];exact x.frzs b ob xs e
 tbls:=λb ps e=>by
  obtain ⟨m,q⟩:=x.tbls b ps e;exact ⟨m,by rw [dC (dE q hn)];exact q⟩
def pQ.putE{P:Program}{w:World}{h:Heap}{a:Addr}{u:HO}(x:pQ P w H h)(hn:H a=none)(new:fH P w (upd H a u) h a u):pQ P w (upd H a u) h:=λb v e=>by
 by_cases hb:b=a
 ·subst hb;rw [bO] at e;cases e;exact new
 ·rw [dC hb] at e;exact (x b v e).stay (λc q _ r=>r) (λc q=>by rw [dC (dE q hn)];exact q) λc xs q=>by rw [dC (dE q hn)];exact q
def cI.put{a:Addr}{o:HO}(I:cI X pins σ H s)(f:jE X pins H a)(hs:X.s₀.heap.get? a=none)(new:fH X.prog X.w (upd H a o) s.heap a o):cI X pins σ (upd H a o) s :=
 ⟨I.ok,I.os,I.bare,I.base.putE hs f.1,I.loc,I.cell,by rw [dC (Ne.symm f.2.1)];exact I.free,λx c e=>by rw [dC (f.2.2.2.2.1 x c e)];exact I.freeC x c e,λp hp=>by
  obtain ⟨q1,q2,q3⟩:=I.pin p hp;exact ⟨q1,by rw [dC (f.2.2.2.2.2 p hp)];exact q2,q3⟩,pQ.putE I.hok f.1 new,I.len⟩
def DU(b:Bool)(xs:Al):HO:=bif b then .tup xs else .lst xs
def DU.inj{b:Bool}{xs ys:Al}(h:some (DU b xs)=some (DU b ys)):xs=ys:=by
 cases b <;> (injection h with h;injection h)
def cI.sq{b:Bool}{a:Addr}{xs:Al}(I:cI X pins σ H s)(h:H a=some (DU b xs)):∃its:Ag,dF xs its/\nV b s.heap a its.toArray:=by
 cases b with
 | false=>obtain ⟨its,r,p,_⟩:=I.list (fI.of h);exact ⟨its,r,p.isList⟩
 | true=>obtain ⟨its,r,p,_⟩:=I.tuple (iJ.of h);exact ⟨its,r,p⟩
end
def Itz(b1 b2:Bool)(l1 l2:Addr):It :=
  ⟨λi H=>∃xs ys x y,H l1=some (DU b1 xs)/\H l2=some (DU b2 ys)/\xs[i]?=some x/\ys[i]?=some y,
   λi H v H'=>∃q x y,v=.ref q/\H q=none/\H'=upd H q (.tup [x,y])/\∀xs ys,H l1=some (DU b1 xs)->H l2=some (DU b2 ys)->xs[i]?=some x/\ys[i]?=some y,
   λi H=>∃xs ys,H l1=some (DU b1 xs)/\H l2=some (DU b2 ys)/\(xs.length<=i\/ys.length<=i)⟩
structure ZD(z TI TO i1 i2:Addr):Prop where
 TIz:TI≠z
 TOz:TO≠z
 i1z:i1≠z
 i2z:i2≠z
 TITO:TI≠TO
 TIi1:TI≠i1
 TIi2:TI≠i2
 TOi1:TO≠i1
 TOi2:TO≠i2
 i12:i1≠i2
def ZD.seq(n:Nat):ZD (n+4) (n+2) (n+3) n (n+1) where
 TIz:=λh=>absurd (show (n+2:Nat)=n+4 from h) Oo
 TOz:=λh=>absurd (show (n+3:Nat)=n+4 from h) Oo
 i1z:=λh=>absurd (show (n:Nat)=n+4 from h) Oo
 i2z:=λh=>absurd (show (n+1:Nat)=n+4 from h) Oo
 TITO:=λh=>absurd (show (n+2:Nat)=n+3 from h) Oo
 TIi1:=λh=>absurd (show (n+2:Nat)=n from h) Oo
 TIi2:=λh=>absurd (show (n+2:Nat)=n+1 from h) Oo
 TOi1:=λh=>absurd (show (n+3:Nat)=n from h) Oo
 TOi2:=λh=>absurd (show (n+3:Nat)=n+1 from h) Oo
 i12:=λh=>absurd (show (n:Nat)=n+1 from h) Oo
def ZD.all{z TI TO i1 i2 l1 l2:Addr}(d:ZD z TI TO i1 i2){H:Hp}{o1 o2:HO}(e1:H l1=some o1)(e2:H l2=some o2)(h:∀b∈[z,TI,TO,i1,i2],H b=none):ZipApart z TI TO i1 i2 l1 l2 :=
 ⟨d.TIz,d.TOz,d.i1z,d.i2z,d.TITO,d.TIi1,d.TIi2,d.TOi1,d.TOi2,d.i12,dE e1 (h _ (by simp)),dE e1 (h _ (by simp)),dE e1 (h _ (by simp)),dE e1 (h _ (by simp)),dE e2 (h _ (by simp)),dE e2 (h _ (by simp)),dE e2 (h _ (by simp)),dE e2 (h _ (by simp))⟩
def OU{P:Program}{w:World}{K:Aa}{elts:List Expr}{x1}{tp:Pos}{b1 b2:Bool}{z TI TO i1 i2 l1 l2:Addr}(d:ZD z TI TO i1 i2):DO P w K (.Tuple elts x1 tp) (Itz b1 b2 l1 l2) [z,TI,TO,i1,i2] z (λi h=>ZW b1 b2 z TI TO i1 i2 l1 l2 .none i h) where
 mem:=by simp
 obj:=λi h st b hb=>by
  obtain ⟨a,b',ht⟩:=st.to;obtain ⟨o1,e1,_,d1⟩:=st.i1;obtain ⟨o2,e2,_,d2⟩:=st.i2;simp only [aZ,List.not_mem_nil,or_false] at hb;rcases hb with rfl | rfl | rfl | rfl | rfl
  ·exact ⟨_,st.z,λv q=>by cases q⟩
  ·exact ⟨_,st.ti,λv q=>by cases q⟩
  ·exact ⟨_,ht,λv q=>by cases q⟩
  ·exact ⟨_,e1,λv q=>by rw [d1] at q;cases q⟩
  ·exact ⟨_,e2,λv q=>by rw [d2] at q;cases q⟩
 keep:=λi h h' st k=>by
  obtain ⟨a,b,ht⟩:=st.to;exact ⟨k _ (by simp) _ st.z,k _ (by simp) _ st.ti,⟨a,b,k _ (by simp) _ ht⟩,st.i1.at λo e=>k _ (by simp) o e,st.i2.at λo e=>k _ (by simp) o e⟩
 item:=by
  intro X hP hw hK hc i pins s σ H E I hf st hg;subst hP hw hK;obtain ⟨xs,ys,x,y,e1,e2,hx,hy⟩:=hg;obtain ⟨u1,r1,p1⟩:=I.sq e1;obtain ⟨u2,r2,p2⟩:=I.sq e2;obtain ⟨ux,hux,rx⟩:=r1.get hx;obtain ⟨uy,huy,ry⟩:=r2.get hy;have D:=d.all e1 e2 λb hb=>(hf b hb).1;refine LP D st p1 p2 (x:=ux) (y:=uy) (by simpa using hux) (by simpa using huy) λh' Z' hp hk=>⟨_,rfl,wpAny_letOwnedTupleGo_zip Z'.z λh2 hz2 hs2=>?_⟩;have kk:∀b o,b ∉ [z,TI,TO,i1,i2]->s.heap.get? b=some o->h2.get? b=some o:=λb o hb e=>by
   simp only [aZ,List.not_mem_nil,or_false,not_or] at hb;exact hs2.extBut b o hb.1 (hk b o hb.1 hb.2.2.1 hb.2.2.2.1 hb.2.2.2.2 e)
  have I1:cI X pins σ H { s with heap:=h2 }:=I.turnedL (t':=s.toks) kk hf;have fq:jE X pins H s.heap.objs.size:=I.fpOk (aI _) (I.hok.fresh (aI _));have e0:X.s₀.heap.get? s.heap.objs.size=none:=by
   cases q:X.s₀.heap.get? s.heap.objs.size with
   | none=>rfl
   | some o=>exact absurd (aN (aV q) I.sz) (bL _)
  have nz:s.heap.objs.size≠z:=λq=>absurd (aV st.z) (by rw [<-q];exact bL _);obtain ⟨a,b,ht⟩:=Z'.to;refine ⟨.ref s.heap.objs.size,upd H s.heap.objs.size (.tup [x,y]),I1.put fq e0 ⟨⟨tL (by show 2<=64;decide),_,hs2.extBut _ _ nz hp,rfl⟩,[ux,uy],.cons rx (.cons ry .nil),⟨_,hs2.extBut _ _ nz hp,rfl,_,rfl⟩⟩,rfl,⟨_,x,y,rfl,fq.1,rfl,λxs' ys' q1 q2=>?_⟩,
   ⟨hz2,hs2.extBut _ _ d.TIz Z'.ti,⟨a,b,hs2.extBut _ _ d.TOz ht⟩,Z'.i1.at λo e=>hs2.extBut _ o d.i1z e,Z'.i2.at λo e=>hs2.extBut _ o d.i2z e⟩,λb hb=>?_⟩
  ·rw [e1] at q1;rw [e2] at q2;rw [<-DU.inj q1,<-DU.inj q2];exact ⟨hx,hy⟩
  ·have nb:b≠s.heap.objs.size:=λq=>by
    obtain ⟨a',b',ht'⟩:=st.to;obtain ⟨o1,e1',_⟩:=st.i1;obtain ⟨o2,e2',_⟩:=st.i2;have lt:∀{c o},s.heap.get? c=some o->c≠s.heap.objs.size:=λe=>cA (aV e);simp only [aZ,List.not_mem_nil,or_false] at hb;rcases hb with rfl | rfl | rfl | rfl | rfl
    ·exact lt st.z q
    ·exact lt st.ti q
    ·exact lt ht' q
    ·exact lt e1' q
    ·exact lt e2' q
   rw [dC nb];exact (hf b hb).1
 done:=by
  intro X hP hw hK hc i pins s σ H E I hf st hg;subst hP hw hK;obtain ⟨xs,ys,e1,e2,hl⟩:=hg;obtain ⟨u1,r1,p1⟩:=I.sq e1;obtain ⟨u2,r2,p2⟩:=I.sq e2;have D:=d.all e1 e2 λb hb=>(hf b hb).1;have l1:=r1.length;have l2:=r2.length;have hend:u1.toArray[i]?=none\/u2.toArray[i]?=none:=by
   rcases hl with h | h
   ·left;simp;exact Oo
   ·right;simp;exact Oo
  refine LO (I.ok.hd hc) D st p1 p2 hend λh' hk=>⟨rfl,I.turnedL (t':=s.toks) (λb o hb e=>?_) hf⟩;simp only [aZ,List.not_mem_nil,or_false,not_or] at hb;exact hk b o hb.1 hb.2.2.1 hb.2.2.2.1 hb.2.2.2.2 e
 self:=λ_ _ _ _ _ st h=>wpAny_pyIter_zip st.z h
abbrev zA(b:Bool)(h:Heap)(l:Addr):Heap:=h.push (itO b l)
abbrev zB(b1 b2:Bool)(h:Heap)(l1 l2:Addr):Heap:=(zA b1 h l1).push (itO b2 l2)
abbrev zC(b1 b2:Bool)(h:Heap)(l1 l2:Addr):Heap:=(zB b1 b2 h l1 l2).push { cls:=.type "tuple",data:=.seq #[.ref h.objs.size,.ref (zA b1 h l1).objs.size] }
abbrev zE(b1 b2:Bool)(h:Heap)(l1 l2:Addr):Heap:=(zC b1 b2 h l1 l2).push { cls:=.type "tuple",data:=.seq #[.none,.none] }
abbrev zF(b1 b2:Bool)(h:Heap)(l1 l2:Addr):Heap:=(zE b1 b2 h l1 l2).push { cls:=.type "zip",data:=.fields #[.none,.bool false,.bool false,.ref (zB b1 b2 h l1 l2).objs.size,.ref (zC b1 b2 h l1 l2).objs.size] }
def aBo(b1 b2:Bool)(l1 l2:Addr)(xs ys:Ai):Meets (Builtin.«zip.__new__» ⟨[.type "zip",.ref l1,.ref l2],[]⟩) (λ_ R s=>nV b1 s.heap l1 xs/\nV b2 s.heap l2 ys/\R (.ok (.ret (.ref (zE b1 b2 s.heap l1 l2).objs.size))) { s with heap:=zF b1 b2 s.heap l1 l2 }) :=
 .of_wp λprog w A R s h=>by
  obtain ⟨hp,g,d,tk,os⟩:=s;obtain ⟨hl1,hl2,h⟩:=h;have hsub:=sub_zip;have hL1:nV b1 (Shared.heap ⟨hp,g,d,tk,os⟩) l1 xs:=hl1;have hL2:nV b2 (Shared.heap ⟨hp.push (itO b1 l1),g,d,tk,os⟩) l2 ys:=hl2.at λo e=>aC _ e
  wp_walk using ZO hL1,ZO hL2
  exact ⟨_,rfl,h⟩
section
variable{prog:Program}{w:World}{A:Around}{E:Value->Shared->Prop}{s:Shared}
def aC5{b1 b2:Bool}{l1 l2:Addr}{xs ys:Ai}{Q:Value->Shared->Prop}(hl1:nV b1 s.heap l1 xs)(hl2:nV b2 s.heap l2 ys)
  (h:∀h',ZW b1 b2 (s.heap.objs.size+4) (s.heap.objs.size+2) (s.heap.objs.size+3) s.heap.objs.size (s.heap.objs.size+1) l1 l2 .none 0 h'->(∀c o,s.heap.get? c=some o->h'.get? c=some o)->Q (.ref (s.heap.objs.size+4)) { s with heap:=h' }) :
  wpAny (model prog w) A (call (.type "zip") [.ref l1,.ref l2]) Q E s:=by
 refine callType_new F.called_zip Dd (F.typeCall_zip_2 _ _) (F.newCall_zip_2 _ _) (λobj=>F.args_object_init_3 obj _ _) F.entry_zip_new (aBo b1 b2 l1 l2 xs ys) ⟨hl1,hl2,?_⟩;have z1:(zA b1 s.heap l1).objs.size=s.heap.objs.size+1:=fG ..;have z2:(zB b1 b2 s.heap l1 l2).objs.size=s.heap.objs.size+2:=by rw [fG,z1]
 have z3:(zC b1 b2 s.heap l1 l2).objs.size=s.heap.objs.size+3:=by rw [fG,z2]
 have z4:(zE b1 b2 s.heap l1 l2).objs.size=s.heap.objs.size+4:=by rw [fG,z3]
 have g5:(zF b1 b2 s.heap l1 l2).get? (zE b1 b2 s.heap l1 l2).objs.size=some _:=bB _ rfl;have g4:(zF b1 b2 s.heap l1 l2).get? (zC b1 b2 s.heap l1 l2).objs.size=some _:=aC _ (bB _ rfl);have g3:(zF b1 b2 s.heap l1 l2).get? (zB b1 b2 s.heap l1 l2).objs.size=some _:=aC _ (aC _ (bB _ rfl));have g2:(zF b1 b2 s.heap l1 l2).get? (zA b1 s.heap l1).objs.size=some _:=aC _ (aC _ (aC _ (bB _ rfl)));have g1:(zF b1 b2 s.heap l1 l2).get? s.heap.objs.size=some _:=aC _ (aC _ (aC _ (aC _ (bB _ rfl))));show _/\_;rw [z2,z3,z4] at g5;rw [z1,z2] at g3;rw [z3] at g4;rw [z1] at g2;rw [z4];exact ⟨⟨_,g5,rfl⟩,h _ ⟨g5,g3,⟨_,_,g4⟩,⟨_,g1,rfl,rfl⟩,⟨_,g2,rfl,rfl⟩⟩ λc o x=>aC _ (aC _ (aC _ (aC _ (aC _ x))))⟩
end
def aCX(b1 b2:Bool)(ta:TA):TI:=λσ H R=>ta σ H λvs H1=>∃l1 l2 xs ys,vs=[.ref l1,.ref l2]/\H1 l1=some (DU b1 xs)/\H1 l2=some (DU b2 ys)/\R (Itz b1 b2 l1 l2) H1
def TK:bootBuiltins (Str.ofString "zip")=some (Value.type "zip"):=Kk
section
variable{X:Cx}
def aBb{a b:Expr}{ta:TA}{p pos tp:Pos}{elts:List Expr}{x1}{b1 b2:Bool}(hg:Gl X "zip")(hm:X.mg "zip" = none)(ha:PA X [a,b] ta)(hs:starEach [a,b] X.env=[(false,eval a X.env),(false,eval b X.env)])(hs2:starEach [b] X.env=[(false,eval b X.env)]) :
  PI X (.Tuple elts x1 tp) (.Call (.Name "zip" p) [a,b] [] pos) (aCX b1 b2 ta):=by
 intro pins s σ H R I h;refine Call_ (pD I hg hm TK (PyProof.Rows.callWith_type1 (thn (ha pos pins s σ H _ I h) λus s1 ⟨vs,H1,I1,r1,q1⟩=>?_) (by rw [hs,hs2]) (by rw [hs2];rfl)));obtain ⟨l1,l2,xs,ys,e,e1,e2,q⟩:=q1;subst e;cases r1 with
 | cons r rr =>
  cases rr with
  | cons r' rr =>
   cases rr;cases r;cases r';obtain ⟨u1,_,p1⟩:=I1.sq e1;obtain ⟨u2,_,p2⟩:=I1.sq e2;refine aC5 p1 p2 λh' Z kk=>wpAny_pyIter_zip Z.z ?_;refine ⟨_,[s1.heap.objs.size+4,s1.heap.objs.size+2,s1.heap.objs.size+3,s1.heap.objs.size,s1.heap.objs.size+1],_,_,H1,rfl,I1.kept (t':=s1.toks) kk,OU (ZD.seq _),Z,λb hb=>?_,q⟩;have hle:s1.heap.objs.size<=b:=by
    simp only [aZ,List.not_mem_nil,or_false] at hb;rcases hb with rfl | rfl | rfl | rfl | rfl
    ·exact Nat.le_add_right _ _
    ·exact Nat.le_add_right _ _
    ·exact Nat.le_add_right _ _
    ·exact aI _
    ·exact Nat.le_add_right _ _
   exact I1.fpOk hle (I1.hok.fresh hle)
def BE(b1 b2:Bool){a b:Expr}{ta:TA}{p pos tp:Pos}{elts:List Expr}{x1}(hg:Gl X "zip")(hm:X.mg "zip" = none)(ha:IV X [a,b] ta)(hs:starEach [a,b] X.env=[(false,eval a X.env),(false,eval b X.env)]:=by rfl)(hs2:starEach [b] X.env=[(false,eval b X.env)]:=by first | exact gX | exact gM | exact dL | rfl) :
  TW X (.Tuple elts x1 tp) (.Call (.Name "zip" p) [a,b] [] pos) (aCX b1 b2 ta):=⟨aBb hg hm ha.p hs hs2⟩
end
def KK{b1 b2:Bool}{l1 l2:Addr}{xs ys:Al}{g:TG}{tb:TS}{D:uI}{σ:St}{H:Hp}(Pv:Nat->St->Hp->Prop)(h0:Pv 0 σ H)(hl:∀i σ H,Pv i σ H->H l1=some (DU b1 xs)/\H l2=some (DU b2 ys))
  (hs:∀i x y q σ H H',xs[i]?=some x->ys[i]?=some y->Pv i σ H->H q=none->H' q=some (.tup [x,y])->aU H H'->g (.ref q) σ H' λσ2 H2=>tb { D with nx:=Pv (i+1),ct:=Pv (i+1),bk:=D.nx } σ2 H2) (hd:∀σ H,Pv (min xs.length ys.length) σ H->D.nx σ H) :
  ∃W:Nat->Nat->St->Hp->Prop,(∃m,W 0 m σ H)/\∀i m σ H,W i m σ H ->
   ((Itz b1 b2 l1 l2).stop i H/\D.nx σ H)\/((Itz b1 b2 l1 l2).go i H/\∃N:St->Hp->Prop,(∀σ' H',N σ' H'->∃m',m' < m/\W (i+1) m' σ' H')/\∀x H',(Itz b1 b2 l1 l2).yld i H x H'->g x σ H' λσ2 H2=>tb { D with nx:=N,ct:=N,bk:=D.nx } σ2 H2):=by
 refine ⟨λi m σ H=>m=min xs.length ys.length-i/\i<=min xs.length ys.length/\Pv i σ H,⟨_,rfl,cG _,h0⟩,?_⟩;rintro i m σ H ⟨rfl,hi,p⟩;obtain ⟨q1,q2⟩:=hl i σ H p;by_cases hlt:i<min xs.length ys.length
 ·have hx:xs[i]?=some xs[i]:=aB Oo;have hy:ys[i]?=some ys[i]:=aB Oo;refine .inr ⟨⟨xs,ys,_,_,q1,q2,hx,hy⟩,Pv (i+1),λσ' H' p'=>⟨_,Oo,rfl,hlt,p'⟩,λv H' y=>?_⟩;obtain ⟨q,x,y,rfl,hq,rfl,hh⟩:=y;obtain ⟨h1,h2⟩:=hh xs ys q1 q2;exact hs i x y q σ H _ h1 h2 p hq bO (aU.upd hq)
 ·have e:i=min xs.length ys.length:=Oo;subst e;refine .inl ⟨⟨xs,ys,q1,q2,?_⟩,hd σ H p⟩;exact Oo
end L2
namespace L2
open PySem
def pF:Ag->Af->Bool
 | [],[]=>true
 | .int i _::vs,n::ns=>decide (i=n)&&pF vs ns
 | _,_=>false
def sJ(K:Aa)(a:Addr)(ns:Af):Bool :=
 match K.lookup a with
 | some o=>(match o.cls with | .type n=>n == "tuple" | _=>false)&&(match o.data with | .seq xs _=>decide (xs.size<=64)&&pF xs.toList ns | _=>false)
 | none=>false
theorem pF.vals:∀{vs:Ag}{ns:Af},pF vs ns=true->dF (ns.map V.int) vs
 | [],[],_=>.nil
 | v::vs,n::ns,h=>by
  cases v with
  | int i t =>
   have h':(decide (i=n)&&pF vs ns)=true:=h;rw [cQ] at h';have e:=of_decide_eq_true h'.1;subst e;exact .cons ⟨t,rfl⟩ (pF.vals h'.2)
  | _=>cases h
 | [],_::_,h=>by cases h
 | v::_,[],h=>by cases v <;> cases h
def EL{K:Aa}{H:Hp}{a:Addr}{ns:Af}(h:sJ K a ns=true):iJ K H a (ns.map V.int):=by
 unfold sJ at h;split at h
 ·rename_i o ho
  rw [cQ] at h;obtain ⟨h1,h2⟩:=h;split at h1
  ·rename_i n hn
   split at h2
   ·rename_i xs m hx
    rw [cQ] at h2;have e:n = "tuple" := by simpa using h1
    subst e;exact .inr ⟨o,xs,m,ho,hn,hx,tL (of_decide_eq_true h2.1),pF.vals h2.2⟩
   ·cases h2
  ·cases h1
 ·cases h
def iJ.keep{K:Aa}{H H':Hp}{a:Addr}{xs:Al}(s:aU H H')(h:iJ K H a xs):iJ K H' a xs:=by
 rcases h with (h | ⟨o,h⟩) | h
 ·exact .inl (.inl (s _ _ h))
 ·exact .inl (.inr ⟨o,s _ _ h⟩)
 ·exact .inr h
mutual
def jZ(K:Aa)(H:Hp):PyData->V->Prop
 | .none,v=>v=.non
 | .bool b,v=>v=.bl b
 | .int i,v=>v=.int i
 | .str x,v=>v=.str x
 | .list ds,v=>∃a xs,v=.ref a/\H a=some (.lst xs)/\gC K H ds xs
 | .tuple ds,v=>∃a xs,v=.ref a/\iJ K H a xs/\gC K H ds xs
 | .dict kvs,v=>kvs=[]/\∃a,v=.ref a/\H a=some (.dK [])
def gC(K:Aa)(H:Hp):List PyData->Al->Prop
 | [],vs=>vs=[]
 | d::ds,vs=>∃x xs,vs=x::xs/\jZ K H d x/\gC K H ds xs
end
mutual
theorem cE.k{K:Aa}{H:Hp}:∀{d:PyData}{v:V},cE H d v->jZ K H d v
 | .none,_,h=>h
 | .bool _,_,h=>h
 | .int _,_,h=>h
 | .str _,_,h=>h
 | .list ds,_,h=>by
  unfold cE at h;unfold jZ;obtain ⟨a,xs,rfl,h1,h2⟩:=h;exact ⟨a,xs,rfl,h1,aQ.k h2⟩
 | .tuple ds,_,h=>by
  unfold cE at h;unfold jZ;obtain ⟨a,xs,rfl,h1,h2⟩:=h;exact ⟨a,xs,rfl,iJ.of h1,aQ.k h2⟩
 | .dict kvs,_,h=>by unfold cE at h;unfold jZ;exact h
theorem aQ.k{K:Aa}{H:Hp}:∀{ds:List PyData}{vs:Al},aQ H ds vs->gC K H ds vs
 | [],_,h=>h
 | d::ds,_,h=>by
  unfold aQ at h;unfold gC;obtain ⟨x,xs,rfl,h1,h2⟩:=h;exact ⟨x,xs,rfl,cE.k h1,aQ.k h2⟩
end
def jZ.tup{K:Aa}{H:Hp}{a:Addr}{xs:Al}{ds:List PyData}(h:iJ K H a xs)(r:gC K H ds xs):jZ K H (.tuple ds) (.ref a):=by
 unfold jZ;exact ⟨a,xs,rfl,h,r⟩
theorem gC.ints{K:Aa}{H:Hp}:∀ns:Af,gC K H (ns.map PyData.int) (ns.map V.int)
 | []=>by unfold gC;rfl
 | n::ns=>by unfold gC;exact ⟨_,_,rfl,by unfold jZ;rfl,gC.ints ns⟩
section
variable{X:Cx}{pins:Ad}{σ:St}{H:Hp}{s:Shared}
mutual
theorem jZ.reads(I:cI X pins σ H s):∀{d:PyData}{v:V}{u:Value},jZ X.K H d v->dN v u->∃as,Reads s.heap u d as
 | .none,_,u,h,r=>by
  cases (show _=V.non from h);cases (show u=Value.none from r);exact ⟨_,.none⟩
 | .bool b,_,u,h,r=>by
  cases (show _=V.bl b from h);cases (show u=Value.bool b from r);exact ⟨_,.bool b⟩
 | .int b,_,u,h,r=>by
  cases (show _=V.int b from h);obtain ⟨t,q⟩:=(show ∃t,u=Value.int b t from r);cases q;exact ⟨_,.int b t⟩
 | .str b,_,u,h,r=>by
  cases (show _=V.str b from h);obtain ⟨t,q⟩:=(show ∃t,u=Value.str b t from r);cases q;exact ⟨_,.str b t⟩
 | .list ds,v,u,h,r=>by
  unfold jZ at h;obtain ⟨a,xs,rfl,h1,h2⟩:=h;cases (show u=Value.ref a from r);obtain ⟨_,its,n,r',e⟩:=(show fH X.prog X.w H s.heap a (.lst xs) from I.hok a _ h1);obtain ⟨as,q⟩:=gC.reads I h2 r';exact ⟨_,.list e rfl rfl (by simpa using q)⟩
 | .tuple ds,v,u,h,r=>by
  unfold jZ at h;obtain ⟨a,xs,rfl,h1,h2⟩:=h;cases (show u=Value.ref a from r);obtain ⟨its,r',⟨o,e,hc,n,hd⟩,_⟩:=I.tuple h1;obtain ⟨as,q⟩:=gC.reads I h2 r';exact ⟨_,.tuple e hc hd (by simpa using q)⟩
 | .dict kvs,v,u,h,r=>cE.reads I (d:=.dict kvs) (by unfold cE;unfold jZ at h;exact h) r
theorem gC.reads(I:cI X pins σ H s):∀{ds:List PyData}{vs:Al}{us:Ag},gC X.K H ds vs->dF vs us->∃as,ReadsAll s.heap us ds as
 | [],_,us,h,r=>by
  cases (show _=[] from h);cases r;exact ⟨_,.nil⟩
 | d::ds,_,us,h,r=>by
  unfold gC at h;obtain ⟨x,xs,rfl,h1,h2⟩:=h;cases r with
  | cons r1 r2 =>
   obtain ⟨as,q1⟩:=jZ.reads I h1 r1;obtain ⟨bs,q2⟩:=gC.reads I h2 r2;exact ⟨_,.cons q1 q2⟩
end
end
@[irreducible] def VX(K:Aa)(b:Bool):R2:=λx y H Q=>∃d d',jZ K H d x/\jZ K H d' y/\SeqAt.shaped d=true/\SeqAt.shaped d'=true/\Q (.bl (b == PyData.eqv d d')) H
section
variable{X:Cx}
def RG(K:Aa)(hu:X.A.units+64<cLine)(hK:X.K=K:=by rfl):uG X (compareOp .Eq) (VX K true):=by
 subst hK;unfold VX;intro pins s σ H x y v u Q I rx ry h;obtain ⟨d,d',h1,h2,s1,s2,q⟩:=h;obtain ⟨as,ra⟩:=h1.reads I rx;obtain ⟨bs,rb⟩:=h2.reads I ry;exact SeqAt.compareEq_shaped ra rb s1 s2 hu ⟨.bl _,H,I,by show _=_;simp,q⟩
end
section
variable{K:Aa}{H:Hp}{p:Addr}{xs:Al}{i:Int}{v:V}{Q:VK}
def reK{b:Bool}{x y:V}{d d':PyData}(h1:jZ K H d x)(h2:jZ K H d' y)(s1:SeqAt.shaped d=true)(s2:SeqAt.shaped d'=true)(q:Q (.bl (b == PyData.eqv d d')) H):VX K b x y H Q:=by
 unfold VX;exact ⟨d,d',h1,h2,s1,s2,q⟩
def nS(h:iJ K H p xs)(e:yT xs i=some v)(q:Q v H):rIx K (.ref p) (.int i) H Q:=.inr (.inl ⟨p,xs,i,v,rfl,rfl,h,e,q⟩)
end
def DA(xs:Al)(k:Nat):lU xs (some (k:Int)) none=xs.drop k:=by
 unfold lU;rw [HT.BV,HT.tN];by_cases h:k<=xs.length
 ·rw [Nat.min_eq_left h];exact List.take_of_length_le (by rw [List.length_drop];exact aI _)
 ·rw [Nat.min_eq_right Oo,List.drop_of_length_le (aI _),List.drop_of_length_le Oo,List.take_nil]
def DB(xs:Al)(k:Nat):lU xs none (some (k:Int))=xs.take k:=by
 unfold lU;rw [HT.BV,HT.tN,List.drop_zero,Nat.sub_zero];by_cases h:k<=xs.length
 ·rw [Nat.min_eq_left h]
 ·rw [Nat.min_eq_right Oo,List.take_of_length_le (aI _),List.take_of_length_le Oo]
@[irreducible] def VQ(K:Aa):V->Option Int->Option Int->Hp->VK->Prop:=aCy K
def qG{X:Cx}(K:Aa)(h:X.K=K:=by rfl):SlR X (VQ K):=by subst h;unfold VQ;exact JK
def slL{K:Aa}{H:Hp}{a:Addr}{xs ys:Al}{lo hi:Option Int}{Q:VK}(h:H a=some (.lst xs))(e:lU xs lo hi=ys)(k:∀q H',H q=none->H' q=some (.lst ys)->aU H H'->Q (.ref q) H'):VQ K (.ref a) lo hi H Q:=by
 unfold VQ;exact ⟨a,xs,rfl,fI.of h,λp hp=>by rw [e];exact k p _ hp bO (aU.upd hp)⟩
section
variable{σ:St}{js:Ae}{te:TE}{H:Hp}{Q:VK}
def xI{R:Nat->V->Prop}{ys:Al}{y:V}(h:∀(j:Nat) z,ys[j]?=some z->R j z)(r:R ys.length y):∀(j:Nat) z,(ys++[y])[j]?=some z->R j z:=λj z hj=>by
 by_cases hji:j<ys.length
 ·rw [cO hji] at hj;exact h j z hj
 ·rw [cW Oo] at hj;have:j-ys.length=0:=by
   by_cases q:j-ys.length=0
   ·exact q
   ·rw [eK (by simp;exact Oo)] at hj;cases hj
  rw [this] at hj;have hj':y=z:=by simpa using hj
  have:j=ys.length:=Oo;subst this hj';exact r
def AL{J:It}{n:Nat}(src:Nat->V->Prop)(R:Nat->V->Hp->Prop)(hR:∀i y H1 H2,dA H1 H2->R i y H1->R i y H2)(hz:n<=100000)
  (hg:∀i H',aU H H'->i<n->J.go i H'/\∀x H3,J.yld i H' x H3->H3=H'/\src i x) (hst:∀H',aU H H'->J.stop n H')
  (hs:∀i x H' (Q':VK),src i x->i<n->aU H H'->(∀y H5,aU H' H5->R i y H5->Q' y H5)->te (some x::slots σ js) H' Q')
  (hd:∀D ys H',H D=none->H' D=some (.lst ys)->aU H H'->ys.length=n->(∀(i:Nat) (y:V),ys[i]?=some y->R i y H')->Q (.ref D) H'):lM J σ js BJ te H Q:=by
 refine GE (J:=J) (n:=n) src hz (λD i ys H'=>H D=none/\aU H H'/\∀(i:Nat) (y:V),ys[i]?=some y->R i y H') (λD H1 hD _ s=>⟨hD,s,λi y h=>by simp at h⟩)
  (λD i ys H' hi _ p=>hg i H' p.2.1 hi) (λD ys H' _ p=>hst H' p.2.1) (λD i x ys H' hx hi hy hD p=>?_) (λD ys H' hy hD hD' p=>hd D ys H' hD hD' p.2.1 hy p.2.2)
 refine hs i x H' _ hx hi p.2.1 λy H5 s5 r=>⟨s5 _ _ hD,λH6 hD6 s6=>⟨p.1,aU.thru p.1 (p.2.1.trans s5) s6,?_⟩⟩;have t6:=s6.t (s5 _ _ hD);exact xI (R:=λj z=>R j z H6) (λj z hj=>hR j z _ _ (s5.t.trans t6) (p.2.2 j z hj)) (by rw [hy];exact hR i y _ _ t6 r)
def hV{K:Aa}{a:Addr}{xs:Al}(R:Nat->V->Hp->Prop)(hR:∀i y H1 H2,dA H1 H2->R i y H1->R i y H2)(hz:xs.length<=100000)(hl:H a=some (.lst xs))
  (hs:∀i x H' (Q':VK),xs[i]?=some x->aU H H'->(∀y H5,aU H' H5->R i y H5->Q' y H5)->te (some x::slots σ js) H' Q')
  (hd:∀D ys H',H D=none->H' D=some (.lst ys)->aU H H'->ys.length=xs.length->(∀(i:Nat) (y:V),ys[i]?=some y->R i y H')->Q (.ref D) H'):lM (ZZ K a) σ js BJ te H Q :=
 AL (λi x=>xs[i]?=some x) R hR hz (λi H' s hi=>⟨⟨xs,xs[i],fI.of (s _ _ hl),by simp [hi]⟩,λx H3 y=>⟨y.1,y.2 xs (fI.of (s _ _ hl))⟩⟩) (λH' s=>⟨xs,fI.of (s _ _ hl),aI _⟩)
  (λi x H' Q' hx _ s k=>hs i x H' Q' hx s k) hd
def hJ{lo:Int}{n:Nat}(R:Nat->V->Hp->Prop)(hR:∀i y H1 H2,dA H1 H2->R i y H1->R i y H2)(hz:n<=100000)
  (hs:∀i H' (Q':VK),i<n->aU H H'->(∀y H5,aU H' H5->R i y H5->Q' y H5)->te (some (.int (lo+(i:Nat)))::slots σ js) H' Q')
  (hd:∀D ys H',H D=none->H' D=some (.lst ys)->aU H H'->ys.length=n->(∀(i:Nat) (y:V),ys[i]?=some y->R i y H')->Q (.ref D) H'):lM (YS lo n) σ js BJ te H Q :=
 AL (λi x=>x=.int (lo+(i:Nat))) R hR hz (λi H' s hi=>⟨hi,λx H3 y=>y⟩) (λH' s=>aI _)
  (λi x H' Q' hx hi s k=>by subst hx;exact hs i H' Q' hi s k) hd
def aR.thru{p l:Addr}{H0 H1 H2:Hp}(hl:H0 l=none)(s:aR p H0 H1)(b:aR l H1 H2):aR p H0 H2:=λc o e=>by
 have n:=iV.ne e;have e0:H0 c=some o:=by rw [iV.at n] at e;exact e
 have nl:c≠l:=λz=>by subst z;rw [hl] at e0;cases e0
 exact iV.of n (b.at nl (s.at n e0))
end
theorem aQ.ofIdx{H:Hp}:∀{ds:List PyData}{ys:Al},ys.length=ds.length->(∀(i:Nat) (y:V),ys[i]?=some y->∃d,ds[i]?=some d/\cE H d y)->aQ H ds ys
 | [],[],_,_=>aQ.nil
 | d::ds,y::ys,hl,h=>by
  obtain ⟨d',e,r⟩:=h 0 y rfl;cases (show d=d' by simpa using e);exact aQ.cons r (aQ.ofIdx (by simpa using hl) λi z hz=>by simpa using h (i+1) z (by simpa using hz))
 | [],_::_,hl,_=>by simp at hl
 | _::_,[],hl,_=>by simp at hl
theorem pE{P:Nat->Int->Prop}:∀{ys:Al},(∀(i:Nat) (y:V),ys[i]?=some y->∃n,y=.int n/\P i n)->∃ns:Af,ys=ns.map V.int/\∀(i:Nat) n,ns[i]?=some n->P i n
 | [],_=>⟨[],rfl,λi n h=>by simp at h⟩
 | y::ys,h=>by
  obtain ⟨n,rfl,hn⟩:=h 0 y rfl;obtain ⟨ns,rfl,hs⟩:=pE (P:=λi=>P (i+1)) (ys:=ys) λi z hz=>h (i+1) z (by simpa using hz);refine ⟨n::ns,rfl,λi m hm=>?_⟩;cases i with
  | zero=>cases (show n=m by simpa using hm);exact hn
  | succ i=>exact hs i m (by simpa using hm)
end L2
namespace L2
open PySem PySem.Spec PyProof.Rows
def iO.u1{k:Nat}{A:Around}(r:iO k A):A.units+1<cLine:=by have:=r.units;exact Oo
@[irreducible] def rDG:R2:=λx y H Q=>∃a v,x=.ref a/\oS H a y (some v)/\Q v H
@[irreducible] def rDP(D:uI)(σ:St)(x y v:V)(H:Hp):Prop:=∃a H4,x=.ref a/\DS H a y v H4/\D.nx σ H4
def ZG(td ty tv:TE):TS:=λD σ H=>tv σ H λv H1=>td σ H1 λx H2=>ty σ H2 λy H3=>rDP D σ x y v H3
structure YO(X:Cx)(pos:Pos)(keys:List (Option Expr))(values:List Expr)(trs:List (TE × TE)):Prop where p:PPs X pos keys values trs
section
variable{X:Cx}{o i value k v:Expr}{td ty tv tk:TE}{pos pos':Pos}{ks:List (Option Expr)}{vs:List Expr}{trs:List (TE × TE)}
def gH(hu:X.A.units+1<cLine)(ho:iN X o td)(hi:iN X i ty)(hs:aBX i:=by intro _ _;rfl):iN X (.Subscript o i pos) (US rDG td ty):=⟨by unfold rDG;exact WR hu ho.p hi.p hs⟩
def iL(hu:X.A.units+1<cLine)(ho:iN X o td)(hi:iN X i ty)(hv:iN X value tv)(hs:swapsWith value (some (.Subscript o i pos')) pos.line X.env=pure false:=by rfl) :
  GQ X (.Assign [.Subscript o i pos'] value pos) (ZG td ty tv):=⟨by unfold ZG rDP;exact WH hu ho.p hi.p hv.p hs⟩
def UI:YO X pos [] [] []:=⟨pps_nil⟩
def wY(hk:iN X k tk)(hv:iN X v tv)(hr:YO X pos ks vs trs):YO X pos (some k::ks) (v::vs) ((tk,tv)::trs):=⟨QW hk.p hv.p hr.p⟩
def UO(h:YO X pos ks vs trs)(hall:ks.all (·.isSome)=true:=by rfl)(hl:ks.length=vs.length:=by rfl)(h0:ks≠[]:=by intro h;cases h)(h15:ks.length<=15:=by decide):iN X (.Dict ks vs pos) (ZF trs):=⟨WQ h.p hall hl h0 h15⟩
end
def dgS{H:Hp}{p:Addr}{kvs:List (fE × V)}{x:Str}{v:V}{Q:VK}(e:H p=some (.dK kvs))(hv:fQ kvs (.inr x)=some v)(q:Q v H):rDG (.ref p) (.str x) H Q:=by
 unfold rDG;exact ⟨p,v,rfl,hv ▸ oS.k (k:=.inr x) e,q⟩
def dpS{H:Hp}{p:Addr}{kvs kvs2:List (fE × V)}{x:Str}{v:V}{D:uI}{σ:St}(e:H p=some (.dK kvs))(hl:kvs.length<=64)(hk:iX kvs (.inr x) v=kvs2)(q:∀H',H' p=some (.dK kvs2)->aR p H H'->D.nx σ H') :
  rDP D σ (.ref p) (.str x) v H:=by
 unfold rDP;exact ⟨p,_,rfl,DS.k (k:=.inr x) e (bC hl Dd),q _ (by rw [hk];exact bO) aR.self⟩
def aR.tD{H H':Hp}{p:Addr}(s:aR p H H'){xs:List (fE × V)}(hp:H p=some (.dK xs)):dA H H':=λb ys h=>s.at (pN h hp (by intro z;cases z)) h
section
variable{σ:St}{js:Ae}{te:TE}{H:Hp}{Q:VK}
end
structure IZ(p L:Addr)(Fd:Nat->Hp->Prop):Prop where
 but:∀n D H1 H2,D≠p->D≠L->aR D H1 H2->Fd n H1->Fd n H2
 same:∀n H1 H2,aU H1 H2->Fd n H1->Fd n H2
 dic:∀n H',Fd n H'->∃xs,H' p=some (.dK xs)
 np:∀n H' D,Fd n H'->H' D=none->D≠p/\D≠L
section
variable{σ:St}{js:Ae}{te:TE}{H:Hp}{Q:VK}
def XU{J:It}{n:Nat}{p L:Addr}{Fd:Nat->Hp->Prop}(fl:IZ p L Fd)(F0:Fd 0 H)(src:Nat->V->Prop)(R:Nat->V->Hp->Prop)(hR:∀i y H1 H2,dA H1 H2->R i y H1->R i y H2)(hz:n<=100000)
  (hg:∀i H',aR p H H'->i<n->J.go i H'/\∀x H3,J.yld i H' x H3->H3=H'/\src i x) (hst:∀H',aR p H H'->J.stop n H')
  (hs:∀i x H' (Q':VK),src i x->i<n->Fd i H'->aR p H H'->(∀y H5,Fd (i+1) H5->aR p H' H5->R i y H5->Q' y H5)->te (some x::slots σ js) H' Q')
  (hd:∀D ys H',H D=none->H' D=some (.lst ys)->Fd n H'->aR p H H'->ys.length=n->(∀(i:Nat) (y:V),ys[i]?=some y->R i y H')->Q (.ref D) H'):lM J σ js BJ te H Q:=by
 refine GE (J:=J) (n:=n) src hz (λD i ys H'=>H D=none/\Fd i H'/\aR p H H'/\∀(i:Nat) (y:V),ys[i]?=some y->R i y H') (λD H1 hD _ s=>⟨hD,fl.same _ _ _ s F0,s.but,λi y h=>by simp at h⟩)
  (λD i ys H' hi _ q=>hg i H' q.2.2.1 hi) (λD ys H' _ q=>hst H' q.2.2.1) (λD i x ys H' hx hi hy hD q=>?_) (λD ys H' hy hD hD' q=>hd D ys H' hD hD' q.2.1 q.2.2.1 hy q.2.2.2)
 obtain ⟨np,nL⟩:=fl.np _ _ _ F0 q.1;refine hs i x H' _ hx hi q.2.1 q.2.2.1 λy H5 F5 s5 r=>?_;obtain ⟨xs,hp⟩:=fl.dic _ H' q.2.1;have hD5:=s5.at np hD;refine ⟨hD5,λH6 hD6 s6=>⟨q.1,fl.but _ D _ _ np nL s6 F5,aR.thru q.1 (q.2.2.1.trans s5) s6,?_⟩⟩;have t6:=s6.t hD5;exact xI (R:=λj z=>R j z H6) (λj z hj=>hR j z _ _ ((s5.tD hp).trans t6) (q.2.2.2 j z hj)) (by rw [hy];exact hR i y _ _ t6 r)
def yH{lo:Int}{n:Nat}{p L:Addr}{Fd:Nat->Hp->Prop}(fl:IZ p L Fd)(F0:Fd 0 H)(R:Nat->V->Hp->Prop)(hR:∀i y H1 H2,dA H1 H2->R i y H1->R i y H2)(hz:n<=100000)
  (hs:∀i H' (Q':VK),i<n->Fd i H'->aR p H H'->(∀y H5,Fd (i+1) H5->aR p H' H5->R i y H5->Q' y H5)->te (some (.int (lo+(i:Nat)))::slots σ js) H' Q')
  (hd:∀D ys H',H D=none->H' D=some (.lst ys)->Fd n H'->aR p H H'->ys.length=n->(∀(i:Nat) (y:V),ys[i]?=some y->R i y H')->Q (.ref D) H'):lM (YS lo n) σ js BJ te H Q :=
 XU fl F0 (λi x=>x=.int (lo+(i:Nat))) R hR hz (λi H' s hi=>⟨hi,λx H3 y=>y⟩) (λH' s=>aI _)
  (λi x H' Q' hx hi f s k=>by subst hx;exact hs i H' Q' hi f s k) hd
end
def TZ(K:Aa)(a:Addr)(n:Nat):It :=
 ⟨λi H=>∃xs x,fI K H a xs/\xs.length=n/\i<n/\xs[n-1-i]?=some x,λi H x H'=>H'=H/\∀xs,fI K H a xs->xs[n-1-i]?=some x,λi H=>i=n⟩
def OV{P:Program}{w:World}{K:Aa}{tg:Expr}(a it:Addr)(n:Nat):DO P w K tg (TZ K a n) [it] it (λi h=>h.IsRevIter it a ((n:Int)-1-(i:Nat))) where
 mem:=by simp
 obj:=λi h st b hb=>by
  have e:b=it:=by simpa using hb
  subst e;obtain ⟨o,e,c,d⟩:=st;exact ⟨o,e,λv z=>by rw [d] at z;cases z⟩
 keep:=λi h h' st k=>st.at λo e=>k it (by simp) o e
 item:=by
  intro X hP hw hK hc i pins s σ H E I hf st hg;subst hP hw hK;obtain ⟨xs,x,hq,hn,hi,hx⟩:=hg;obtain ⟨its,rv,p,hz⟩:=I.list hq;obtain ⟨u,hu,ru⟩:=rv.get hx;obtain ⟨f0,f1,f2,f3,f4,f5⟩:=hf it (by simp);have e1:(n:Int)-1-(i:Nat)=((n-1-i:Nat):Int):=Oo;have st:s.heap.IsRevIter it a ((n:Int)-1-(i:Nat)):=st;rw [e1] at st;refine wpAny_pyNext_rev_item st p.isList (x:=u) (by simpa using hu) λh' st' sb=>?_;have I1:cI X pins σ H { s with heap:=h' }:=I.turned (t':=s.toks) (λb o hb e=>(sb.2 b hb).trans e) f0 f1 f3 f4 f5;have e2:((n-1-i:Nat):Int)-1=(n:Int)-1-((i+1:Nat):Int):=Oo;rw [e2] at st';obtain ⟨o,e,c,d⟩:=id st';exact ⟨u,rfl,KH (s:={ s with heap:=h' }) e c d Dd ⟨x,H,I1,ru,⟨rfl,λys hy=>by rw [I.list_inj hy hq];exact hx⟩,st',λb hb=>(hf b hb).1⟩⟩
 done:=by
  intro X hP hw hK hc i pins s σ H E I hf st hg;subst hP hw hK;have hi:i=n:=hg;subst hi;obtain ⟨f0,f1,f2,f3,f4,f5⟩:=hf it (by simp);have st:s.heap.IsRevIter it a ((i:Int)-1-(i:Nat)):=st;rw [show (i:Int)-1-(i:Nat)=-1 by omega] at st;exact wpAny_pyNext_rev_end (I.ok.hd hc) st λh' eb=>⟨rfl,I.turned (t':=s.toks) (λb o hb e=>eb b o hb e) f0 f1 f3 f4 f5⟩
 self:=λ_ _ _ _ _ st h=>wpAny_pyIter_revIter st h
def aEs(K:Aa)(ta:TA):TI:=λσ H R=>ta σ H λvs H1=>∃l xs,vs=[.ref l]/\fI K H1 l xs/\R (TZ K l xs.length) H1
def NU:bootBuiltins (Str.ofString "reversed")=some (Value.type "reversed"):=Kk
section
variable{X:Cx}{tg:Expr}
def OM{a:Expr}{ta:TA}{p pos:Pos}(hg:Gl X "reversed")(hm:X.mg "reversed" = none)(ha:IV X [a] ta)(hs:starEach [a] X.env=[(false,eval a X.env)]:=by first | exact gX | exact gM | exact dL | rfl) :
  TW X tg (.Call (.Name "reversed" p) [a] [] pos) (aEs X.K ta):=⟨by
 intro pins s σ H R I h;refine Call_ (pD I hg hm NU (PyProof.Rows.callWith_type1 (thn (ha.p pos pins s σ H _ I h) λus s1 ⟨vs,H1,I1,r1,q1⟩=>?_) (by rw [hs];rfl) (by rfl)));obtain ⟨l,xs,e,e1,q⟩:=q1;subst e;obtain ⟨u,rfl,ru⟩:=kD r1;cases ru;obtain ⟨its,rv,p,hz⟩:=I1.list e1;have hl:=rv.length;refine call_reversed_list p.isList ?_;have e:((its.toArray.size:Nat):Int)-1=(xs.length:Int)-1-((0:Nat):Int):=by simp;exact Oo
 rw [e];refine wpAny_pyIter_revIter (l:=l) (i:=(xs.length:Int)-1-((0:Nat):Int)) ⟨_,bB _ rfl,rfl,rfl⟩ ⟨s1.heap.objs.size,[s1.heap.objs.size],_,_,H1,rfl,I1.kept (t':=s1.toks) λb o e=>aC _ e,OV l _ xs.length,⟨_,bB _ rfl,rfl,rfl⟩,λb hb=>?_,q⟩;have e:b=s1.heap.objs.size:=by simpa using hb
 subst e;exact I1.fpOk (aI _) (I1.hok.fresh (aI _))⟩
end
def KM{K:Aa}{a:Addr}{xs:Al}{g:TG}{tb:TS}{D:uI}{σ:St}{H:Hp}(Pv:Nat->St->Hp->Prop)(h0:Pv 0 σ H)(hl:∀i σ H,i<=xs.length->Pv i σ H->fI K H a xs)
  (hs:∀i x σ H,i<xs.length->xs[xs.length-1-i]?=some x->Pv i σ H->g x σ H λσ2 H2=>tb { D with nx:=Pv (i+1),ct:=Pv (i+1),bk:=D.nx } σ2 H2) (hd:∀σ H,Pv xs.length σ H->D.nx σ H) :
  ∃W:Nat->Nat->St->Hp->Prop,(∃m,W 0 m σ H)/\∀i m σ H,W i m σ H ->
   ((TZ K a xs.length).stop i H/\D.nx σ H)\/((TZ K a xs.length).go i H/\∃N:St->Hp->Prop,(∀σ' H',N σ' H'->∃m',m' < m/\W (i+1) m' σ' H')/\∀x H',(TZ K a xs.length).yld i H x H'->g x σ H' λσ2 H2=>tb { D with nx:=N,ct:=N,bk:=D.nx } σ2 H2):=by
 refine ⟨λi m σ H=>m=xs.length-i/\i<=xs.length/\Pv i σ H,⟨xs.length,by simp,cG _,h0⟩,?_⟩;rintro i m σ H ⟨rfl,hi,p⟩;have q:=hl i σ H hi p;by_cases hlt:i<xs.length
 ·have hx:xs[xs.length-1-i]?=some (xs[xs.length-1-i]'Oo):=aB Oo;refine .inr ⟨⟨xs,_,q,rfl,hlt,hx⟩,Pv (i+1),λσ' H' p'=>⟨xs.length-(i+1),Oo,rfl,hlt,p'⟩,λx H' y=>?_⟩;obtain ⟨e,y⟩:=y;subst e;exact hs i x σ _ hlt (y xs q) p
 ·have e:i=xs.length:=Oo;subst e;exact .inl ⟨rfl,hd σ H p⟩
structure gS(X:Cx)(scope:Scope)(xs:Ah)(N':Ah)(js:Ae):Prop where
 calm:X.calm=true
 free:∀y∈scope.names,y.2=.free->X.env.kindOf y.1=some .cell
 cell:∀y∈scope.names,y.2 ≠ .cell
 kind:scope.kind=.function
 names:∀y∈scope.names,y.2=.local->scope.names.lookup y.1=some .local
 own:∀x∈xs,scope.names.lookup x=some .local
 nofl:∀y,(y,NameKind.free)∈scope.names->scope.names.lookup y=some .local->False
 len:N'.length=xs.length+js.length
 pre:∀(i:Nat) x,xs[i]?=some x->N'[i]?=some x
 nd:N'.Nodup
 slot:∀(i:Nat) (j:Nat),js[i]?=some j->∃y,N'[xs.length+i]?=some y/\X.N[j]?=some y/\(y,NameKind.free)∈scope.names
def CS:Nat->Nat->TV
 | _,0=>aBA
 | i,n+1=>RZ (nE i) (CS (i+1) n)
def gN(K:Aa)(n:Nat):TG:=aBz K n (CS 0 n)
theorem yD{H:Hp}{r:St}{Q:St->Hp->Prop}:∀(vs:Al) (pre os:St),os.length=vs.length->Q (pre++(vs.map some++r)) H->CS pre.length vs.length vs (pre++(os++r)) H Q
 | [],pre,[],_,q=>⟨rfl,q⟩
 | v::vs,pre,o::os,hl,q=>by
  refine ⟨v,vs,rfl,?_⟩;show CS (pre.length+1) vs.length vs ((pre++(o::os++r)).set pre.length (some v)) H Q;have e1:(pre++(o::os++r)).set pre.length (some v)=(pre++[some v])++(os++r):=by
   rw [List.set_append_right _ _ (aI _),Nat.sub_self,List.append_assoc];rfl
  have e2:pre.length+1=(pre++[some v]).length:=by rw [bE];rfl
  rw [e1,e2];refine yD vs (pre++[some v]) os (by simpa using hl) ?_;rw [List.append_assoc];exact q
@[irreducible] def wF(K:Aa)(n:Nat)(J:It)(σ:St)(js:Ae)(tc:TT)(te:TE)(H1:Hp)(Q:VK):Prop:=∀D,H1 D=none->∃W:Nat->Nat->Al->Hp->Prop,(∃m,W 0 m [] (upd H1 D (.lst []))) /\
 ∀i m ys H2,W i m ys H2->H2 D=some (.lst ys)/\((J.stop i H2/\Q (.ref D) H2)\/(J.go i H2/\ys.length<sizeLine/\∀x H3,J.yld i H2 x H3->∃a vs,x=.ref a/\iJ K H3 a vs/\vs.length=n /\
  rS tc (vs.map some++slots σ js) H3 λb H4=>if b=true then xA te (vs.map some++slots σ js) H4 λy H5=>H5 D=some (.lst ys)/\∃m',m' < m/\W (i+1) m' (ys++[y]) (upd H5 D (.lst (ys++[y])))
   else H4 D=some (.lst ys)/\∃m',m' < m/\W (i+1) m' ys H4))
def BL(K:Aa)(n:Nat)(wi:TI)(js:Ae)(tc:TT)(te:TE):TE:=λσ H Q=>wi σ H λJ H1=>wF K n J σ js tc te H1 Q
section
variable{X:Cx}{pins:Ad}{σ:St}{H:Hp}{s:Shared}{scope:Scope}{xs:Ah}{N':Ah}{js:Ae}{fp:List Addr}
theorem gS.cells(S:gS X scope xs N' js)(ok:X.Ok):∀y∈scope.names,y.2=.free->∃c,X.env.cells.lookup y.1=some c:=λy hy hf=>ok.has _ (.inl (S.free y hy hf))
def XR(S:gS X scope xs N' js)(I:cI X pins σ H s)(hf:∀b∈fp,jE X pins H b)(hb:∀b∈fp,b<s.heap.objs.size):(mI X scope s.heap.objs.size fp s H N').Ok where
 mod:=I.ok.mod
 kind:=S.kind
 glob:=I.ok.glob
 blt:=I.ok.blt
 above:=aI _
 inj:=λy z c h1 h2=>I.ok.inj y z c (fP (S.cells I.ok) h1) (fP (S.cells I.ok) h2)
 has:=λy hy=>by
  have hm:(y,NameKind.free)∈scope.names:=by
   rcases hy with hy | hy
   ·exact jN (env:=X.env) hy (.inl rfl) S.cell
   ·exact jN (env:=X.env) hy (.inr rfl) S.cell
  obtain ⟨c,hc⟩:=S.cells I.ok _ hm rfl;exact ⟨c,kI (S.cells I.ok) hm hc⟩
 cab:=λ_ _ h=>by cases h
 hd:=λ_=>I.ok.hd S.calm
 frames:=I.ok.frames
 stk:=.inl rfl
 exf:=λb hb'=>⟨λe=>by have:=hb b hb';rw [e] at this;exact bL _ this,λy c h=>(hf b hb').2.2.2.2.1 y c (fP (S.cells I.ok) h)⟩
 bs:=I.bs
 bsz:=aM I.ok.bsz I.sz
 noex:=λb o e hb'=>by
  rcases (hf b hb').2.2.2.1 with h | h
  ·exact I.ok.noex b o e h
  ·exact absurd (aN (aV e) (aM I.ok.bsz h)) (bL _)
 exfs:=λb hb' hs=>by
  have h2:=I.stkSub b hs;rcases aZ.mp h2 with h2 | h2
  ·exact (hf b hb').2.1 h2
  ·exact (hf b hb').2.2.1 h2
 funs:=I.stack
 frf:=I.stkFree
def SL{h':Heap}{tk:Nat}(S:gS X scope xs N' js)(I:cI X pins σ H s)(hf:∀b∈fp,jE X pins H b)(hb:∀b∈fp,b<s.heap.objs.size)
  (hn:h'.Ns s.heap.objs.size (λ_=>none)) (hk:∀b o,s.heap.get? b=some o->h'.get? b=some o):cI (mI X scope s.heap.objs.size fp s H N') [] (List.replicate xs.length none++slots σ js) H { s with heap:=h',toks:=tk } where
 ok:=XR S I hf hb
 os:=rfl
 bare:=I.bare
 base:=Un.kept hk
 loc:=by
  refine ⟨_,hn,λi y v hi hv hvis=>?_⟩;by_cases hlt0:i<xs.length
  ·rw [cO (by rw [dS];exact hlt0),List.getElem?_replicate,if_pos hlt0] at hv;cases hv
  ·obtain ⟨i,rfl⟩:∃k,i=xs.length+k:=⟨i-xs.length,Oo⟩;rw [cW (by rw [dS];exact Oo),dS,Nat.add_sub_cancel_left] at hv;have hv':(slots σ js)[i]?=some (some v):=hv;have hlt:i<js.length:=by
    have:=(aF.mp hv').1;unfold slots at this
    rwa [aA] at this
   have hj:js[i]?=some js[i]:=aB hlt;obtain ⟨z,h1,h2,h3⟩:=S.slot i _ hj;have hzy:z=y:=by
    have:N'[xs.length+i]?=some y:=hi;rw [h1] at this;cases this;rfl
   subst hzy;rw [uV hj] at hv';have hσ:σ[js[i]]?=some (some v):=by
    cases q:σ[js[i]]? with
    | none=>rw [q] at hv';cases hv'
    | some o=>rw [q] at hv';cases hv';rfl
   have hkc:X.env.kindOf z=some .cell:=S.free _ h3 rfl;obtain ⟨m,hm,hl⟩:=I.loc;obtain ⟨u,ru,lk⟩:=hl _ z v h2 hσ (.inr (.inl hkc));rcases lk with ⟨hk1,_⟩ | ⟨_,c,hc,hcell⟩
   ·rw [hkc] at hk1;cases hk1
   ·refine ⟨u,ru,.inr ⟨?_,c,kI (S.cells I.ok) h3 hc,?_⟩⟩
    ·rcases hvis with hvis | hvis | hvis
     ·exfalso;have hcl:=kI (S.cells I.ok) h3 hc;have hm2:=mZ (l:=(relabel scope X.env).names) hvis;unfold relabel at hm2;obtain ⟨⟨n,k⟩,hmem,he⟩:=aX.mp hm2;dsimp only at he;by_cases hq:(k == NameKind.free&&X.env.scope.kind == .function&&X.env.kindOf n == some .cell)=true
      ·rw [if_pos hq] at he;cases he
      ·rw [if_neg hq] at he;cases he;have:=S.names _ hmem rfl;have l2:=mY h3;obtain ⟨c',l2⟩:=l2;dsimp only at this;rw [this] at l2;have key:(relabel scope X.env).names.lookup z=some .local:=lookup_relabel_local this;have hck:scope.names.lookup z=some .local:=this;exact S.nofl z h3 hck
     ·exact .inl hvis
     ·exact .inr hvis
    ·obtain ⟨o,e,r⟩:=hcell;exact ⟨o,hk _ _ e,r⟩
 cell:=λy c h=>by
  obtain ⟨v,o,e,r⟩:=I.cell y c (fP (S.cells I.ok) h);exact ⟨v,o,hk _ _ e,r⟩
 free:=I.hok.fresh (aI _)
 freeC:=λy c h=>I.freeC y c (fP (S.cells I.ok) h)
 pin:=λp hp=>by cases hp
 hok:=I.hok.kept hk
 len:=by
  rw [bE,dS];unfold slots;rw [aA];exact S.len.symm
def AK{H2:Hp}{σ':St}{s2:Shared}{h'':Heap}(S:gS X scope xs N' js)(I:cI X pins σ H s)(hf:∀b∈fp,jE X pins H b)
  (J:cI (mI X scope s.heap.objs.size fp s H N') [] σ' H2 s2) (hs:Heap.SameBut s.heap.objs.size s2.heap h''):cI X pins σ H2 { s2 with heap:=h'' }:=by
 have hC:H2 s.heap.objs.size=none:=J.free;have ne:∀{b:Addr} {o:Obj},s.heap.get? b=some o->b≠s.heap.objs.size:=λe q=>by
  have:=aV e;rw [q] at this;exact bL _ this
 refine I.call' (s':={ s2 with heap:=h'' }) (ch:=fp) (by rw [show ({ s2 with heap:=h'' }:Shared).os=s2.os from rfl];exact J.os) ?_ (J.hok.but hC λb u hb q=>hs.extBut b u hb q) J.bare λb hb=>⟨(hf b hb).2.2.2.1,(hf b hb).2.1,(hf b hb).2.2.2.2.1,(hf b hb).2.2.2.2.2⟩;have U:=J.base;exact {
  keep:=λb o e n h1 h2=>hs.extBut b o (ne e) (U.keep b o e n h1 h2)
  slot:=λb o e n h1 h2=>by
   obtain ⟨sl,q⟩:=U.slot b o e n h1 h2;exact ⟨sl,hs.extBut b _ (ne e) q⟩
  free:=U.free
  there:=λb o e h2=>by
   obtain ⟨o',q⟩:=U.there b o e h2;exact ⟨o',hs.extBut b _ (ne e) q⟩
  tups:=U.tups
  frzs:=U.frzs
  tbls:=U.tbls }
end
section
variable{X:Cx}{pins:Ad}{σ:St}{H:Hp}{s:Shared}{scope:Scope}{xs:Ah}{N':Ah}{js:Ae}{fp:List Addr}{elt iter:Expr}{px pos:Pos}{tg:Expr}{ifs:List Expr}{tc:TT}{te:TE}
def wE{J:It}{it:Addr}{tn:Nat->Heap->Prop}{RR:Value->Addr->Result->Shared->Prop}{E:Value->Shared->Prop}{Q:VK}
  (S:gS X scope xs N' js) (I:cI X pins σ H s) (T:DO X.prog X.w X.K tg J fp it tn) (h0:tn 0 s.heap) (hf:∀b∈fp,jE X pins H b)
  (hg:∀C fp s₀ H₀,PG (mI X scope C fp s₀ H₀ N') tg (gN X.K xs.length)) (ht:∀C fp s₀ H₀,LM (mI X scope C fp s₀ H₀ N') ifs tc) (he:∀C fp s₀ H₀,PE (mI X scope C fp s₀ H₀ N') elt te)
  (R:∀D,H D=none->∃W:Nat->Nat->Al->Hp->Prop,(∃m,W 0 m [] (upd H D (.lst []))) /\
   ∀i m ys H2,W i m ys H2->H2 D=some (.lst ys)/\((J.stop i H2/\Q (.ref D) H2)\/(J.go i H2/\ys.length<sizeLine/\∀x H3,J.yld i H2 x H3->∃a vs,x=.ref a/\iJ X.K H3 a vs/\vs.length=xs.length /\
    tc (vs.map some++slots σ js) H3 λb H4=>if b=true then te (vs.map some++slots σ js) H4 λy H5=>H5 D=some (.lst ys)/\∃m',m' < m/\W (i+1) m' (ys++[y]) (upd H5 D (.lst (ys++[y])))
     else H4 D=some (.lst ys)/\∃m',m' < m/\W (i+1) m' ys H4)))
  (hRR:∀(D:Addr) (H3:Hp) (s3:Shared) (σ':St) (H':Hp) (s':Shared),cI X pins σ H3 s3->(∀b∈fp,jE X pins H3 b)->cI (mI X scope s3.heap.objs.size fp s3 H3 N') [] σ' H' s'->Q (.ref D) H'->RR (.ref D) s3.heap.objs.size (.ok .next) s') :
  wpAny (model X.prog X.w) X.A (newList []) (λacc s₃=>wpAny (model X.prog X.w) X.A (newFunctionEnv scope X.env.globals (wH X scope) [] X.env.qual none .none (some X.env)) (λcenv s₄ =>
   codeAny (model X.prog X.w) X.A (.compStart (.ListComp elt [⟨tg,iter,ifs,0⟩] scope pos) 0 (.ref it) acc { cenv with scope:=relabel scope X.env }) (RR acc cenv.locals) s₄) E s₃) E s:=by
 have hb:∀b∈fp,b<s.heap.objs.size:=λb hb=>by
  obtain ⟨o,e,_⟩:=T.obj 0 _ h0 b hb;exact aV e
 refine wpAny_newObj_type (wpAny_newFunctionEnv S.cell (by intro y hy;simp at hy) (λh₁ hns₁ hsb₁=>?_) S.kind);have hDn:H s.heap.objs.size=none:=I.hok.fresh (aI _);obtain ⟨W,⟨m0,hw0⟩,hW⟩:=R _ hDn;have I3:cI X pins σ (upd H s.heap.objs.size (.lst [])) { s with heap:=s.heap.push { cls:=.type "list",dict:=none,data:=.seq ([]:Ag).toArray } }:=I.lnew (its:=[]) (ys:=[]) (t':=s.toks) .nil (cG _);have hf3:∀b∈fp,jE X pins (upd H s.heap.objs.size (.lst [])) b:=λb hb' =>
  ⟨by rw [dC (λe=>by have:=hb b hb';rw [e] at this;exact bL _ this)];exact (hf b hb').1,(hf b hb').2⟩
 have hb3:∀b∈fp,b<(s.heap.push { cls:=.type "list",dict:=none,data:=.seq ([]:Ag).toArray }).objs.size:=λb hb'=>by
  rw [fG];exact Nat.lt_succ_of_lt (hb b hb')
 have hkeep:∀b o,(s.heap.push { cls:=.type "list",dict:=none,data:=.seq ([]:Ag).toArray }).get? b=some o->h₁.get? b=some o:=λb o e =>
  hsb₁.extBut b o (λq=>by have:=aV e;rw [q] at this;exact bL _ this) (aC _ e)
 have J4:=SL (h':=h₁) (tk:=s.toks+([]:List (Str × Value)).length) S I3 hf3 hb3 hns₁ hkeep;have t4:tn 0 h₁:=T.keep 0 _ _ h0 λb hb' o e=>hkeep b o (aC _ e);have loop:codeAny (model X.prog X.w) X.A (.compLoop (.ListComp elt [⟨tg,iter,ifs,0⟩] scope pos) 0 (.ref it) (.ref s.heap.objs.size) (compEnvC scope (wH X scope) (s.heap.push { cls:=.type "list",dict:=none,data:=.seq ([]:Ag).toArray }).objs.size X.env))
   (RR (.ref s.heap.objs.size) (s.heap.push { cls:=.type "list",dict:=none,data:=.seq ([]:Ag).toArray }).objs.size) { s with heap:=h₁,toks:=s.toks+([]:List (Str × Value)).length }:=by
  refine pI (λn s'=>∃(i:Nat) (ys:Al) (H2:Hp) (os:St),os.length=xs.length/\cI (mI X scope _ fp _ _ N') [] (os++slots σ js) H2 s'/\tn i s'.heap/\(∀b∈fp,H2 b=none)/\W i n ys H2) ?_ m0 ⟨0,[],_,_,dS,J4,t4,λb hb'=>(hf3 b hb').1,hw0⟩;rintro n s' ⟨i,ys,H2,os,hos,J2,t2,f2,w2⟩;obtain ⟨hD,hcase⟩:=hW i n ys H2 w2;have Fp:∀b∈fp,jE (mI X scope (s.heap.push { cls:=.type "list",dict:=none,data:=.seq ([]:Ag).toArray }).objs.size fp { s with heap:=s.heap.push { cls:=.type "list",dict:=none,data:=.seq ([]:Ag).toArray } } (upd H s.heap.objs.size (.lst [])) N') [] H2 b:=λb hb' =>
   ⟨f2 b hb',(J2.ok.exf b hb').1,J2.ok.exfs b hb',.inl hb',(J2.ok.exf b hb').2,λp hp=>by cases hp⟩
  rcases hcase with ⟨hstop,hq⟩ | ⟨hgo,hz,hturn⟩
  ·refine wpAny_mono (T.done (mI X scope _ fp _ _ N') rfl rfl rfl rfl i [] s' _ H2 OD J2 Fp t2 hstop) (λr s1 ⟨hr,J5⟩=>?_) λ_ _ f=>f;subst hr;exact hRR _ _ _ _ _ _ I3 hf3 J5 hq
  ·refine wpAny_mono (T.item (mI X scope _ fp _ _ N') rfl rfl rfl rfl i [] s' _ H2 OD J2 Fp t2 hgo) (λr s1 ⟨u,hr,hx⟩=>?_) λ_ _ f=>f;subst hr;refine wpAny_mono hx (λ_ s2 ⟨v,H3,J3,rv,hy,t3,f3⟩=>?_) λ_ _ f=>f;have Fp3:∀b∈fp,jE (mI X scope (s.heap.push { cls:=.type "list",dict:=none,data:=.seq ([]:Ag).toArray }).objs.size fp { s with heap:=s.heap.push { cls:=.type "list",dict:=none,data:=.seq ([]:Ag).toArray } } (upd H s.heap.objs.size (.lst [])) N') [] H3 b:=λb hb' =>
    ⟨f3 b hb',(J3.ok.exf b hb').1,J3.ok.exfs b hb',.inl hb',(J3.ok.exf b hb').2,λp hp=>by cases hp⟩
   have P3:=J3.pinned Fp3 (T.obj (i+1) _ t3);have keepT:∀{σ':St} {Hx:Hp} {sx:Shared},cI (mI X scope (s.heap.push { cls:=.type "list",dict:=none,data:=.seq ([]:Ag).toArray }).objs.size fp { s with heap:=s.heap.push { cls:=.type "list",dict:=none,data:=.seq ([]:Ag).toArray } } (upd H s.heap.objs.size (.lst [])) N') ([]++sF fp s2.heap) σ' Hx sx->tn (i+1) sx.heap/\∀b∈fp,Hx b=none:=λJx =>
    ⟨T.keep (i+1) _ _ t3 λb hb' ob e=>(Jx.pin (b,ob) (aO _ (aO _ (iT hb' e)))).1,λb hb'=>by
     obtain ⟨ob,e,_⟩:=T.obj (i+1) _ t3 b hb';exact (Jx.pin (b,ob) (aO _ (aO _ (iT hb' e)))).2.1⟩
   obtain ⟨a,vs,ev,hq,hl,qe⟩:=hturn v H3 hy;subst ev;refine wpAny_mono (hg _ _ _ _ _ _ (os++slots σ js) H3 (.ref a) u (λσ' H'=>σ'=vs.map some++slots σ js/\H'=H3) P3 rv ⟨a,vs,rfl,hq,hl,?_⟩) (λ_ s5 ⟨σ5,H5,J5,e5,e6⟩=>?_) λ_ _ f=>f
   ·have:=yD (H:=H3) (r:=slots σ js) (Q:=λσ' H'=>σ'=vs.map some++slots σ js/\H'=H3) vs [] os (by rw [hos,hl]) ⟨rfl,rfl⟩;rw [hl] at this;exact this
   subst e5 e6;refine wpAny_mono (ht _ _ _ _ _ _ _ _ _ J5 qe) (λok s6 ⟨H6,J6,q6⟩=>?_) λ_ _ f=>f;dsimp only at q6;by_cases hok:ok=true
   ·rw [if_pos hok] at q6 ⊢;refine wpAny_mono (he _ _ _ _ _ _ _ _ _ J6 q6) (λy s7 ⟨w',H7,J7,r7,hD7,m',hm',w7⟩=>?_) λ_ _ f=>f;refine wpAny_mono (rF (X:=mI X scope _ fp _ _ N') _ _ _ _ (.ref s.heap.objs.size) [w'] (.ref s.heap.objs.size) [y] (λ_ H8=>H8=upd H7 s.heap.objs.size (.lst (ys++[w']))) J7 rfl (.cons r7 .nil) ⟨_,_,_,rfl,rfl,hD7,hz,rfl⟩) (λ_ s8 ⟨_,H8,J8,_,e8⟩=>?_) λ_ _ f=>f;subst e8;obtain ⟨k1,k2⟩:=keepT J8;exact ⟨m',hm',i+1,ys++[w'],_,vs.map some,by rw [aA,hl],J8.unpinned,k1,k2,w7⟩
   ·rw [if_neg hok] at q6 ⊢;obtain ⟨_,m',hm',w7⟩:=q6;obtain ⟨k1,k2⟩:=keepT J6;exact ⟨m',hm',i+1,ys,_,vs.map some,by rw [aA,hl],J6.unpinned,k1,k2,w7⟩
 refine codeAny_compStart_list loop (T.self X.A 0 _ _ _ t4 loop)
def RD{wi:TI}(S:gS X scope xs N' js)(hi:PI X tg iter wi)(hg:∀C fp s₀ H₀,PG (mI X scope C fp s₀ H₀ N') tg (gN X.K xs.length))(ht:∀C fp s₀ H₀,LM (mI X scope C fp s₀ H₀ N') ifs tc)(he:∀C fp s₀ H₀,PE (mI X scope C fp s₀ H₀ N') elt te)
  (hs:∀x,foldedSetIterable iter X.env x=pure x:=by intro _;rfl):PE X (.ListComp elt [⟨tg,iter,ifs,0⟩] scope pos) (BL X.K xs.length wi js tc te):=by
 intro pins s σ H Q I h;rw [eval_ListComp];refine wpAny_comprehension_free (use:=none) rfl hs (jO (S.cells I.ok)) S.kind S.names (wpAny_mono (hi pins s σ H _ I h) (λv s1 h1=>?_) λ_ _ e=>e);refine wpAny_mono h1 (λitv s2 ⟨it,fp,tn,J,H2,e,I2,T,t0,hf,R⟩=>?_) λ_ _ e=>e;subst e;refine wE (te:=xA te) (tc:=rS tc) S I2 T t0 hf hg (λC fp s₀ H₀=>(ht C fp s₀ H₀).mono) (λC fp s₀ H₀=>(he C fp s₀ H₀).mono) (by unfold wF at R;exact R) ?_;intro D H3 s3 σ' H' s' I3 hf3 J3 q;obtain ⟨m,hm,_⟩:=J3.loc;exact ⟨m,hm,λh' hs'=>⟨.ref D,H',AK S I3 hf3 J3 hs',rfl,q⟩⟩
def EZ{wi:TI}{y:Str}{py spos:Pos}{i:Nat}(S:gS X scope xs N' js)(hN:X.N.Nodup)(hiN:X.N[i]?=some y)(hy:X.env.kindOf y=some .local)(hi:PI X tg iter wi)(hg:∀C fp s₀ H₀,PG (mI X scope C fp s₀ H₀ N') tg (gN X.K xs.length))(ht:∀C fp s₀ H₀,LM (mI X scope C fp s₀ H₀ N') ifs tc)(he:∀C fp s₀ H₀,PE (mI X scope C fp s₀ H₀ N') elt te)
  (hsw:swapsWith (.ListComp elt [⟨tg,iter,ifs,0⟩] scope pos) (some (.Name y py)) spos.line X.env=pure true) (hs:∀x,foldedSetIterable iter X.env x=pure x:=by intro _;rfl) :
  PS X (.Assign [.Name y py] (.ListComp elt [⟨tg,iter,ifs,0⟩] scope pos) spos) (yW (BL X.K xs.length wi js tc te) (nE i)):=by
 intro pins s σ H D0 I h;rw [exec_Assign_Name_used _ _ _ _ hsw];refine wpAny_bind (wpAny_standAt (wpAny_bind ?_));show wpAny _ X.A (do let _ <-comprehension (.ListComp elt [⟨tg,iter,ifs,0⟩] scope pos) scope X.env _ (newList []) false (eval iter X.env) (some (assign (.Name y py) X.env))) _ _ s;refine wpAny_bind (wpAny_mono (wpAny_comprehension_free (use:=some (assign (.Name y py) X.env)) (Q:=λ_ s'=>SP X pins D0 .next s') rfl hs (jO (S.cells I.ok)) S.kind S.names (wpAny_mono (hi pins s σ H _ I h) (λv s1 h1=>?_) λ_ _ e=>e)) (λ_ s' hq=>wpAny_pure (wpAny_pure hq)) λ_ _ e=>e);refine wpAny_mono h1 (λitv s2 ⟨it,fp,tn,J,H2,e,I2,T,t0,hf,R⟩=>?_) λ_ _ e=>e;subst e;refine wE (te:=xA te) (tc:=rS tc) (Q:=λv H'=>nE i v σ H' D0.nx) S I2 T t0 hf hg (λC fp s₀ H₀=>(ht C fp s₀ H₀).mono) (λC fp s₀ H₀=>(he C fp s₀ H₀).mono) (by unfold wF at R;exact R) ?_;intro D H3 s3 σ' H' s' I3 hf3 J3 q;obtain ⟨m,hm,_⟩:=J3.loc;have IX:cI X pins σ H' s':=AK S I3 hf3 J3 (Heap.SameBut.refl ..);have hCL:s3.heap.objs.size≠X.env.locals:=λe=>by have:=I3.lt;rw [e] at this;exact bL _ this
 show wpAny _ X.A (assign (.Name y py) X.env (.ref D)) _ _ _;refine wpAny_assign_Name (rA IX hN hiN (.inl hy) (v:=.ref D) rfl (λs5 I5 hsb=>?_) (.inr hy));obtain ⟨a,hsb,ha⟩:=hsb;have hCa:s3.heap.objs.size≠a:=by
  rcases ha with rfl | ha
  ·exact hCL
  ·intro e;obtain ⟨v,o,eo,_⟩:=I3.cell y a ha;have:=aV eo;rw [<-e] at this;exact bL _ this
 refine ⟨m,hm.sameBut hsb hCa,λh' hs'=>⟨_,H',?_,q⟩⟩;exact I5.turned (it:=s3.heap.objs.size) (t':=s5.toks) (λb o n e=>hs'.extBut b o n e) J3.free hCL (.inr I3.sz)
  (λz c hz e=>by
   obtain ⟨v,o,eo,_⟩:=I3.cell z c hz;have:=aV eo;rw [e] at this;exact bL _ this)
  (λp hp e=>by
   have:=aV (I3.pin p hp).1;rw [e] at this;exact bL _ this)
end
section
variable{X:Cx}{scope:Scope}{x1 x2 x3 y:Str}{N':Ah}{js:Ae}{elt iter tg:Expr}{ifs:List Expr}{py pos spos:Pos}{tc:TT}{te:TE}{wi:TI}{i:Nat}
def YW{xs:Ah}{k:Nat}{x:Str}{p:Pos}(S:gS X scope xs N' js)(h:xs[k]?=some x)(C:Addr)(fp:List Addr)(s₀:Shared)(H₀:Hp):ZY (mI X scope C fp s₀ H₀ N') (.Name x p) (nE k) :=
 have l:=S.own x (aG h)
 cX S.nd (S.pre k x h) (.inl (lookup_relabel_local l)) (.inr (lookup_relabel_local l))
def ON{p1 p2 pt:Pos}{kk:Nat}(S:gS X scope [x1,x2] N' js)(C:Addr)(fp:List Addr)(s₀:Shared)(H₀:Hp):ZY (mI X scope C fp s₀ H₀ N') (.Tuple [.Name x1 p1,.Name x2 p2] kk pt) (gN X.K 2) :=
 sC rfl (gL (YW S rfl C fp s₀ H₀) (gL (YW S rfl C fp s₀ H₀) oT))
def LT{p1 p2 pt:Pos}{kk:Nat}(S:gS X scope [x1,x2] N' js)(hi:TW X (.Tuple [.Name x1 p1,.Name x2 p2] kk pt) iter wi)(ht:∀C fp s₀ H₀,IT (mI X scope C fp s₀ H₀ N') ifs tc)(he:∀C fp s₀ H₀,iN (mI X scope C fp s₀ H₀ N') elt te)
  (hs:∀x,foldedSetIterable iter X.env x=pure x:=by intro _;rfl):iN X (.ListComp elt [⟨.Tuple [.Name x1 p1,.Name x2 p2] kk pt,iter,ifs,0⟩] scope pos) (BL X.K 2 wi js tc te) :=
 ⟨RD S hi.p (λC fp s₀ H₀=>(ON S C fp s₀ H₀).p) (λC fp s₀ H₀=>(ht C fp s₀ H₀).p) (λC fp s₀ H₀=>(he C fp s₀ H₀).p) hs⟩
def sP{p1 p2 pt:Pos}{kk:Nat}(S:gS X scope [x1,x2] N' js)(hN:X.N.Nodup)(hiN:X.N[i]?=some y)(hy:X.env.kindOf y=some .local)(hi:TW X (.Tuple [.Name x1 p1,.Name x2 p2] kk pt) iter wi)(ht:∀C fp s₀ H₀,IT (mI X scope C fp s₀ H₀ N') ifs tc)(he:∀C fp s₀ H₀,iN (mI X scope C fp s₀ H₀ N') elt te)
  (hsw:swapsWith (.ListComp elt [⟨.Tuple [.Name x1 p1,.Name x2 p2] kk pt,iter,ifs,0⟩] scope pos) (some (.Name y py)) spos.line X.env=pure true:=by rfl) (hs:∀x,foldedSetIterable iter X.env x=pure x:=by intro _;rfl) :
  GQ X (.Assign [.Name y py] (.ListComp elt [⟨.Tuple [.Name x1 p1,.Name x2 p2] kk pt,iter,ifs,0⟩] scope pos) spos) (yW (BL X.K 2 wi js tc te) (nE i)) :=
 ⟨EZ S hN hiN hy hi.p (λC fp s₀ H₀=>(ON S C fp s₀ H₀).p) (λC fp s₀ H₀=>(ht C fp s₀ H₀).p) (λC fp s₀ H₀=>(he C fp s₀ H₀).p) hsw hs⟩
end
def SO(psc scope:Scope)(N:Ah)(xs N':Ah)(js:Ae):Bool :=
 (scope.names.all λy=>!(y.2 == .free) || psc.names.lookup y.1 == some .cell)&&(scope.names.all λy=>!(y.2 == .cell))&&scope.kind == .function &&
 (scope.names.all λy=>!(y.2 == .local) || scope.names.lookup y.1 == some .local)&&(xs.all λx=>scope.names.lookup x == some .local) &&
 (scope.names.all λy=>!(y.2 == .free) || !(scope.names.lookup y.1 == some .local))&&N'.length == xs.length+js.length&&N'.take xs.length == xs&&decide N'.Nodup &&
 ((List.range js.length).all λi=>match js[i]?,N'[xs.length+i]? with
  | some j,some y=>N[j]? == some y&&scope.names.contains (y,NameKind.free)
  | _,_=>false)
def gS.of{X:Cx}{psc scope:Scope}{N:Ah}{xs N':Ah}{js:Ae}(h:SO psc scope N xs N' js=true)(hX:X.env.scope=psc)(hN:X.N=N)(hc:X.calm=true):gS X scope xs N' js:=by
 unfold SO at h;simp only [cQ] at h;obtain ⟨⟨⟨⟨⟨⟨⟨⟨⟨h1,h2⟩,h3⟩,h4⟩,h5⟩,h6⟩,h7⟩,h8⟩,h9⟩,h10⟩:=h;rw [List.all_eq_true] at h1 h2 h4 h5 h6 h10;refine ⟨hc,λy hy e=>?_,λy hy e=>?_,by simpa using h3,λy hy e=>?_,λx hx=>by simpa using h5 x hx,λy hy e=>?_,by simpa using h7,λi x hx=>?_,of_decide_eq_true h9,λi j hj=>?_⟩
 ·have:=h1 y hy;rw [e] at this;show X.env.scope.names.lookup y.1=_;rw [hX];simpa using this
 ·have:=h2 y hy;rw [e] at this;simp at this
 ·have:=h4 y hy;rw [e] at this;simpa using this
 ·have:=h6 _ hy;rw [e] at this;simp at this
 ·have e8:N'.take xs.length=xs:=by simpa using h8
  have hi:i<xs.length:=(aF.mp hx).1;rw [<-hx]
  conv=>rhs;rw [<-e8]
  rw [List.getElem?_take,if_pos hi]
 ·have hi:i<js.length:=(aF.mp hj).1;have:=h10 i (bU.mpr hi);rw [hj] at this;cases q:N'[xs.length+i]? with
  | none=>rw [q] at this;simp at this
  | some y =>
   rw [q] at this;simp only [cQ] at this;exact ⟨y,rfl,by rw [hN];simpa using this.1,List.contains_iff_mem.mp this.2⟩
theorem AA{α β:Type}{R:α->β->Prop}:∀{l:List α}{m:List β}{i:Nat}{b:β},Paired R l m->m[i]?=some b->∃a,l[i]?=some a/\R a b
 | _,_,_,_,.nil,h=>by simp at h
 | _,_,0,b,.cons h t,e=>⟨_,rfl,by cases (show _=b by simpa using e);exact h⟩
 | _,_,i+1,b,.cons h t,e=>by
  obtain ⟨a,h1,h2⟩:=AA t (i:=i) (by simpa using e);exact ⟨a,by simpa using h1,h2⟩
section
variable{js:Ae}{te:TE}{tc:TT}{σ:St}{H:Hp}{Q:VK}
def NM{K:Aa}{n:Nat}{J:It}{α:Type}{as:List α}(p:α->Bool)(Src:α->V->Prop)(R:α->V->Hp->Prop)(hR:∀c y H1 H2,dA H1 H2->R c y H1->R c y H2)(hz:as.length<=100000)
  (hg:∀i H',aU H H'->i<as.length->J.go i H'/\∀x H3,J.yld i H' x H3->H3=H'/\∃c,as[i]?=some c/\Src c x) (hst:∀H',aU H H'->J.stop as.length H')
  (hs:∀x c H',c∈as->Src c x->aU H H'->∃a vs,x=.ref a/\iJ K H' a vs/\vs.length=n/\(∀Q':Bool->Hp->Prop,(∀H5,aU H' H5->Q' (p c) H5)->tc (vs.map some++slots σ js) H' Q') /\
   ∀H5 (Q':VK),aU H' H5->p c=true->(∀y H6,aU H5 H6->R c y H6->Q' y H6)->te (vs.map some++slots σ js) H5 Q')
  (hd:∀D ys H',H D=none->H' D=some (.lst ys)->aU H H'->Paired (λc y=>R c y H') (as.filter p) ys->Q (.ref D) H'):wF K n J σ js tc te H Q:=by
 unfold wF;intro D hD;have mono:∀{H1 H2:Hp} {l:List α} {ys:Al},dA H1 H2->Paired (λc y=>R c y H1) l ys->Paired (λc y=>R c y H2) l ys:=by
  intro H1 H2 l ys s h
  induction h with
  | nil=>exact .nil
  | cons h t ih=>exact .cons (hR _ _ _ _ s h) ih
 have snoc:∀{H1:Hp} {l:List α} {ys:Al} {c:α} {y:V},Paired (λc y=>R c y H1) l ys->R c y H1->Paired (λc y=>R c y H1) (l++[c]) (ys++[y]):=by
  intro H1 l ys c y h r
  induction h with
  | nil=>exact .cons r .nil
  | cons h t ih=>exact .cons h ih
 refine ⟨λi m ys H'=>m=as.length-i/\i<=as.length/\H' D=some (.lst ys)/\aU H H'/\ys.length<=i/\Paired (λc y=>R c y H') ((as.take i).filter p) ys,⟨as.length,by simp,cG _,bO,aU.upd hD,aI _,.nil⟩,?_⟩;rintro i m ys H2 ⟨rfl,hi,hD2,s2,hy,pr⟩;refine ⟨hD2,?_⟩;by_cases hlt:i<as.length
 ·obtain ⟨hgo,hyl⟩:=hg i H2 s2 hlt;refine .inr ⟨hgo,bC (m:=100000) Oo Dd,λx H3 hy3=>?_⟩;obtain ⟨rfl,c,hc,rc⟩:=hyl x H3 hy3;have hti:as.take (i+1)=as.take i++[c]:=by rw [fT,hc];rfl
  obtain ⟨a,vs,e,hq,hl,ht,he⟩:=hs x c H3 (aG hc) rc s2;refine ⟨a,vs,e,hq,hl,λb H4=>b=p c/\aU H3 H4,ht _ λH5 s5=>⟨rfl,s5⟩,?_⟩;rintro b H4 ⟨rfl,s4⟩;by_cases hp:p c=true
  ·rw [if_pos hp];refine ⟨λy H5=>aU H4 H5/\R c y H5,he H4 _ s4 hp λy H6 s6 r=>⟨s6,r⟩,?_⟩;rintro y H5 ⟨s5,r⟩;have e5:=s5 _ _ (s4 _ _ hD2);refine ⟨e5,_,?_,rfl,hlt,bO,aU.thru hD ((s2.trans s4).trans s5) aR.self,?_,?_⟩
   ·omega
   ·rw [bE,List.length_singleton];exact Oo
   ·rw [hti,List.filter_append,show List.filter p [c]=[c] by simp [hp]];have t6:dA H5 (upd H5 D (.lst (ys++[y]))):=aR.t aR.self e5;exact mono t6 (snoc (mono (s4.trans s5).t pr) r)
  ·rw [if_neg hp];refine ⟨s4 _ _ hD2,_,?_,rfl,hlt,s4 _ _ hD2,s2.trans s4,Oo,?_⟩
   ·omega
   ·rw [hti,List.filter_append,show List.filter p [c]=[] by simp [hp],List.append_nil];exact mono s4.t pr
 ·have e:i=as.length:=Oo;subst e;refine .inl ⟨hst H2 s2,hd D ys H2 hD hD2 s2 ?_⟩;rw [cP] at pr;exact pr
def NL{K:Aa}{n:Nat}{a0:Addr}{xs:Al}{α:Type}{as:List α}(p:α->Bool)(Src:α->V->Prop)(R:α->V->Hp->Prop)(hR:∀c y H1 H2,dA H1 H2->R c y H1->R c y H2)(hz:as.length<=100000)(ha:H a0=some (.lst xs))(pr:Paired Src as xs)
  (hs:∀x c H',c∈as->Src c x->aU H H'->∃a vs,x=.ref a/\iJ K H' a vs/\vs.length=n/\(∀Q':Bool->Hp->Prop,(∀H5,aU H' H5->Q' (p c) H5)->tc (vs.map some++slots σ js) H' Q') /\
   ∀H5 (Q':VK),aU H' H5->p c=true->(∀y H6,aU H5 H6->R c y H6->Q' y H6)->te (vs.map some++slots σ js) H5 Q')
  (hd:∀D ys H',H D=none->H' D=some (.lst ys)->aU H H'->Paired (λc y=>R c y H') (as.filter p) ys->Q (.ref D) H'):wF K n (ZZ K a0) σ js tc te H Q:=by
 have hl:xs.length=as.length:=pr.length.symm;refine NM p Src R hR hz (λi H' s hi=>⟨⟨xs,xs[i]'Oo,fI.of (s _ _ ha),by simp⟩,λx H3 y=>⟨y.1,?_⟩⟩) (λH' s=>⟨xs,fI.of (s _ _ ha),Oo⟩) hs hd;have hx:=y.2 xs (fI.of (s _ _ ha));obtain ⟨c,h1,h2⟩:=AA pr hx;exact ⟨c,h1,h2⟩
end
end L2
namespace L2
open PySem
section
variable{js:Ae}{te:TE}{σ:St}{H:Hp}{Q:VK}
def AN{K:Aa}{b1 b2:Bool}{l1 l2:Addr}{xs ys:Al}(R:Nat->V->Hp->Prop)(hR:∀i y H1 H2,dA H1 H2->R i y H1->R i y H2)(hz:xs.length<=100000)(h1:H l1=some (DU b1 xs))(h2:H l2=some (DU b2 ys))(hl:xs.length=ys.length)
  (hs:∀i x y H' (Q':VK),xs[i]?=some x->ys[i]?=some y->aU H H'->(∀z H6,aU H' H6->R i z H6->Q' z H6)->te (some x::some y::slots σ js) H' Q')
  (hd:∀D zs H',H D=none->H' D=some (.lst zs)->aU H H'->zs.length=xs.length->(∀(i:Nat) (z:V),zs[i]?=some z->R i z H')->Q (.ref D) H'):wF K 2 (Itz b1 b2 l1 l2) σ js BJ te H Q:=by
 unfold wF;intro D hD;refine ⟨λi m zs H'=>m=xs.length-i/\i<=xs.length/\zs.length=i/\H' D=some (.lst zs)/\aU H H'/\∀(i:Nat) (z:V),zs[i]?=some z->R i z H',⟨xs.length,by simp,cG _,rfl,bO,aU.upd hD,λi z h=>by simp at h⟩,?_⟩;rintro i m zs H2 ⟨rfl,hi,hy,hD2,s2,hr⟩;refine ⟨hD2,?_⟩;by_cases hlt:i<xs.length
 ·have hx:xs[i]?=some xs[i]:=aB Oo;have hy':ys[i]?=some (ys[i]'Oo):=aB Oo;refine .inr ⟨⟨xs,ys,_,_,s2 _ _ h1,s2 _ _ h2,hx,hy'⟩,bC (m:=100000) Oo Dd,λv H3 y=>?_⟩;obtain ⟨q,x,y,rfl,hq,rfl,hh⟩:=y;obtain ⟨g1,g2⟩:=hh xs ys (s2 _ _ h1) (s2 _ _ h2);have s3:=aU.upd (o:=.tup [x,y]) hq;have e3:(upd H2 q (.tup [x,y])) q=some (.tup [x,y]):=bO;generalize upd H2 q (.tup [x,y])=H3 at s3 e3;refine ⟨q,[x,y],rfl,iJ.of e3,rfl,λb H4=>b=true/\H4=H3,⟨rfl,rfl⟩,?_⟩;rintro b H4 ⟨rfl,rfl⟩;rw [if_pos rfl];refine ⟨λz H5=>aU H4 H5/\R i z H5,hs i x y H4 _ g1 g2 (s2.trans s3) λz H6 s6 r=>⟨s6,r⟩,?_⟩;rintro z H5 ⟨s5,r⟩;have e5:=s5 _ _ (s3 _ _ hD2);have t6:dA H5 (upd H5 D (.lst (zs++[z]))):=aR.t aR.self e5;exact ⟨e5,xs.length-(i+1),Oo,rfl,hlt,by rw [bE,hy];rfl,bO,aU.thru hD ((s2.trans s3).trans s5) aR.self,xI (R:=λj z=>R j z _) (λj w hj=>hR j w _ _ ((s3.trans s5).t.trans t6) (hr j w hj)) (by rw [hy];exact hR i z _ _ t6 r)⟩
 ·have e:i=xs.length:=Oo;subst e;exact .inl ⟨⟨xs,ys,s2 _ _ h1,s2 _ _ h2,.inl (aI _)⟩,hd D zs H2 hD hD2 s2 hy hr⟩
end
theorem Paired.ofRepL{H:Hp}{α:Type}{g:α->PyData}:∀{as:List α}{xs:Al},aQ H (as.map g) xs->Paired (λa x=>cE H (g a) x) as xs
 | [],xs,r=>by
  unfold aQ at r;cases (show xs=[] from r);exact .nil
 | a::as,xs,r=>by
  rw [bI] at r;unfold aQ at r;obtain ⟨x,xs',rfl,r1,r2⟩:=r;exact .cons r1 (Paired.ofRepL r2)
theorem Paired.toRepL{H:Hp}{α:Type}{g:α->PyData}:∀{as:List α}{xs:Al},Paired (λa x=>cE H (g a) x) as xs->aQ H (as.map g) xs
 | _,_,.nil=>aQ.nil
 | _,_,.cons h t=>aQ.cons h (Paired.toRepL t)
section
variable{X:Cx}{scope:Scope}{x1 x2 x3 y:Str}{N':Ah}{js:Ae}{elt iter tg:Expr}{ifs:List Expr}{py pos spos:Pos}{tc:TT}{te:TE}{wi wj:TI}{i:Nat}
end
end L2
namespace L2
open PySem PySem.Spec PyProof.Rows
section
variable{X:Cx}
@[irreducible] def JY(K:Aa):R2:=λx y H Q=>∃a b xs ys,x=.ref a/\y=.ref b/\H a=some (.tup xs)/\H b=some (.tup ys)/\xs.length+ys.length<=1000/\∀c H',aU H H'->H' c=some (.tup (xs++ys))->Q (.ref c) H'
def SW{K:Aa}{H:Hp}{Q:VK}{a b:Addr}{xs ys:Al}(h1:H a=some (.tup xs))(h2:H b=some (.tup ys))(hz:xs.length+ys.length<=1000)(k:∀c H',aU H H'->H' c=some (.tup (xs++ys))->Q (.ref c) H'):JY K (.ref a) (.ref b) H Q:=by
 unfold JY;exact ⟨a,b,xs,ys,rfl,rfl,h1,h2,hz,k⟩
def tO(K:Aa)(hK:X.K=K:=by rfl):uG X (binaryOp .Add) (JY K):=by
 subst hK;unfold JY;intro pins s σ H x y v u Q I rx ry h;obtain ⟨a,b,xs,ys,rfl,rfl,ha,hb,hz,q⟩:=h;by_cases hx:xs=[]
 ·cases rx;cases ry;subst hx;obtain ⟨its,r1,p1,_⟩:=I.tuple (iJ.of ha);obtain ⟨its2,r2,p2,_⟩:=I.tuple (iJ.of hb);cases r1;obtain ⟨⟨cls,dd,data,sl⟩,ho,hc,n,hd⟩:=id p1;obtain ⟨⟨cls2,dd2,data2,sl2⟩,ho2,hc2,n2,hd2⟩:=id p2;simp only at hc hd hc2 hd2;subst hc hd hc2 hd2;exact concat_meets ⟨_,ho,rfl⟩ ⟨_,ho2,rfl⟩ noFill_tuple_add seq_tuple_add PySem.F.slot_tuple_add PySem.F.entry_tuple_add (PySem.F.args_tuple_add_2 _ _)
   (tuple_addW0 a b _ _ n n2 dd dd2 sl sl2 rfl) ⟨ho,ho2,⟨.ref b,H,I,rfl,q b H (aU.refl _) hb⟩⟩
 ·refine WX pins s σ H _ _ v u Q I rx ry ⟨a,b,xs,ys,rfl,rfl,iJ.of ha,iJ.of hb,hx,aM hz Dd,λe=>?_,λ_ p hp=>q p _ (aU.upd hp) bO⟩;subst e;exact q a H (aU.refl _) (by rw [List.append_nil];exact ha)
end
def yA(a:Int)(t:Tok)(l:Addr)(items:Ai)(n:Nat)(dd:Option Addr)(sl:Array (Option Value)) :
  Meets (Builtin.«int.__rmul__» ⟨[.int a t,.ref l],[]⟩) (λ_ R s=>s.heap.get? l=some { cls:=.type "tuple",dict:=dd,data:=.seq items n,slots:=sl }/\R (.ok (.ret Value.notImplemented)) s) :=
 .of_wp λprog w A R s h=>by
  obtain ⟨hp,g,d,tk,os⟩:=s;obtain ⟨hl,h⟩:=h
  wp_walk
  exact ⟨_,rfl,h⟩
def GZ(l:Addr)(items:Ai)(n:Nat)(dd:Option Addr)(sl:Array (Option Value))(k:Int)(u:Tok)(h0:2<=k)(h1:k<=64)(he:items.isEmpty=false)(hz:items.size<=64)(hsz:((List.replicate k.toNat items).foldl (· ++ ·) #[]).size<=sizeLine) :
  Meets (Builtin.«tuple.__mul__» ⟨[.ref l,.int k u],[]⟩) (λ_ R s=>s.heap.get? l=some { cls:=.type "tuple",dict:=dd,data:=.seq items n,slots:=sl }/\R (.ok (.ret (.ref s.heap.objs.size))) { s with heap:=s.heap.push { cls:=.type "tuple",data:=.seq ((List.replicate k.toNat items).foldl (· ++ ·) #[]) } }) :=
 .of_wp λprog w A R s h=>by
  obtain ⟨hp,g,d,tk,os⟩:=s;obtain ⟨hl,h⟩:=h;have f1:=AutoSeq1.idx_int
  wp_walk using wpAny_loadPart' hl
  rw [if_neg (by simp;exact Oo)]
  wp_walk using wpAny_loadPart' hl
  have he':¬items=#[]:=λz=>by simp [z] at he
  have hm:(items.size:Int)*k<=4096:=by
   have h2:(items.size:Int)*k<=64*64:=Int.mul_le_mul Oo h1 Oo Oo;exact Oo
  rw [if_neg (by simp;exact ⟨he',Oo⟩)];rw [if_neg (by simp;exact ⟨Oo,he'⟩)];show wpAny _ _ (if (items.size:Int)*k > (2^63-1)/8 then _ else _) _ _ _;rw [if_neg Oo];show wpAny _ _ (if Builtin.Tuple.tupleTooMany (items.size*k)=true then _ else _) _ _ _;rw [if_neg (by unfold Builtin.Tuple.tupleTooMany;simp;exact Int.le_trans hm Dd)]
  wp_walk
  exact ⟨_,rfl,h⟩
def vB:fillsNumberSlot (.type "tuple") "mul" = pure false:=PySem.fillsNumberSlot_seq (id := "tuple.__mul__") (r:=some (.builtin "tuple.__rmul__")) F.slot_tuple_mul.lookup Kk F.slot_tuple_rmul.lookup Kk
def CA:seqRepeat? (.type "tuple")=pure (some (.builtin "tuple.__mul__")):=by
 unfold seqRepeat?;rw [PySem.seqSlot_of (T := "tuple") (name := "__mul__") (id := "tuple.__mul__") F.slot_tuple_mul.lookup Kk,PySem.seqSlot_of (T := "tuple") (name := "__rmul__") (id := "tuple.__rmul__") F.slot_tuple_rmul.lookup Kk];rfl
@[irreducible] def JT:R2:=λx y H Q=>∃a z,∃k:Nat,x=.ref a/\y=.int (k:Int)/\H a=some (.tup [z])/\2<=k/\k<=64/\∀c H',aU H H'->H' c=some (.tup (List.replicate k z))->Q (.ref c) H'
def aBn{H:Hp}{Q:VK}{a:Addr}{z:V}{k:Nat}(h:H a=some (.tup [z]))(h2:2<=k)(hk:k<=64)(q:∀c H',aU H H'->H' c=some (.tup (List.replicate k z))->Q (.ref c) H'):JT (.ref a) (.int (k:Int)) H Q:=by
 unfold JT;exact ⟨a,z,k,rfl,rfl,h,h2,hk,q⟩
section
variable{X:Cx}
def CG:uG X (binaryOp .Mult) JT:=by
 unfold JT;intro pins s σ H x y v u Q I rx ry h;obtain ⟨a,z,k,rfl,rfl,hH,h2,hk,q⟩:=h;cases rx;obtain ⟨t,rfl⟩:=(show ∃t,u=Value.int (k:Int) t from ry);obtain ⟨its,r,p,_⟩:=I.tuple (iJ.of hH);obtain ⟨w1,rfl,rw1⟩:=kD r;obtain ⟨⟨cls,dd,data,sl⟩,ho,hc,n,hd⟩:=id p;simp only at hc hd;subst hc hd;have flat1:∀k:Nat,(List.replicate k [w1]).flatten=List.replicate k w1:=λk=>by
  induction k with
  | zero=>rfl
  | succ k ih=>rw [List.replicate_succ,List.flatten_cons,ih,List.replicate_succ];rfl
 have f0:List.foldl (λx1 x2=>x1++x2) #[] (List.replicate k [w1].toArray)=(List.replicate k w1).toArray:=by
  have:=AG [w1] k [];rw [List.nil_append,flat1] at this;exact this
 have vr:∀k:Nat,dF (List.replicate k z) (List.replicate k w1):=λk=>by
  induction k with
  | zero=>exact .nil
  | succ k ih=>exact .cons rw1 ih
 generalize hk':(k:Int)=kk;have hkk:kk.toNat=k:=Oo;refine wpAny_binaryOp_repeat_ref (T := "tuple") (U := "int") Dd ⟨_,ho,rfl⟩ (λs'=>typeIs_int s' kk t) vB F.fills_int_mul F.slot_int_rmul CA F.slot_int_index.lookup
  (call_meets F.slot_int_rmul (typeIs_int s kk t) F.entry_int_rmul (F.args_int_rmul_2 _ _) (yA kk t a [w1].toArray n dd sl) ⟨ho,rfl,⟨_,ho,rfl⟩,?_⟩)
 refine call_meets F.slot_tuple_mul ⟨_,ho,rfl⟩ F.entry_tuple_mul (F.args_tuple_mul_2 _ _) (GZ a [w1].toArray n dd sl kk t Oo Oo rfl (by show 1<=64;decide) (by rw [hkk,f0,aW,dS];exact aM hk Dd)) ⟨ho,?_⟩;rw [hkk,f0];refine ⟨.ref _,_,I.laid (t':=s.toks) (o:=.tup (List.replicate k z)) (λb ob q=>aC _ q) (aI _) ?_,rfl,q _ _ (aU.upd (I.hok.fresh (aI _))) bO⟩;exact ⟨⟨by rw [dS];exact tL hk,_,bB _ rfl,rfl⟩,_,vr k,IsTup.new _ _⟩
end
@[irreducible] def VW:V->Al->Hp->VK->Prop:=JX
def IB{X:Cx}:MtR X "list.extend" VW:=by unfold VW;exact MW
def aBE{H:Hp}{l b:Addr}{xs zs:Al}{Q:VK}(h:H l=some (.lst xs))(h2:H b=some (.lst zs))(hz:xs.length+zs.length<=1000)(k:∀H',H' l=some (.lst (xs++zs))->aR l H H'->Q .non H'):VW (.ref l) [.ref b] H Q:=by
 unfold VW;exact ⟨l,b,xs,zs,rfl,rfl,h,h2,Nat.le_of_lt (uU hz),k _ bO aR.self⟩
section
variable{prog:Program}{w:World}{A:Around}{E:Value->Shared->Prop}{s:Shared}{l:Addr}{xs:Array (Int × Tok)}
def PF{Q:Value->Shared->Prop}(hh:A.handled=none)(hl:s.heap.IsTuple l (intItems xs))
  (h:∀h' tk t',(∀b o,s.heap.get? b=some o->h'.get? b=some o)->Q (.int (preSum (numAt xs) xs.size) t') { s with heap:=h',toks:=tk }) :
  wpAny (model prog w) A (call (.builtin "sum") [.ref l]) Q E s:=by
 have hlt:l<s.heap.objs.size:=by obtain ⟨_,e,_⟩:=hl;exact aV e
 refine call_sum_walkG (wpAny_pyIter_tuple hl ?_);refine ⟨_,[_,l],[_],_,_,_,numAt xs,rfl,Walks.tuple (A:=A.in1) hh _ l (cA hlt) (intItems xs),⟨⟨_,bB _ rfl,rfl,rfl⟩,hl.push _⟩,λc hc=>?_,(λ_ _=>intItems_at),λh' tk t' hk=>?_⟩
 ·show c<(s.heap.push _).objs.size;rw [fG];rcases aZ.mp hc with rfl | hc
  ·exact Nat.lt_succ_self _
  ·rcases aZ.mp hc with rfl | hc
   ·exact Nat.lt_succ_of_lt hlt
   ·cases hc
 ·have:=h h' tk t' λc o e=>by
   refine hk c o (λhm=>?_) (aC _ e);rcases aZ.mp hm with e1 | hm
   ·exact absurd (e1 ▸ aV e) (bL _)
   ·cases hm
  simpa [intItems] using this
end
@[irreducible] def JP(K:Aa):Al->Hp->VK->Prop:=λxs H Q=>∃(p:Addr) (ns:Af),xs=[.ref p]/\iJ K H p (ns.map V.int)/\Q (.int ns.sum) H
def rsT{K:Aa}{H:Hp}{p:Addr}{ns:Af}{Q:VK}(h:iJ K H p (ns.map V.int))(q:Q (.int ns.sum) H):JP K [.ref p] H Q:=by unfold JP;exact ⟨p,ns,rfl,h,q⟩
def pJ{X:Cx}(K:Aa)(hc:X.calm=true)(hK:X.K=K:=by rfl):iA X (.builtin "sum") (JP K):=by
 subst hK;unfold JP;intro pins s σ H xs us Q I r h;obtain ⟨p,ns,rfl,hq,q⟩:=h;obtain ⟨u,rfl,rx⟩:=kD r;cases rx;obtain ⟨its,r',pl,hz⟩:=I.tuple hq;have hi:=nC r';obtain ⟨xs',e⟩:=hi.allInts.items;rw [e] at pl;refine PF (I.ok.hd hc) pl λh' tk t' hk=>⟨.int ns.sum,H,I.kept hk,⟨t',?_⟩,q⟩;rw [preSum_eq,List.take_of_length_le (by simp)];rw [<-hi.numsOf];have e2:its=(intItems xs').toList:=by rw [<-e]
 rw [e2,nums_intItems]
section
variable{js:Ae}{te:TE}{tc:TT}{σ:St}{H:Hp}{Q:VK}
def aQ.atI{α:Type}{g:α->PyData}:∀{as:List α}{xs:Al},aQ H (as.map g) xs->∀{i:Nat}{x:V},xs[i]?=some x->∃a,as[i]?=some a/\cE H (g a) x:=by
 intro as xs r i x e;obtain ⟨d,h1,h2⟩:=r.get e;rw [aL] at h1;cases q:as[i]? with
 | none=>rw [q] at h1;cases h1
 | some a=>rw [q] at h1;cases h1;exact ⟨a,rfl,h2⟩
def AM{K:Aa}{a:Addr}{xs:Al}{α:Type}{g:α->PyData}{as:List α}(r:aQ H (as.map g) xs)(p:α->Bool)(hz:xs.length<=100000)(hl:H a=some (.lst xs))
  (ht:∀x c H' (Q':Bool->Hp->Prop),c∈as->cE H' (g c) x->aU H H'->(∀H5,aU H' H5->Q' (p c) H5)->tc (some x::slots σ js) H' Q')
  (he:∀x H' (Q':VK),Q' x H'->te (some x::slots σ js) H' Q')
  (hd:∀D ys H',H D=none->H' D=some (.lst ys)->aU H H'->aQ H' ((as.filter p).map g) ys->Q (.ref D) H'):lM (ZZ K a) σ js tc te H Q:=by
 unfold lM;intro D hD;have hlen:xs.length=as.length:=by rw [r.len,aA]
 refine ⟨λi m ys H'=>m=xs.length-i/\i<=xs.length/\H' D=some (.lst ys)/\aU H H'/\aQ H (((as.take i).filter p).map g) ys/\ys.length<=i,⟨xs.length,by simp,cG _,bO,aU.upd hD,aQ.nil,aI _⟩,?_⟩;rintro i m ys H2 ⟨rfl,hi,hD2,s2,ry,hy⟩;refine ⟨hD2,?_⟩;by_cases hlt:i<xs.length
 ·have hx:xs[i]?=some xs[i]:=aB hlt;refine .inr ⟨⟨xs,_,fI.of (s2 _ _ hl),hx⟩,bC (m:=100000) Oo Dd,λx H3 hy3=>?_⟩;obtain ⟨rfl,hx3⟩:=hy3;have hx3:=hx3 xs (fI.of (s2 _ _ hl));obtain ⟨c,hc,rc⟩:=r.atI hx3;have hti:as.take (i+1)=as.take i++[c]:=by rw [fT,hc];rfl
  refine ⟨λb H4=>b=p c/\aU H3 H4,ht x c H3 _ (aG hc) (rc.same s2) s2 λH5 s5=>⟨rfl,s5⟩,?_⟩;rintro b H4 ⟨rfl,s4⟩;by_cases hp:p c=true
  ·rw [if_pos hp];refine ⟨λy H5=>y=x/\H5=H4,he x H4 _ ⟨rfl,rfl⟩,?_⟩;rintro y H5 ⟨rfl,rfl⟩;refine ⟨s4 _ _ hD2,_,?_,rfl,hlt,bO,aU.thru hD (s2.trans s4) aR.self,?_,?_⟩
   ·omega
   ·rw [hti,List.filter_append,bF];have:List.filter p [c]=[c]:=by simp [hp]
    rw [this];exact aQ.snoc ry rc
   ·rw [bE,List.length_singleton];exact Oo
  ·rw [if_neg hp];refine ⟨s4 _ _ hD2,_,?_,rfl,hlt,s4 _ _ hD2,s2.trans s4,?_,?_⟩
   ·omega
   ·rw [hti,List.filter_append];have:List.filter p [c]=[]:=by simp [hp]
    rw [this,List.append_nil];exact ry
   ·omega
 ·have e:i=xs.length:=Oo;subst e;refine .inl ⟨⟨xs,fI.of (s2 _ _ hl),aI _⟩,hd D ys H2 hD hD2 s2 ?_⟩;rw [hlen,cP] at ry;exact ry.same s2
end
def sN{X:Cx}{e:Expr}{t:TT}(h:IS X e t):IS X e (rS t):=⟨h.p.mono⟩
end L2
namespace HT
open PySem PyProof.Rows
section
variable{prog:Program}{w:World}{A:Around}{E:Value->Shared->Prop}{s:Shared}
def rO{t sl:Addr}{items:Ai}{vl vu:Value}{lo hi:Option Int}{Q:Value->Shared->Prop}(ht:IsTup s.heap t items)(hs:s.heap.IsSliceOf sl vl vu .none)(pl:IsPart vl lo)(pu:IsPart vu hi)
  (h0:jB items.size 0 lo=0) (h1:jB items.size items.size hi=items.size) (h:Q (.ref t) s):wpAny (model prog w) A (getItem (.ref t) (.ref sl)) Q E s:=by
 obtain ⟨os,hos,hcs,hds⟩:=id hs;have hTs:s.TypeIs (.ref sl) "slice" := ⟨os,hos,hcs⟩;have hTt:s.TypeIs (.ref t) "tuple" := ht.typeIs;unfold getItem
 try with_reducible refine wpAny_holding ?_
 first | refine wpAny_bind (wpAny_pure ?_) | skip
 refine wpAny_bind (wpAny_sequenceKey ht.typeIs Dd ?_);refine wpAny_bind (wpAny_callSpecial?_slot (name:=Str.ofString "__getitem__") ht.typeIs PyProof.Rows.slot_tuple_getitem
  (wpAny_call_entry PyProof.Rows.slot_tuple_getitem ht.typeIs entry_tuple_getitem ?_ (args_tuple_getitem _ _)))
 show wpAny _ _ (Builtin.Tuple.tupleItemsOf (.ref t) >>= _) _ _ s;refine wpAny_bind (tupleItemsOf_ ht ?_);refine wpAny_bind (wpAny_typeOf hTs ?_);rw [if_pos Dd];refine wpAny_bind (oK hs pl pu ?_);have hyes:(((jB items.size 0 lo:Nat):Int) == 0&&(1:Int) == 1&&(jB items.size items.size hi-jB items.size 0 lo) == items.size)=true:=by
  rw [h0,h1];simp
 show wpAny _ _ (if (((jB items.size 0 lo:Nat):Int) == 0&&(1:Int) == 1&&(jB items.size items.size hi-jB items.size 0 lo) == items.size)=true then _ else _) _ _ s;rw [if_pos hyes];unfold Builtin.Tuple.tupleIsExact;refine wpAny_bind (wpAny_bind (wpAny_typeOf hTt (wpAny_pure ?_)));rw [if_pos Dd];refine wpAny_bind (wpAny_rule ?_)
 first
  | exact wpAny_pure ⟨_,rfl,wpAny_pure h⟩
  | exact wpAny_bind (wpAny_pure (wpAny_pure ⟨_,rfl,wpAny_pure h⟩))
end
end HT
namespace L2
open PySem PySem.W PySem.Spec PySem.Calls PyProof.Rows
def IL{xs:Al}{lo hi:Option Int}(h0:HT.jB xs.length 0 lo=0)(h1:HT.jB xs.length xs.length hi=xs.length):lU xs lo hi=xs:=by
 unfold lU;rw [h0,h1];simp
section
variable{X:Cx}
@[irreducible] def HR(K:Aa):V->Option Int->Option Int->Hp->VK->Prop:=λx lo hi H Q=>∃a xs,x=.ref a/\H a=some (.tup xs)/\∀c H',aU H H'->H' c=some (.tup (lU xs lo hi))->Q (.ref c) H'
def wN(K:Aa)(hK:X.K=K:=by rfl):SlR X (HR K):=by
 unfold HR;subst hK;intro pins s σ H x v vl vu lo hi sl Q I rx hs pl pu h;obtain ⟨a,xs,rfl,hx,q⟩:=h;by_cases hw:HT.jB xs.length 0 lo=0/\HT.jB xs.length xs.length hi=xs.length
 ·cases rx;obtain ⟨its,r,ht,hz⟩:=I.tuple (iJ.of hx);have hlen:its.toArray.size=xs.length:=by rw [aW];exact r.length.symm
  refine ⟨"tuple",_,PyProof.Rows.slot_tuple_getitem.lookup,ht.typeIs,HT.rO ht hs pl pu (by rw [hlen];exact hw.1) (by rw [hlen];exact hw.2) ?_⟩;exact ⟨.ref a,H,I,rfl,q a H (aU.refl _) (by rw [IL hw.1 hw.2];exact hx)⟩
 ·exact aAl pins s σ H (.ref a) v vl vu lo hi sl Q I rx hs pl pu ⟨a,xs,rfl,iJ.of hx,hw,λp hp=>q p _ (aU.upd hp) bO⟩
def PY{K:Aa}{H:Hp}{a:Addr}{xs:Al}{k:Nat}{Q:VK}(h:H a=some (.tup xs))(q:∀c H',aU H H'->H' c=some (.tup (xs.take k))->Q (.ref c) H'):HR K (.ref a) none (some (k:Int)) H Q:=by
 unfold HR;exact ⟨a,xs,rfl,h,λc H' s e=>q c H' s (by rw [e,DB])⟩
def aAm{K:Aa}{H:Hp}{a:Addr}{xs:Al}{k:Nat}{Q:VK}(h:H a=some (.tup xs))(q:∀c H',aU H H'->H' c=some (.tup (xs.drop k))->Q (.ref c) H'):HR K (.ref a) (some (k:Int)) none H Q:=by
 unfold HR;exact ⟨a,xs,rfl,h,λc H' s e=>q c H' s (by rw [e,DA])⟩
end
end L2
namespace HT
open PySem PySem.W PyProof.Rows
def dO{α:Type}(n:Nat)(lt:Nat->Nat->Bool)(R:α->Prop):KasT α->Prop
 | .ret a=>R a
 | .ask i j k=>i<n/\j<n/\dO n lt R (k (lt i j))
section
variable{n:Nat}{lt:Nat->Nat->Bool}
theorem dO.bind{α β:Type}{R:α->Prop}{S:β->Prop}{f:α->KasT β}:∀{t:KasT α},dO n lt R t->(∀a,R a->dO n lt S (f a))->dO n lt S (t.bind f)
 | .ret a,h,k=>k a h
 | .ask i j t,⟨h1,h2,h3⟩,k=>⟨h1,h2,dO.bind (t:=t (lt i j)) h3 k⟩
theorem dO.wp{α:Type}{R:α->Prop}{cmp:Nat->Nat->(Bool->Shared->Prop)->Shared->Prop}{Q:α->Shared->Prop}{s:Shared}(hc:∀i j C,i<n->j<n->C (lt i j) s->cmp i j C s)(q:∀a,R a->Q a s) :
  ∀{t:KasT α},dO n lt R t->t.kasWp cmp Q s
 | .ret a,h=>q a h
 | .ask i j t,⟨h1,h2,h3⟩=>hc i j _ h1 h2 (dO.wp (t:=t (lt i j)) hc q h3)
def fZ(n:Nat)(p:Array Nat):Prop:=p.Perm (List.toArray (List.range n))
def fZ.bd{p:Array Nat}(g:fZ n p)(hn:0<n)(i:Nat):p.getD i 0<n:=by
 by_cases hi:i<p.size
 ·have e:p.getD i 0=p[i]:=by simp [Array.getD,hi]
  rw [e];have m:p[i]∈List.toArray (List.range n):=(Array.Perm.mem_iff g).mp (Array.getElem_mem hi);simpa using m
 ·have e:p.getD i 0=0:=by simp [Array.getD,hi]
  rw [e];exact hn
def fZ.rev{p:Array Nat}(g:fZ n p)(i j:Nat):fZ n (kas_rev p i j):=(mirror_perm p i j _).trans g
def fZ.bub{p:Array Nat}(g:fZ n p)(i j:Nat):fZ n (bubble p i j):=(bubble_perm p i j).trans g
theorem DK{p:Array Nat}(g:fZ n p)(hn:0<n):∀(f m:Nat),dO n lt (λ_=>True) (kas_asc p f m)
 | 0,m=>True.intro
 | f+1,m=>⟨g.bd hn _,g.bd hn _,by
  cases lt (p.getD m 0) (p.getD (m-1) 0) with
  | true=>exact True.intro
  | false=>exact DK g hn f (m+1)⟩
theorem uE(hn:0<n):∀(f:Nat) {p:Array Nat}(g:fZ n p) (m q:Nat),dO n lt (λr=>fZ n r.1) (kas_desc f p m q)
 | 0,p,g,m,q=>g
 | f+1,p,g,m,q=>by
  refine ⟨g.bd hn _,g.bd hn _,?_⟩;cases lt (p.getD m 0) (p.getD (m-1) 0) with
  | true =>
   show dO n lt _ (if q > 0 then _ else _);split
   ·exact uE hn f (g.rev _ _) _ _
   ·exact uE hn f g _ _
  | false =>
   refine ⟨g.bd hn _,g.bd hn _,?_⟩;cases lt (p.getD (m-1) 0) (p.getD m 0) with
   | true=>exact g
   | false=>exact uE hn f g _ _
def AW{p:Array Nat}(g:fZ n p)(hn:0<n)(m r:Nat):dO n lt (λr=>fZ n r.2) (kas_tail3 m r p):=by
 unfold kas_tail3;exact (DK (g.rev 0 m) hn _ _).bind λ_ _=>g.rev 0 m
def uD{p:Array Nat}(g:fZ n p)(hn:0<n)(m r:Nat):dO n lt (λr=>fZ n r.2) (kas_descPart m r p):=by
 unfold kas_descPart;refine (uE hn _ g _ _).bind λr hr=>?_;split
 ·exact AW (fZ.rev hr _ _) hn _ _
 ·exact AW hr hn _ _
def NV{p:Array Nat}(g:fZ n p)(hn:0<n)(m:Nat):dO n lt (λr=>fZ n r.2) (kas_count m p):=by
 unfold kas_count;refine (DK g hn _ _).bind λk _=>?_;split
 ·exact g
 ·split
  ·refine ⟨g.bd hn _,g.bd hn _,?_⟩;cases lt (p.getD 0 0) (p.getD (k-1) 0) with
   | true=>exact g
   | false=>exact uD (g.rev _ _) hn _ _
  ·exact uD g hn _ _
theorem vK{p:Array Nat}(g:fZ n p)(hn:0<n)(k:Nat):∀(f l r:Nat),dO n lt (λ_=>True) (kas_place p k f l r)
 | 0,l,r=>True.intro
 | f+1,l,r=>by
  unfold kas_place;split
  ·exact True.intro
  ·refine ⟨g.bd hn _,g.bd hn _,?_⟩;cases lt (p.getD k 0) (p.getD ((l+r)/2) 0) with
   | true=>exact vK g hn k f _ _
   | false=>exact vK g hn k f _ _
theorem LF(hn:0<n):∀(f:Nat) {p:Array Nat}(g:fZ n p) (k:Nat),dO n lt (fZ n) (kas_bin f p k)
 | 0,p,g,k=>g
 | f+1,p,g,k=>by
  unfold kas_bin;exact (vK g hn k _ _ _).bind λl _=>LF hn f (g.bub _ _) _
def TN(hn:0<n):dO n lt (fZ n) (kas_sort n):=by
 unfold kas_sort;refine (NV (Array.Perm.refl _) hn n).bind λr hr=>?_;split
 ·exact LF hn _ hr _
 ·exact hr
end
structure yR(n:Nat)(lt:Nat->Nat->Bool):Prop where
 tot:∀i j,i<n->j<n->i≠j->lt i j=false->lt j i=true
 tra:∀i j k,lt i j=true->lt j k=true->lt i k=true
def uK(lt:Nat->Nat->Bool)(p:Array Nat)(m:Nat):Prop:=∀a b,a<b->b<m->lt (p.getD a 0) (p.getD b 0)=true
def Dsc(lt:Nat->Nat->Bool)(p:Array Nat)(m:Nat):Prop:=∀a b,a<b->b<m->lt (p.getD b 0) (p.getD a 0)=true
section
variable{n:Nat}{lt:Nat->Nat->Bool}
theorem dO.mono{α:Type}{R S:α->Prop}(k:∀a,R a->S a):∀{t:KasT α},dO n lt R t->dO n lt S t
 | .ret a,h=>k a h
 | .ask i j t,⟨h1,h2,h3⟩=>⟨h1,h2,dO.mono k (t:=t (lt i j)) h3⟩
theorem fZ.size{p:Array Nat}(g:fZ n p):p.size=n:=by
 have:=(Array.perm_iff_toList_perm.mp g).length_eq;simpa using this
def fZ.ne{p:Array Nat}(g:fZ n p){i j:Nat}(hi:i<n)(hj:j<n)(h:i≠j):p.getD i 0≠p.getD j 0:=by
 have hn:p.toList.Nodup:=(Array.perm_iff_toList_perm.mp g).nodup_iff.mpr (by simpa using List.nodup_range);have hs:=g.size;have e1:p.getD i 0=p.toList[i]'(by simpa [hs] using hi):=by simp [Array.getD,hs,hi]
 have e2:p.getD j 0=p.toList[j]'(by simpa [hs] using hj):=by simp [Array.getD,hs,hj]
 rw [e1,e2];intro e;exact h ((List.getElem_inj hn).mp e)
def uK.one{p:Array Nat}:uK lt p 1:=λa b h1 h2=>Oo
def uK.more(O:yR n lt){p:Array Nat}(g:fZ n p){m:Nat}(h:uK lt p m)(h1:1<=m)(hm:m<n)(e:lt (p.getD m 0) (p.getD (m-1) 0)=false):uK lt p (m+1):=λa b hab hb=>by
 by_cases q:b<m
 ·exact h a b hab q
 ·have e':b=m:=Oo;subst e';have l1:lt (p.getD (b-1) 0) (p.getD b 0)=true:=O.tot _ _ (g.bd Oo _) (g.bd Oo _) (g.ne Oo Oo Oo) e;by_cases r:a=b-1
  ·rw [r];exact l1
  ·exact O.tra _ _ _ (h a (b-1) Oo Oo) l1
theorem DG(O:yR n lt){p:Array Nat}(g:fZ n p):∀(f m:Nat),1<=m->m+f<=n->uK lt p m->dO n lt (λk=>m<=k/\k<=m+f/\uK lt p k/\(k<m+f->lt (p.getD k 0) (p.getD (k-1) 0)=true)) (kas_asc p f m)
 | 0,m,_,_,h=>⟨aI _,aI _,h,λq=>Oo⟩
 | f+1,m,h1,hm,h=>by
  refine ⟨g.bd Oo _,g.bd Oo _,?_⟩;cases e:lt (p.getD m 0) (p.getD (m-1) 0) with
  | true=>exact ⟨aI _,Oo,h,λ_=>e⟩
  | false =>
   refine (show dO n lt _ (kas_asc p f (m+1)) from ?_);have ih:=DG O g f (m+1) Oo Oo (h.more O g h1 Oo e);exact dO.mono (λk ⟨a1,a2,a3,a4⟩=>⟨Oo,Oo,a3,λq=>a4 Oo⟩) ih
def Dsc.more(O:yR n lt){p:Array Nat}{m:Nat}(h:Dsc lt p m)(h1:1<=m)(e:lt (p.getD m 0) (p.getD (m-1) 0)=true):Dsc lt p (m+1):=λa b hab hb=>by
 by_cases q:b<m
 ·exact h a b hab q
 ·have e':b=m:=Oo;subst e';by_cases r:a=b-1
  ·rw [r];exact e
  ·exact O.tra _ _ _ e (h a (b-1) Oo Oo)
theorem FY(O:yR n lt){p:Array Nat}(g:fZ n p):∀(f m:Nat),1<=m->m+f<=n->Dsc lt p m->dO n lt (λr=>r.1=p/\r.2.2=0/\m<=r.2.1/\r.2.1<=m+f/\Dsc lt p r.2.1) (kas_desc f p m 0)
 | 0,m,_,_,h=>⟨rfl,rfl,aI _,aI _,h⟩
 | f+1,m,h1,hm,h=>by
  refine ⟨g.bd Oo _,g.bd Oo _,?_⟩;cases e:lt (p.getD m 0) (p.getD (m-1) 0) with
  | true =>
   refine (show dO n lt _ (kas_desc f p (m+1) 0) from ?_);exact dO.mono (λr ⟨a1,a2,a3,a4,a5⟩=>⟨a1,a2,Oo,Oo,a5⟩) (FY O g f (m+1) Oo Oo (h.more O h1 e))
  | false =>
   refine ⟨g.bd Oo _,g.bd Oo _,?_⟩;rw [O.tot _ _ (g.bd Oo _) (g.bd Oo _) (g.ne Oo Oo Oo) e];exact ⟨rfl,rfl,aI _,(show m<=m+(f+1) by omega),h⟩
def QK{p:Array Nat}{m i:Nat}(hm:m<=p.size):(kas_rev p 0 m).getD i 0=if i<m then p.getD (m-1-i) 0 else p.getD i 0:=by
 have e:=getElem?_mirror (xs:=p) (i:=0) (j:=m) hm (m/2) Oo i;have e':(kas_rev p 0 m)[i]?=if (0<=i/\i<0+m/2)\/(m-m/2<=i/\i<m) then p[0+m-1-i]? else p[i]?:=e
 have g:∀(q:Array Nat) (k:Nat),q.getD k 0=q[k]?.getD 0:=λq k=>by simp [Array.getD_eq_getD_getElem?]
 rw [g,e',g,g];by_cases h:i<m
 ·rw [if_pos h];by_cases h2:(0<=i/\i<0+m/2)\/(m-m/2<=i/\i<m)
  ·rw [if_pos h2,show 0+m-1-i=m-1-i by omega]
  ·rw [if_neg h2,show m-1-i=i by omega]
 ·rw [if_neg h,if_neg Oo]
def Dsc.rev{p:Array Nat}{m:Nat}(h:Dsc lt p m)(hm:m<=p.size):uK lt (kas_rev p 0 m) m:=λa b hab hb=>by
 rw [QK hm,QK hm,if_pos Oo,if_pos hb];exact h _ _ Oo Oo
def NK(O:yR n lt){p:Array Nat}(g:fZ n p)(hn:2<=n):dO n lt (λr=>fZ n r.2/\1<=r.1/\r.1<=n/\uK lt r.2 r.1) (kas_count n p):=by
 unfold kas_count;refine (DG O g (n-1) 1 (aI _) Oo uK.one).bind λk ⟨k1,k2,k3,k4⟩=>?_;split
 ·exact ⟨g,k1,by show k<=n;omega,k3⟩
 ·rename_i hk
  have hkn:k≠n:=λe=>hk (by simp [e]);split
  ·refine ⟨g.bd Oo _,g.bd Oo _,?_⟩;rw [k3 0 (k-1) Oo Oo];exact ⟨g,k1,by show k<=n;omega,k3⟩
  ·have e1:k=1:=Oo;subst e1;unfold kas_descPart;have d2:Dsc lt p 2:=λa b hab hb=>by
    have e:a=0/\b=1:=Oo;rw [e.1,e.2];exact k4 Oo
   refine (FY O g (n-2) 2 Oo Oo d2).bind λr ⟨r1,r2,r3,r4,r5⟩=>?_;obtain ⟨p',m,q⟩:=r;dsimp only at r1 r2 r3 r4 r5 ⊢;subst r1 r2;rw [if_neg Dd];unfold kas_tail3;have hs:=g.size;exact (DG O (g.rev 0 m) (n-m) m Oo Oo (r5.rev Oo)).bind λk' ⟨a1,a2,a3,_⟩=>⟨g.rev 0 m,(show 1<=k' by omega),(show k'<=n by omega),a3⟩
theorem uY(O:yR n lt){p:Array Nat}(g:fZ n p){k:Nat}(hk:k<n)(h:uK lt p k):∀(f l r:Nat),l<=r->r<=k->r-l<=f->(∀a,a<l->lt (p.getD a 0) (p.getD k 0)=true)->(∀a,r<=a->a<k->lt (p.getD k 0) (p.getD a 0)=true) ->
  dO n lt (λm=>m<=k/\(∀a,a<m->lt (p.getD a 0) (p.getD k 0)=true)/\∀a,m<=a->a<k->lt (p.getD k 0) (p.getD a 0)=true) (kas_place p k f l r)
 | 0,l,r,h1,h2,h3,h4,h5=>⟨Oo,h4,λa q1 q2=>h5 a Oo q2⟩
 | f+1,l,r,h1,h2,h3,h4,h5=>by
  unfold kas_place;split
  ·exact ⟨Oo,h4,λa q1 q2=>h5 a Oo q2⟩
  ·refine ⟨g.bd Oo _,g.bd Oo _,?_⟩;cases e:lt (p.getD k 0) (p.getD ((l+r)/2) 0) with
   | true =>
    refine (show dO n lt _ (kas_place p k f l ((l+r)/2)) from ?_);refine uY O g hk h f l ((l+r)/2) Oo Oo Oo h4 λa q1 q2=>?_;by_cases q:a=(l+r)/2
    ·rw [q];exact e
    ·exact O.tra _ _ _ e (h _ _ Oo q2)
   | false =>
    refine (show dO n lt _ (kas_place p k f ((l+r)/2+1) r) from ?_);have e2:=O.tot _ _ (g.bd Oo _) (g.bd Oo _) (g.ne hk Oo Oo) e;refine uY O g hk h f ((l+r)/2+1) r Oo Oo Oo (λa q1=>?_) h5;by_cases q:a=(l+r)/2
    ·rw [q];exact e2
    ·exact O.tra _ _ _ (h a ((l+r)/2) Oo Oo) e2
def TH{p:Array Nat}{k m i:Nat}(hk:k<p.size)(hm:m<=k):(bubble p k (k-m)).getD i 0=if i=m then p.getD k 0 else if m<i/\i<=k then p.getD (i-1) 0 else p.getD i 0:=by
 have e:=getElem?_bubble (xs:=p) hk (k-m) Oo i;have g:∀(q:Array Nat) (k:Nat),q.getD k 0=q[k]?.getD 0:=λq k=>by simp [Array.getD_eq_getD_getElem?]
 rw [g,e,g,g,g,show k-(k-m)=m by omega];by_cases h:i=m
 ·rw [if_pos h,if_pos h]
 ·rw [if_neg h,if_neg h];by_cases h2:m<i/\i<=k
  ·rw [if_pos h2,if_pos h2]
  ·rw [if_neg h2,if_neg h2]
theorem LE(O:yR n lt):∀(f:Nat) {p:Array Nat}(g:fZ n p) (k:Nat),k+f=n->uK lt p k->dO n lt (λp=>fZ n p/\uK lt p n) (kas_bin f p k)
 | 0,p,g,k,hk,h=>⟨g,by rw [<-hk];exact h⟩
 | f+1,p,g,k,hk,h=>by
  unfold kas_bin;refine (uY O g Oo h k 0 k Oo Oo Oo (λa q=>Oo) (λa q1 q2=>Oo)).bind λm ⟨m1,m2,m3⟩=>?_;have hs:=g.size;refine LE O f (g.bub _ _) (k+1) Oo λa b hab hb=>?_;rw [TH Oo m1,TH Oo m1];by_cases ha:a=m
  ·rw [if_pos ha,if_neg Oo,if_pos Oo];exact m3 _ Oo Oo
  ·rw [if_neg ha];by_cases hb':b=m
   ·rw [if_pos hb',if_neg Oo];exact m2 a Oo
   ·rw [if_neg hb'];by_cases q1:m<a/\a<=k
    ·rw [if_pos q1,if_pos Oo];exact h _ _ Oo Oo
    ·rw [if_neg q1];by_cases q2:m<b/\b<=k
     ·rw [if_pos q2];exact h _ _ Oo Oo
     ·rw [if_neg q2];exact h _ _ hab Oo
def PU(O:yR n lt)(hn:2<=n):dO n lt (λp=>fZ n p/\uK lt p n) (kas_sort n):=by
 unfold kas_sort;refine (NK O (Array.Perm.refl _) hn).bind λr ⟨h1,h2,h3,h4⟩=>?_;split
 ·rename_i q
  rw [Nat.max_eq_left h2];exact LE O _ h1 _ Oo h4
 ·rename_i q
  have e:r.1=n:=Oo;exact ⟨h1,e ▸ h4⟩
end
end HT
namespace L2
open PySem PySem.Spec PySem.W PyProof.Rows HT
def sS{x:V}{xs:Al}{us:Ag}(r:dF (x::xs) us):∃u us',us=u::us'/\dN x u/\dF xs us':=by
 cases r with
 | cons h t=>exact ⟨_,_,rfl,h,t⟩
def FP(fin:Bool):Af->Af->Bool
 | x::a,y::b=>if x=y then FP fin a b else decide (x<y)
 | _,_=>fin
def jX(a b:Af):Bool:=FP (decide (a.length<b.length)) a b
def tU(a:Af):jX a []=false:=by
 unfold jX;cases a <;> rfl
def wU(y:Int)(b:Af):jX [] (y::b)=true:=by unfold jX;rfl
def pC(x y:Int)(a b:Af):jX (x::a) (y::b)=if x=y then jX a b else decide (x<y):=by
 show (if x=y then FP (decide ((x::a).length<(y::b).length)) a b else decide (x<y))=_;rw [bT,bT,show decide (a.length+1<b.length+1)=decide (a.length<b.length) by simp]
 rfl
theorem KD:∀{a b:Af},a≠b->jX a b=false->jX b a=true
 | [],[],h,_=>absurd rfl h
 | [],y::b,_,e=>by rw [wU] at e;cases e
 | x::a,[],_,_=>wU _ _
 | x::a,y::b,h,e=>by
  rw [pC] at e ⊢;by_cases q:x=y
  ·subst q;rw [if_pos rfl] at e ⊢;exact KD (λz=>h (by rw [z])) e
  ·rw [if_neg q] at e;rw [if_neg (Ne.symm q)];have:=of_decide_eq_false e;exact cL Oo
theorem wT:∀{a b c:Af},jX a b=true->jX b c=true->jX a c=true
 | a,b,[],_,h=>by rw [tU] at h;cases h
 | [],b,z::c,_,_=>wU _ _
 | x::a,[],z::c,h,_=>by rw [tU] at h;cases h
 | x::a,y::b,z::c,h1,h2=>by
  rw [pC] at h1 h2 ⊢;by_cases q1:x=y
  ·subst q1;rw [if_pos rfl] at h1;by_cases q2:x=z
   ·subst q2;rw [if_pos rfl] at h2 ⊢;exact wT h1 h2
   ·rw [if_neg q2] at h2 ⊢;exact h2
  ·rw [if_neg q1] at h1;have h1:=of_decide_eq_true h1;by_cases q2:y=z
   ·subst q2;rw [if_neg q1];exact cL h1
   ·rw [if_neg q2] at h2;have h2:=of_decide_eq_true h2;rw [if_neg Oo];exact cL Oo
def rG{a:Af}:jX a a=false:=by
 induction a with
 | nil=>exact tU _
 | cons x a ih=>rw [pC,if_pos rfl];exact ih
theorem tS:∀{l m:Ac},l.Pairwise (λa b=>jX a b=true)->m.Pairwise (λa b=>jX a b=true)->(∀x,x∈l↔x∈m)->l=m
 | [],[],_,_,_=>rfl
 | [],y::m,_,_,h=>by have:=(h y).mpr (aS ..);cases this
 | x::l,[],_,_,h=>by have:=(h x).mp (aS ..);cases this
 | x::l,y::m,h1,h2,h=>by
  obtain ⟨a1,a2⟩:=List.pairwise_cons.mp h1;obtain ⟨b1,b2⟩:=List.pairwise_cons.mp h2;have e:x=y:=by
   rcases aZ.mp ((h x).mp (aS ..)) with q | q
   ·exact q
   ·rcases aZ.mp ((h y).mpr (aS ..)) with r | r
    ·exact r.symm
    ·have:=wT (b1 x q) (a1 y r);rw [rG] at this;cases this
  subst e;rw [tS a2 b2 λz=>?_];constructor
  ·intro q;rcases aZ.mp ((h z).mp (aT _ q)) with r | r
   ·subst r;have:=a1 z q;rw [rG] at this;cases this
   ·exact r
  ·intro q;rcases aZ.mp ((h z).mpr (aT _ q)) with r | r
   ·subst r;have:=b1 z q;rw [rG] at this;cases this
   ·exact r
abbrev uJ(cs:Ac):Nat->Nat->Bool:=λi j=>jX (cs.getD i []) (cs.getD j [])
def HX{cs:Ac}(h:cs.Nodup):yR cs.length (uJ cs):=⟨λi j hi hj ne e=>KD (λz=>by
  have e1:cs.getD i []=cs[i]:=by simp [hi]
  have e2:cs.getD j []=cs[j]:=by simp [hj]
  rw [e1,e2] at z;exact ne ((List.getElem_inj h).mp z)) e,λi j k h1 h2=>wT h1 h2⟩
section
variable{prog:Program}{w:World}{A:Around}{E:Value->Shared->Prop}{s:Shared}{Q:Bool->Shared->Prop}
theorem vZ{fin:Bool}:∀{a b:Af}{us vs:Ag}{i:Nat},dF (a.map V.int) us->dF (b.map V.int) vs->Q (FP fin a b) s->KatLex prog w A true fin Q (us.zip vs) i s
 | [],b,us,vs,i,ha,hb,q=>by cases ha;exact kat_nil (by unfold FP at q;exact q)
 | x::a,[],us,vs,i,ha,hb,q=>by
  cases hb;cases us with
  | nil=>exact kat_nil (by unfold FP at q;exact q)
  | cons u us=>exact kat_nil (by unfold FP at q;exact q)
 | x::a,y::b,us,vs,i,ha,hb,q=>by
  rw [bI] at ha hb;obtain ⟨u,us',rfl,⟨t,rfl⟩,ra⟩:=sS ha;obtain ⟨v,vs',rfl,⟨t',rfl⟩,rb⟩:=sS hb;rw [List.zip_cons_cons];refine kat_cons (wpAny_eqBool_int ?_);unfold FP at q;by_cases h:x=y
  ·rw [if_pos h] at q;rw [show (x == y)=true by simp [h]];exact kat_yes (vZ ra rb q)
  ·rw [if_neg h] at q;rw [show (x == y)=false by simp [h]];refine kat_no ?_;cases (true&&i == 0) with
   | true=>exact oneLt_int q
   | false=>exact kat_one _ _ (lt_int q)
def ZX(h:Heap)(v:Value)(c:Af):Prop:=∃b its,v=.ref b/\IsTup h b (List.toArray its)/\dF (c.map V.int) its/\c≠[]
abbrev jY(h:Heap):Ag->Ac->Prop:=Paired (ZX h)
theorem jY.get{h:Heap}:∀{vs:Ag}{cs:Ac}{i:Nat},jY h vs cs->i<vs.length->ZX h (vs.getD i Value.none) (cs.getD i [])
 | _,_,_,.nil,hi=>by simp at hi
 | _,_,0,.cons t r,hi=>t
 | v::vs,c::cs,i+1,.cons t r,hi=>by
  have:=jY.get (i:=i) r (by simpa using hi);simpa using this
theorem jY.firsts{h:Heap}:∀{vs:Ag}{cs:Ac},jY h vs cs->∃fs,KatTups h vs fs/\fs.length=vs.length/\∀v∈fs,∃i t,v=Value.int i t
 | _,_,.nil=>⟨[],KatTups.nil,rfl,λv hv=>by cases hv⟩
 | v::vs,c::cs,.cons t r=>by
  obtain ⟨fs,h1,h2,h3⟩:=jY.firsts r;obtain ⟨b,its,rfl,⟨o,ho,hc,n,hd⟩,hv,hne⟩:=t;cases c with
  | nil=>exact absurd rfl hne
  | cons x c =>
   rw [bI] at hv;obtain ⟨u,us,rfl,⟨t,rfl⟩,_⟩:=sS hv;exact ⟨.int x t::fs,KatTups.cons ho hc hd (by simp) h1,by simp [h2],λv hv=>by
    rcases aZ.mp hv with rfl | hv
    ·exact ⟨_,_,rfl⟩
    ·exact h3 v hv⟩
theorem jY.keep{h h':Heap}(k:∀b o,h.get? b=some o->o.cls=.type "tuple" -> h'.get? b=some o):∀{vs:Ag}{cs:Ac},jY h vs cs->jY h' vs cs
 | _,_,.nil=>.nil
 | _,_,.cons ⟨b,its,e,⟨o,ho,hc,hd⟩,hv,hne⟩ r=>.cons ⟨b,its,e,⟨o,k b o ho hc,hc,hd⟩,hv,hne⟩ (jY.keep k r)
def ET{n:Nat}{lt:Nat->Nat->Bool}(hn:2<=n):dO n lt (λp=>fZ n p/\(yR n lt->uK lt p n)) (kas_sort n):=by
 by_cases O:yR n lt
 ·exact dO.mono (λp h=>⟨h.1,λ_=>h.2⟩) (PU O hn)
 ·exact dO.mono (λp h=>⟨h,λz=>absurd z O⟩) (TN Oo)
def zT{a:Addr}{vs:Ag}{cs:Ac}{n:Nat}{P:PySem.Fin->Shared->Prop}(ho:s.heap.get? a=some (seqObj "list" vs.toArray n))(ht:jY s.heap vs cs)(h64:vs.length<64)
  (h:∀p:Array Nat,fZ vs.length p->(yR vs.length (uJ cs)->uK (uJ cs) p vs.length)->P (.done (.ret .none)) { s with heap:=sortedHeap s.heap a vs (List.toArray (p.toList.map λi=>vs.getD i Value.none)) }) :
  wpAny (model prog w) A (Builtin.«list.sort» ⟨[.ref a],[]⟩) P E s:=by
 rw [list_sort_plain];have ha:a<s.heap.objs.size:=aV ho;refine wpAny_bind (listItems_at ho rfl ?_);refine wpAny_bind (listUpdate_at ho rfl ?_ (by rw [aW,sizeLine_eq];exact Oo) (cG _));obtain ⟨e1,ho1⟩:∃e1,(s.heap.update a (Obj.mapSeq λ_=>#[])).get? a=some (seqObj "list" #[] e1):=⟨_,get?_update_seq ho (λ_=>#[])⟩;refine wpAny_bind (seqEpoch_at ho1 rfl ?_);refine wpAny_bind (wpAny_newTuple ?_ (by show vs.length<=_;rw [sizeLine_eq];exact Oo));refine wpAny_bind (wpAny_newList ?_ (cG _));refine wpAny_holding ?_;have ho6:(((s.heap.update a (Obj.mapSeq λ_=>#[])).push (seqObj "tuple" vs.toArray 0)).push (seqObj "list" #[] 0)).get? a=some (seqObj "list" #[] e1):=by
  rw [Heap.get?_push_ne _ _ _ (by rw [size_push',Heap.size_update];exact cA (Nat.lt_succ_of_lt ha)),Heap.get?_push_ne _ _ _ (by rw [Heap.size_update];exact cA ha)];exact ho1
 show wpAny (model prog w) A _ P E { s with heap:=((s.heap.update a (Obj.mapSeq λ_=>#[])).push (seqObj "tuple" vs.toArray 0)).push (seqObj "list" #[] 0) };dsimp only;have fin:∀st':SortSt,∀p:Array Nat,fZ vs.length p->(yR vs.length (uJ cs)->uK (uJ cs) p vs.length)->(arrOf st').map (·.2)=List.toArray (p.toList.map λi=>vs.getD i Value.none) ->
   P (.done (.ret .none)) { s with heap:=sortedHeap s.heap a vs ((arrOf st').map (·.2)) }:=by
  intro st' p hp ho hs;rw [hs];exact h p hp ho
 have ht6:jY (((s.heap.update a (Obj.mapSeq λ_=>#[])).push (seqObj "tuple" vs.toArray 0)).push (seqObj "list" #[] 0)) vs cs:=ht.keep λb o hb hc=>by
  have hne:b≠a:=λe=>by
   subst e;rw [ho] at hb;cases hb;exact absurd (show Value.type "list" = Value.type "tuple" from hc) Dd
  exact aC _ (aC _ (by rw [dB _ _ _ _ hne];exact hb))
 by_cases h2:vs.toArray.size<2
 ·rw [if_pos h2,if_pos h2];refine wpAny_bind (wpAny_pure ?_);rw [StateT.run_pure];refine wpAny_bind (wpAny_pure ?_);dsimp only;refine wpAny_bind (seqEpoch_at ho6 rfl ?_);refine wpAny_bind (listUpdate_at ho6 rfl ?_ (hsz2:=by rw [Array.size_map];show (pairsOf vs).size<=_;rw [pairsOf_size,sizeLine_eq];exact Oo));simp only [bne_self_eq_false,Bool.false_eq_true,if_false];refine wpAny_pure (fin (SortSt.mk' general' (vs.toArray.zip vs.toArray) #[] 7 none) (List.toArray (List.range vs.length)) (Array.Perm.refl _) (λ_ a b h1 h3=>by rw [aW] at h2;exact Oo) ?_);have e:=kat_snds (ks:=vs) (vs:=vs) (st:=SortSt.mk' general' (vs.toArray.zip vs.toArray) #[] 7 none) (p:=List.toArray (List.range vs.length)) rfl (by
   have e:=kas_range (vs.toArray.zip vs.toArray);rw [show (vs.toArray.zip vs.toArray).size=vs.length by simp] at e;exact e.symm)
  exact e
 ·rw [if_neg h2,if_neg h2];have hl2:2<=vs.length:=by rw [aW] at h2;exact Oo
  obtain ⟨fs,k1,k2,k3⟩:=ht6.firsts;refine wpAny_bind (kat_kind (T:=.type "int") k1 Oo (λv hv=>?_) rfl ?_)
  ·obtain ⟨i,t,rfl⟩:=k3 v hv;exact .now
  refine wpAny_bind (wpAny_mono (kat_run (ks:=vs) (vs:=vs) (G:=λp s'=>s'={ s with heap:=((s.heap.update a (Obj.mapSeq λ_=>#[])).push (seqObj "tuple" vs.toArray 0)).push (seqObj "list" #[] 0) }/\fZ vs.length p/\(yR vs.length (uJ cs)->uK (uJ cs) p vs.length))
   (Q:=λst' s'=>s'={ s with heap:=((s.heap.update a (Obj.mapSeq λ_=>#[])).push (seqObj "tuple" vs.toArray 0)).push (seqObj "list" #[] 0) }/\failedOf st'=none/\∃p:Array Nat,p.size=vs.length/\(fZ vs.length p/\(yR vs.length (uJ cs)->uK (uJ cs) p vs.length))/\arrOf st'=p.map (kas_item (vs.toArray.zip vs.toArray)))
   rfl hl2 h64 (λp' st' s' a1 a2 a3 a4=>⟨a4.1,a3,p',a1,a4.2,a2⟩)
   (dO.wp (n:=vs.length) (lt:=uJ cs) (R:=λp=>fZ vs.length p/\(yR vs.length (uJ cs)->uK (uJ cs) p vs.length)) (λi j C hi hj hC=>?_) (λp hp=>⟨rfl,hp⟩) (ET hl2))) ?_ λ_ _ e=>e)
  ·obtain ⟨b,its,e1',⟨o,hb,hc,n',hd⟩,hv,_⟩:=ht6.get hi;obtain ⟨b2,its2,e2',⟨o2,hb2,hc2,n2,hd2⟩,hv2,_⟩:=ht6.get hj;unfold kas_ask;rw [e1',e2'];refine kat_lt hb hd hb2 hd2 (vZ hv hv2 ?_);have l1:=hv.length;have l2:=hv2.length;rw [aA] at l1 l2;rw [aW,aW,<-l1,<-l2];exact hC
  rintro ⟨⟨⟩,st'⟩ s' ⟨rfl,hf,p,hp,hg,har⟩;dsimp only;have hout:=kat_snds rfl har;refine wpAny_bind (seqEpoch_at ho6 rfl ?_);refine wpAny_bind (listUpdate_at ho6 rfl ?_ (hsz2:=by rw [hout,aW,aA,Array.length_toList,hp,sizeLine_eq];exact Oo));rw [hf];simp only [bne_self_eq_false,Bool.false_eq_true,if_false];exact wpAny_pure (fin st' p hg.1 hg.2 hout)
def ES{l:Addr}{vs:Ag}{cs:Ac}{Q:Value->Shared->Prop}(hl:s.heap.IsList l vs.toArray)(ht:jY s.heap vs cs)(h64:vs.length<64)
  (h:∀(p:Array Nat) (h':Heap) (D:Addr) (c:Nat),fZ vs.length p->(yR vs.length (uJ cs)->uK (uJ cs) p vs.length)->(∀b o,s.heap.get? b=some o->h'.get? b=some o)->s.heap.objs.size<=D->h'.get? D=some (seqObj "list" (List.toArray (p.toList.map λi=>vs.getD i Value.none)) c)->Q (.ref D) { s with heap:=h' }) :
  wpAny (model prog w) A (call (.builtin "sorted") [.ref l]) Q E s:=by
 refine Calls.call_function_entry kind_sorted plain_sorted entry_sorted (args_sorted1 _) ?_;unfold Builtin.«sorted»;refine wpAny_bind (m:=checkCount "sorted" 1 1 _) (wpAny_pure ?_);refine wpAny_bind (collect_list hl ?_ (by rw [sizeLine_eq];exact Oo));refine wpAny_bind (wpAny_newList ?_ (by rw [sizeLine_eq];exact Oo));have hsz:((s.heap.push (seqObj "list" #[] 0)).update s.heap.objs.size (Obj.mapSeq (· ++ vs.toArray))).objs.size=s.heap.objs.size+1:=by
  rw [Heap.size_update,size_push']
 have hoL:(((s.heap.push (seqObj "list" #[] 0)).update s.heap.objs.size (Obj.mapSeq (· ++ vs.toArray))).push (seqObj "list" vs.toArray 0)).get? (s.heap.objs.size+1)=some (seqObj "list" vs.toArray 0):=by
  rw [<-hsz];exact bB _ rfl
 have keep:∀b o,s.heap.get? b=some o->(((s.heap.push (seqObj "list" #[] 0)).update s.heap.objs.size (Obj.mapSeq (· ++ vs.toArray))).push (seqObj "list" vs.toArray 0)).get? b=some o:=λb o q=>by
  have hlt:b<s.heap.objs.size:=aV q;rw [Heap.get?_push_ne _ _ _ (by rw [hsz];exact cA (Nat.lt_succ_of_lt hlt)),dB _ _ _ _ (cA hlt),Heap.get?_push_ne _ _ _ (cA hlt)];exact q
 show wpAny _ _ _ _ _ { s with heap:=((s.heap.push (seqObj "list" #[] 0)).update s.heap.objs.size (Obj.mapSeq (· ++ vs.toArray))).push (seqObj "list" vs.toArray 0) };rw [hsz];refine wpAny_bind (wpAny_holding (wpAny_call_entry slot_list_sort ⟨_,hoL,rfl⟩ entry_list_sort ?body (args_list_sort _)));generalize hH:((s.heap.push (seqObj "list" #[] 0)).update s.heap.objs.size (Obj.mapSeq (· ++ vs.toArray))).push (seqObj "list" vs.toArray 0)=h1 at *;refine zT (s:={ s with heap:=h1 }) hoL (ht.keep λb o hb _=>keep b o hb) h64 λp hp ho=>⟨_,rfl,wpAny_pure ⟨_,rfl,?_⟩⟩;have hD:s.heap.objs.size+1<h1.objs.size:=aV hoL;unfold sortedHeap;have o1:(h1.update (s.heap.objs.size+1) (Obj.mapSeq λ_=>#[])).get? (s.heap.objs.size+1)=some (seqObj "list" #[] _):=get?_update_seq hoL (λ_=>#[]);have o2:=aC (seqObj "list" #[] 0) (aC (seqObj "tuple" vs.toArray 0) o1);refine h p _ (s.heap.objs.size+1) _ hp ho (λb o q=>?_) (Nat.le_succ _) (get?_update_seq o2 λ_=>List.toArray (p.toList.map λi=>vs.getD i Value.none));have hlt:b<s.heap.objs.size:=aV q;have hne:b≠s.heap.objs.size+1:=cA (Nat.lt_succ_of_lt hlt);rw [dB _ _ _ _ hne];exact aC _ (aC _ (by rw [dB _ _ _ _ hne];exact keep b o q))
end
@[irreducible] def wP(K:Aa):Al->Hp->VK->Prop:=λxs H Q=>∃(p:Addr) (ys:Al) (cs:Ac),xs=[.ref p]/\fI K H p ys/\aQ H (cs.map λc=>PyData.tuple (c.map .int)) ys/\(∀c∈cs,c≠[])/\ys.length<64 /\
 ∀q (ix:Ae) H',ix.Perm (List.range ys.length)->(cs.Nodup->(ix.map λi=>cs.getD i []).Pairwise λa b=>jX a b=true)->H q=none->H' q=some (.lst (ix.map λi=>ys.getD i .non))->aU H H'->Q (.ref q) H'
def rsrt{K:Aa}{H:Hp}{Q:VK}{p:Addr}{ys:Al}{cs:Ac}(h:fI K H p ys)(r:aQ H (cs.map λc=>PyData.tuple (c.map .int)) ys)(hc:∀c∈cs,c≠[])(hz:ys.length<64)
  (q:∀q (ix:Ae) H',ix.Perm (List.range ys.length)->(cs.Nodup->(ix.map λi=>cs.getD i []).Pairwise λa b=>jX a b=true)->H q=none->H' q=some (.lst (ix.map λi=>ys.getD i .non))->aU H H'->Q (.ref q) H'):wP K [.ref p] H Q:=by
 unfold wP;exact ⟨p,ys,cs,rfl,h,r,hc,hz,q⟩
theorem BH{X:Cx}{pins:Ad}{σ:St}{H:Hp}{s:Shared}(I:cI X pins σ H s):∀{cs:Ac}{ys:Al}{us:Ag},aQ H (cs.map λc=>PyData.tuple (c.map .int)) ys->(∀c∈cs,c≠[])->dF ys us->jY s.heap us cs
 | [],ys,us,r,hc,v=>by
  unfold aQ at r;cases (show ys=[] from r);cases v;exact .nil
 | c::cs,ys,us,r,hc,v=>by
  rw [bI] at r;unfold aQ at r;obtain ⟨y,ys',rfl,r1,r2⟩:=r;obtain ⟨u,us',rfl,rv,v'⟩:=sS v;refine .cons ?_ (BH I r2 (λc h=>hc c (aT _ h)) v');unfold cE at r1;obtain ⟨a,xs,rfl,h1,h2⟩:=r1;cases rv;obtain ⟨its,rr,pl,hzz⟩:=I.tuple (iJ.of h1);have hx:xs=c.map V.int:=by
   clear rr h1 hc hzz
   induction c generalizing xs with
   | nil=>unfold aQ at h2;exact h2
   | cons z c ih =>
    rw [bI] at h2;unfold aQ at h2;obtain ⟨x,xs',rfl,h3,h4⟩:=h2;cases (show x=V.int z from h3);rw [ih _ h4];rfl
  subst hx;exact ⟨a,its,rfl,pl,rr,hc c (aS ..)⟩
theorem wL{ys:Al}{us:Ag}(v:dF ys us):∀ix:Ae,(∀i∈ix,i<ys.length)->dF (ix.map λi=>ys.getD i .non) (ix.map λi=>us.getD i Value.none)
 | [],_=>.nil
 | i::ix,h=>by
  have hi:=h i (aS ..);obtain ⟨u,hu,ru⟩:=v.get (i:=i) (x:=ys[i]) (by simp [hi]);refine .cons ?_ (wL v ix λj hj=>h j (aT _ hj));have e1:ys.getD i .non=ys[i]:=by simp [hi]
  have e2:us.getD i Value.none=u:=by rw [bH,hu];rfl
  show dN (ys.getD i .non) (us.getD i Value.none);rw [e1,e2];exact ru
def ST{X:Cx}(K:Aa)(hK:X.K=K:=by rfl):iA X (.builtin "sorted") (wP K):=by
 subst hK;unfold wP;intro pins s σ H xs us Q I r h;obtain ⟨p,ys,cs,rfl,hq,rep,hc,hz,q⟩:=h;obtain ⟨u,rfl,rx⟩:=kD r;cases rx;obtain ⟨its,r',pl,hz'⟩:=I.list hq;have hlen:=r'.length;obtain ⟨o,n,ho,hcl,hdd,hd⟩:=pl;refine ES ⟨o,ho,hcl,n,hd⟩ (BH I rep hc r') Oo λpm h' D c hg ho keep hD hget=>?_;have hperm:pm.toList.Perm (List.range ys.length):=by
  have:=(Array.perm_iff_toList_perm.mp hg);rw [hlen];simpa using this
 have hlt:∀i∈pm.toList,i<ys.length:=λi hi=>by
  have:=hperm.mem_iff.mp hi;simpa using this
 have hl2:(pm.toList.map λi=>ys.getD i .non).length=ys.length:=by rw [aA,hperm.length_eq,bA]
 refine ⟨.ref D,upd H D (.lst (pm.toList.map λi=>ys.getD i .non)),I.laid (t':=s.toks) keep hD ⟨by rw [hl2];exact hz',_,c,wL r' _ hlt,hget⟩,rfl,?_⟩;have hn:=I.hok.fresh hD;refine q D pm.toList _ hperm (λhnd=>?_) hn bO (aU.upd hn);have lcs:cs.length=its.length:=by rw [<-hlen,rep.len,aA]
 have ha:=ho (lcs ▸ HX hnd);have hsz:=hg.size;rw [List.pairwise_map,List.pairwise_iff_getElem];intro i j hi hj hij;have hi':i<pm.size:=by simpa using hi
 have hj':j<pm.size:=by simpa using hj
 have e1:pm.toList[i]=pm.getD i 0:=by rw [Array.getElem_toList];exact (by simp [Array.getD,hi']:pm.getD i 0=pm[i]).symm
 have e2:pm.toList[j]=pm.getD j 0:=by rw [Array.getElem_toList];exact (by simp [Array.getD,hj']:pm.getD j 0=pm[j]).symm
 rw [e1,e2];exact ha i j hij (by rw [<-hsz];simpa using hj)
abbrev cD(c:Af):PyData:=.tuple (c.map .int)
def aEt(x y:Int):PyData.eqv (.int x) (.int y)=decide (x=y):=by
 show (x == y)=_;rw [Bool.beq_eq_decide_eq]
theorem SB:∀a b:Af,PyData.eqvAll (a.map PyData.int) (b.map PyData.int)=decide (a=b)
 | [],[]=>by simp [PyData.eqvAll]
 | [],_::_=>by simp [PyData.eqvAll]
 | _::_,[]=>by simp [PyData.eqvAll]
 | x::a,y::b=>by
  have ih:=SB a b;rw [bI,bI];show (PyData.eqv (.int x) (.int y)&&PyData.eqvAll _ _)=_;rw [ih,aEt];by_cases h:x=y <;> by_cases h':a=b <;> simp [h,h']
def XN(a b:Af):PyData.eqv (cD a) (cD b)=decide (a=b):=SB a b
theorem xY:∀a:Af,PyData.canLayAll0 (a.map PyData.int)=true
 | []=>rfl
 | x::a=>by
  show (PyData.canLay0 (.int x)&&PyData.canLayAll0 (a.map PyData.int))=true;rw [xY a];rfl
theorem KP:∀a:Af,PyData.depthAll (a.map PyData.int)<=1
 | []=>by show 0<=1;exact Oo
 | x::a=>by
  have:=KP a;show max (PyData.depth (.int x)) (PyData.depthAll (a.map PyData.int))<=1;have:PyData.depth (.int x)<=1:=by simp [PyData.depth]
  omega
def IN{H:Hp}{c:Af}{v:V}(h:cE H (cD c) v):∃a,v=.ref a/\H a=some (.tup (c.map V.int)):=by
 unfold cE at h;obtain ⟨a,xs,rfl,h1,h2⟩:=h;have hx:xs=c.map V.int:=by
  clear h1
  induction c generalizing xs with
  | nil=>unfold aQ at h2;exact h2
  | cons z c ih =>
   rw [bI] at h2;unfold aQ at h2;obtain ⟨x,xs',rfl,h3,h4⟩:=h2;cases (show x=V.int z from h3);rw [ih _ h4];rfl
 subst hx;exact ⟨a,rfl,h1⟩
def FK{a b:Af}(h:a.map V.int=b.map V.int):a=b:=by
 induction a generalizing b with
 | nil=>cases b with
  | nil=>rfl
  | cons _ _=>cases h
 | cons x a ih=>cases b with
  | nil=>cases h
  | cons y b =>
   rw [bI,bI] at h;injection h with h1 h2;injection h1 with h1;rw [h1,ih h2]
open Classical in
noncomputable def UE (H:Hp) (c:Af) (u:Value):Bool:=decide (∃b,u=.ref b/\H b=some (.tup (c.map V.int)))
section
variable{X:Cx}{pins:Ad}{σ:St}{H:Hp}{s:Shared}
def SE{c c':Af}{y:V}{u:Value}(h:cE H (cD c') y)(r:dN y u):UE H c u=decide (c'=c):=by
 obtain ⟨a,rfl,ha⟩:=IN h;cases r;unfold UE;rw [Bool.eq_iff_iff];simp only [decide_eq_true_eq];constructor
 ·rintro ⟨b,e2,hb⟩;cases e2;rw [ha] at hb;injection hb with hb;injection hb with hb;exact FK hb
 ·rintro rfl;exact ⟨a,rfl,ha⟩
theorem CW{c:Af}:∀{cs:Ac}{ys:Al}{us:Ag},aQ H (cs.map cD) ys->dF ys us->us.any (UE H c)=decide (c∈cs)
 | [],ys,us,r,v=>by
  unfold aQ at r;cases (show ys=[] from r);cases v
  rfl
 | c' :: cs,ys,us,r,v=>by
  rw [bI] at r;unfold aQ at r;obtain ⟨y,ys',rfl,r1,r2⟩:=r;obtain ⟨u,us',rfl,rv,v'⟩:=sS v;rw [List.any_cons,SE r1 rv,CW r2 v'];by_cases h:c'=c
  ·subst h;simp
  ·have h':¬c=c':=λe=>h e.symm;simp [h,h']
theorem CV(I:cI X pins σ H s)(hu:X.A.units+64<cLine){c:Af}{v:Value}{as:List Addr}(rc:Reads s.heap v (cD c) as):∀{cs:Ac}{ys:Al}{us:Ag},aQ H (cs.map cD) ys->dF ys us ->
  ∀u∈us,SeqAt.EqAt X.A.in1 s u v (UE H c u)
 | [],ys,us,r,vv=>by
  unfold aQ at r;cases (show ys=[] from r);cases vv;exact λu hu=>by cases hu
 | c' :: cs,ys,us,r,vv=>by
  rw [bI] at r;unfold aQ at r;obtain ⟨y,ys',rfl,r1,r2⟩:=r;obtain ⟨u,us',rfl,rv,v'⟩:=sS vv;intro u' hu';rcases aZ.mp hu' with rfl | hu'
  ·obtain ⟨bs,rb⟩:=r1.reads I rv;rw [SE r1 rv,<-XN];refine SeqAt.eqAt_reads (cD c') (cD c) _ s _ _ bs as rb rc (xY c') (xY c) ?_;have h1:(cD c').depth<=2:=by
    have:=KP c';simp only [PyData.depth];exact Oo
   have:X.A.in1.units<=X.A.units+1:=by
    first
     | exact aI _
     | (unfold Around.in1;simp)
   omega
  ·exact CV I hu rc r2 v' u' hu'
end
@[irreducible] def VS(K:Aa)(neg:Bool):R2:=λx y H Q=>∃(p:Addr) (ys:Al) (cs:Ac) (c:Af),y=.ref p/\(fI K H p ys\/iJ K H p ys)/\aQ H (cs.map cD) ys/\jZ K H (cD c) x/\Q (.bl (if neg then !decide (c∈cs) else decide (c∈cs))) H
def riT{K:Aa}{neg:Bool}{x:V}{p:Addr}{ys:Al}{cs:Ac}{c:Af}{H:Hp}{Q:VK}(h:fI K H p ys\/iJ K H p ys)(r:aQ H (cs.map cD) ys)(rx:jZ K H (cD c) x)(q:Q (.bl (if neg then !decide (c∈cs) else decide (c∈cs))) H):VS K neg x (.ref p) H Q:=by
 unfold VS;exact ⟨p,ys,cs,c,rfl,h,r,rx,q⟩
section
variable{X:Cx}
def MU(K:Aa)(hu:X.A.units+64<cLine)(hK:X.K=K:=by rfl):uG X (compareOp .NotIn) (VS K true):=by
 subst hK;unfold VS;intro pins s σ H x y v u Q I rx ry h;obtain ⟨p,ys,cs,c,rfl,hq,r,rc,q⟩:=h;cases ry;obtain ⟨as,ra⟩:=rc.reads I rx;rcases hq with hq | hq
 ·obtain ⟨its,r',pl,hz⟩:=I.list hq;refine SeqAt.notIn_listAt (UE H c) pl.isList (λw hw=>CV I hu ra r r' w (by simpa using hw)) ⟨.bl _,H,I,rfl,?_⟩;rw [show its.toArray.any (UE H c)=its.any (UE H c) by simp,CW r r'];exact q
 ·obtain ⟨its,r',pl,hz⟩:=I.tuple hq;refine SeqAt.notIn_tupleAt (UE H c) pl (λw hw=>CV I hu ra r r' w (by simpa using hw)) ⟨.bl _,H,I,rfl,?_⟩;rw [show its.toArray.any (UE H c)=its.any (UE H c) by simp,CW r r'];exact q
end
end L2
namespace HT
open PySem PySem.Spec PyProof.Rows PySem.Builtin
section
variable{prog:Program}{w:World}{A:Around}{E:Value->Shared->Prop}{s:Shared}
end
section
variable{prog:Program}{w:World}{A:Around}{E:Value->Shared->Prop}{s:Shared}{K:Type}[DecidableEq K]{knd:HeapKind prog w K}
end
end HT
namespace L2
open PySem PySem.Spec PySem.W PyProof.Rows HT
section
variable{X:Cx}{pins:Ad}{σ:St}{H:Hp}
end
end L2
namespace HT
open PySem PySem.Spec PyProof.Rows
section
variable{prog:Program}{w:World}{A:Around}{E:Value->Shared->Prop}{s:Shared}{it d:Addr}{es:Array DictEntry}{ep i:Nat}{od:Obj}
def XE{Q:Option Value->Shared->Prop}(hit:s.heap.IsKeyIter it d i es.size ep)(hod:s.heap.get? d=some od)(hdd:od.data=.dict es ep)(hi:i<es.size)
  (h:∀h',h'.IsKeyIter it d (i+1) es.size ep->Heap.SameBut it s.heap h'->Q (some es[i].key) { s with heap:=h' }):wpAny (model prog w) A (pyNext (.ref it)) Q E s:=by
 obtain ⟨⟨c0,dd0,data0,sl0⟩,ho,hc,hd⟩:=id hit;simp only at hc hd;subst hc hd;have hT:=hit.typeIs;unfold pyNext;refine wpAny_bind (wpAny_attempt (wpAny_callSpecial?_slot (name:=Str.ofString "__next__") hT F.slot_dict_keyiterator_next (wpAny_call_entry F.slot_dict_keyiterator_next hT F.entry_dict_keyiterator_next ?_ (F.args_dict_keyiterator_next_1 _))));have hn:(Value.ref d == Value.none)=false:=rfl;have hown:Builtin.Dict_items.ownsTuple "dict_keyiterator" = false:=Dd
 repeat (any_goals (first | assumption | (with_reducible refine wpAny_typeNameOfWhole_keyiter hT ?_) | (with_reducible refine wpAny_isOneOf_keyiter hT ?_) | (with_reducible refine wpAny_fieldsOf ho rfl ?_) | (with_reducible refine wpAny_dictEntries hod hdd ?_) | (with_reducible refine wpAny_dictEpoch hod hdd ?_) | wp_step))
 rw [if_neg (show ¬((i:Int)<0) by omega),Int.toNat_natCast,Array.getElem?_eq_getElem hi];have hit':(s.heap.update it (Obj.mapFields (·.setIfInBounds 1 (rawInt ((i:Int)+1))))).IsKeyIter it d (i+1) es.size ep :=
  ⟨_,Heap.get?_update_self _ ho (Obj.isFreed_of_fields (Obj.data_mapFields rfl _)),(Obj.cls_mapFields ..).trans rfl,by rw [Obj.data_mapFields rfl];simp [rawInt]⟩
 have hT':({ s with heap:=s.heap.update it (Obj.mapFields (·.setIfInBounds 1 (rawInt ((i:Int)+1)))) }:Shared).TypeIs (.ref it) "dict_keyiterator" := hit'.typeIs;have hfin:=h _ hit' (Heap.SameBut.update ..)
 repeat (any_goals (first | assumption | (with_reducible refine wpAny_typeNameOfWhole_keyiter hT ?_) | (with_reducible refine wpAny_isOneOf_keyiter hT ?_) | (with_reducible refine wpAny_isOneOf_keyiter hT' ?_) | (with_reducible refine wpAny_setField ho rfl (by rw [hown];simp) ?_) | wp_step))
 exact ⟨_,rfl,wpAny_pure hfin⟩
def aBp{Q:Option Value->Shared->Prop}(hh:A.handled=none)(hit:s.heap.IsKeyIter it d i es.size ep)(hod:s.heap.get? d=some od)(hdd:od.data=.dict es ep)(hi:es.size<=i)
  (h:∀h',Heap.ExtBut it s.heap h'->Q none { s with heap:=h' }):wpAny (model prog w) A (pyNext (.ref it)) Q E s:=by
 obtain ⟨⟨c0,dd0,data0,sl0⟩,ho,hc,hd⟩:=id hit;simp only at hc hd;subst hc hd;have hT:=hit.typeIs;have hn:(Value.ref d == Value.none)=false:=rfl;have hown:Builtin.Dict_items.ownsTuple "dict_keyiterator" = false:=Dd;unfold pyNext;refine wpAny_bind (wpAny_attempt (wpAny_callSpecial?_slot (name:=Str.ofString "__next__") hT F.slot_dict_keyiterator_next (wpAny_call_entry F.slot_dict_keyiterator_next hT F.entry_dict_keyiterator_next ?_ (F.args_dict_keyiterator_next_1 _))))
 repeat (any_goals (first | assumption | (with_reducible refine wpAny_typeNameOfWhole_keyiter hT ?_) | (with_reducible refine wpAny_isOneOf_keyiter hT ?_) | (with_reducible refine wpAny_fieldsOf ho rfl ?_) | (with_reducible refine wpAny_dictEntries hod hdd ?_) | (with_reducible refine wpAny_dictEpoch hod hdd ?_) | wp_step))
 rw [if_neg (show ¬((i:Int)<0) by omega),Int.toNat_natCast,Array.getElem?_eq_none hi]
 repeat (any_goals (first | assumption | (with_reducible refine wpAny_typeNameOfWhole_keyiter hT ?_) | (with_reducible refine wpAny_setField ho rfl (by rw [hown];simp) ?_) | wp_step))
 simp only [raiseNew];refine wpAny_bind (wpAny_handled ?_);rw [show A.in1.handled=none from hh];refine wpAny_bind (wpAny_pure (wpAny_throw ?_));refine wpAny_bind (wpAny_isInstance (T := "StopIteration") (b:=true) ⟨_,bB _ rfl,rfl⟩ isSubtype_stop ?_);exact wpAny_pure (h _ (((Heap.SameBut.update ..).extBut.push _).push _))
def XG{Q:Value->Shared->Prop}(hd:(d == sysModules)=false)(hod:s.heap.get? d=some od)(hex:od.ExactDict)(hdd:od.data=.dict es ep)
  (hQ:Q (.ref s.heap.objs.size) { s with heap:=s.heap.push { cls:=.type "dict_keyiterator",data:=.fields #[.ref d,.int 0 0,.int es.size 0,.int ep 0] } }):wpAny (model prog w) A (pyIter (.ref d)) Q E s:=by
 have hT:s.TypeIs (.ref d) "dict" := ⟨od,hod,hex.1⟩;refine wpAny_pyIter_slot hT F.slot_dict_iter (wpAny_call_entry F.slot_dict_iter hT F.entry_dict_iter ?_ (F.args_dict_iter_1 _));unfold Builtin.«dict.__iter__»;refine wpAny_bind ?_;unfold Builtin.Dict.dictSlotNone;refine wpAny_bind (wpAny_notOrdered_dict hT ?_);show wpAny _ _ (pure (Value.ref d)) _ _ s;refine wpAny_pure ?_;have hm:(d == sysModules)=false:=hd
 repeat (any_goals (first | assumption | (with_reducible refine wpAny_dictEntries hod hdd ?_) | (with_reducible refine wpAny_dictEpoch hod hdd ?_) | wp_step))
 exact ⟨_,rfl, "dict_keyiterator",_,⟨_,bB _ rfl,rfl⟩,F.slot_dict_keyiterator_next.lookup,hQ⟩
end
end HT
namespace L2
open PySem PySem.Spec PySem.W PyProof.Rows HT
section
variable{X:Cx}{pins:Ad}{σ:St}{H:Hp}{s:Shared}
theorem xQ{α β:Type}{R:α->β->Prop}:∀{l:List α}{m:List β}{i:Nat}{a:α},Paired R l m->l[i]?=some a->∃b,m[i]?=some b/\R a b
 | _,_,i,a,.nil,h=>by simp at h
 | _,_,0,a,.cons r t,h=>by
  cases (show _=a by simpa using h);exact ⟨_,rfl,r⟩
 | _,_,i+1,a,.cons r t,h=>by
  obtain ⟨b,h1,h2⟩:=xQ t (by simpa using h);exact ⟨b,by simpa using h1,h2⟩
end
section
variable{X:Cx}{tg:Expr}
end
end L2
namespace HT
open PySem PySem.Spec PyProof.Rows PySem.W
section
variable{prog:Program}{w:World}{A:Around}{d:Addr}{o:Obj}{es:Array DictEntry}{ep:Nat}
def LV(hh:A.handled=none)(I:Addr)(hne:d≠I)(hdat:o.data=.dict es ep) :
  Walks prog w A I [I,d] [I] es.size (λi v=>∃hi:i<es.size,v=es[i].key) (λi h=>h.IsKeyIter I d i es.size ep/\h.get? d=some o) where
 sub:=λb hb=>by simp at hb;simp [hb]
 frame:=λ_ _ _ st hk=>⟨st.1.at λo e=>hk I (by simp) o e,hk d (by simp) o st.2⟩
 item:=λi s Q E hi st hQ=>XE st.1 st.2 hdat hi λh' hit' hs' =>
  hQ _ h' s.toks ⟨hi,rfl⟩ ⟨hit',(hs'.2 d hne).trans st.2⟩ λb o hb e=>(hs'.2 b (λh=>hb (by simp [h]))).trans e
 done:=λs Q E st hQ=>aBp hh st.1 st.2 hdat (aI _) λh' he'=>hQ h' s.toks λb o hb e=>he' b o (λh=>hb (by simp [h])) e
 self:=λ_ _ _ _ st hQ=>wpAny_pyIter_keyiter st.1 hQ
def XH(lo:(d == sysModules)=false)(hex:o.ExactDict)(hdat:o.data=.dict es ep):KdlSrc prog w "dict" d d es.size (λi v=>∃hi:i<es.size,v=es[i].key) (λh=>h.get? d=some o) where
 type:=λ_ hm=>⟨o,hm,hex.1⟩
 there:=λ_ hm=>⟨aV hm,aV hm⟩
 keep:=λ_ _ hm hk=>hk d (.inl rfl) o hm
 notList:=Dd
 notTuple:=Dd
 hint:=λ_ _ _ _ hm hq=>kdl_hint_dict ⟨o,hm,hex.1⟩ hq
 iter:=λA s hh hm=>⟨_,_,λE Q hQ=>XG lo hm hex hdat hQ,LV hh _ (cA (aV hm)) hdat,⟨_,bB _ rfl,rfl,rfl⟩,aC _ hm⟩
end
end HT
namespace L2
open PySem PySem.Spec PySem.W PyProof.Rows HT
end L2
namespace HT
open PySem PySem.Spec PyProof.Rows PySem.W
section
variable{prog:Program}{w:World}{A:Around}{E:Value->Shared->Prop}{s:Shared}{it d:Addr}{es:Array DictEntry}{ep i:Nat}{od:Obj}
end
end HT
namespace L2
open PySem PySem.Spec PySem.W PyProof.Rows HT
section
variable{X:Cx}{tg:Expr}
end
section
variable{X:Cx}{o e:Expr}{apos cpos:Pos}{td ty:TE}
end
end L2
namespace L2
open PySem
def XV{X:Cx}(K:Aa)(hK:X.K=K:=by rfl):iA X (.type "tuple") (λxs H Q=>∃p ys,xs=[.ref p]/\((fI K H p ys/\∀l,H l=none->Q (.ref l) (upd H l (.tup ys)))\/(iJ K H p ys/\Q (.ref p) H))):=by
 subst hK;exact fL
section
variable{js:Ae}{te:TE}{tc:TT}{σ:St}{H:Hp}{Q:VK}
end
end L2
namespace L2
open PySem PySem.Spec PyProof.Rows
section
variable{X:Cx}{pins:Ad}{σ:St}{H:Hp}{s:Shared}{scope:Scope}{x x2:Str}{N':Ah}{js:Ae}{fp:List Addr}
end
section
variable{X:Cx}{pins:Ad}{σ:St}{H:Hp}{s:Shared}{scope:Scope}{x:Str}{N':Ah}{js:Ae}{fp:List Addr}{elt iter:Expr}{px pos:Pos}{tg:Expr}{x2:Str}{te:TE}
end
section
variable{X:Cx}{scope:Scope}{x x2 y:Str}{N':Ah}{js:Ae}{elt iter tg:Expr}{py pos spos:Pos}{te:TE}{wi:TI}{i:Nat}
end
end L2
namespace HT
open PySem PySem.Spec PyProof.Rows
section
variable{prog:Program}{w:World}{A:Around}{E:Value->Shared->Prop}{s:Shared}{d:Addr}{o:Obj}{es:Array DictEntry}{ep:Nat}
end
end HT
namespace L2
open PySem PySem.Spec PySem.W PyProof.Rows HT
def CN(c:Af):(c.map (Sum.inl:Int->fE)).map kV=c.map V.int:=by rw [List.map_map];rfl
abbrev kT(c:Af):List fE:=c.map Sum.inl
def nB{a b:Af}(h:kT a=kT b):a=b:=by
 have:∀{a b:Af},kT a=kT b->a=b:=by
  intro a
  induction a with
  | nil=>intro b h;cases b with
   | nil=>rfl
   | cons _ _=>cases h
  | cons x a ih=>intro b h;cases b with
   | nil=>cases h
   | cons y b =>
    injection h with h1 h2;injection h1 with h1;rw [h1,ih h2]
 exact this h
section
variable{X:Cx}{o e f k v:Expr}{apos cpos pos:Pos}{td ty tx tk tv:TE}
@[irreducible] def VZ(p:Addr)(x y:V)(H2:Hp)(Q:VK):Prop:=∃b k,x=.ref b/\H2 b=some (.tup (k.map kV))/\H2 p=some (.dT [])/\Q (.ref p) (upd H2 p (.dT [(k,y)]))
def aAj(tk tv:TE):TE:=λσ H Q=>∀p,H p=none->tk σ (upd H p (.dT [])) λx H1=>tv σ H1 λy H2=>VZ p x y H2 Q
def aDD{p b:Addr}{y:V}{H:Hp}{Q:VK}{c:Af}(hb:H b=some (.tup (c.map V.int)))(hp:H p=some (.dT []))(q:∀H',H' p=some (.dT [(kT c,y)])->aR p H H'->Q (.ref p) H'):VZ p (.ref b) y H Q:=by
 unfold VZ;exact ⟨b,kT c,rfl,by rw [CN];exact hb,hp,q _ bO aR.self⟩
def OP(hu:X.A.units+1<cLine)(hk:iN X k tk)(hv:iN X v tv):iN X (.Dict [some k] [v] pos) (aAj tk tv):=⟨by
 intro pins s σ H Q I q;have hn:=I.hok.fresh (aI s.heap.objs.size);have I1:=I.laid (a:=s.heap.objs.size) (o:=.dT []) (h':=s.heap.push { cls:=.type "dict",data:=.dict #[] }) (t':=s.toks) (λ_ _ q=>aC _ q) (aI _) (FW s.heap I.big);refine wpAny_Dict_any rfl rfl (by simp) (show 1<=15 by decide) (pairTrees_cons_walk (thn (hk.p pins _ σ _ _ I1 (q _ hn)) λu s1 ⟨x,H1,I1,rx,q1⟩=>thn (hv.p pins s1 σ H1 _ I1 q1) λw2 s2 ⟨y,H2,I2,ry,q2⟩=>pairTrees_nil_walk ?_));unfold VZ at q2;obtain ⟨b,kk,rfl,eb,e,q3⟩:=q2;cases (show u=Value.ref b from rx);obtain ⟨z,hd,xs,rel,dd⟩:=ZR I2.hok e;unfold storeAll;rw [List.forIn_cons];refine wpAny_bind (wpAny_bind (wpAny_dictSet_heap (show X.A.units<cLine by omega) (vF I2.hok eb) dd (λh' dd' hs=>wpAny_pure ?_) (by rw [<-Paired.length rel];exact z)));dsimp only;rw [List.forIn_nil];refine wpAny_pure ?_;obtain ⟨q,es,ep,hq,h2,h3,h4,_,h5⟩:=dd';refine ⟨.ref _,_,?_,rfl,q3⟩;have hl:([(kk,y)]:List (List fE × V)).length<=sizeLine:=by show 1<=sizeLine;decide
 refine wW I2 (by rw [e];exact True.intro) hs ⟨q,hq⟩ ⟨hl,hd,_,(rel.put kk eb ry).keeps λc ys ec=>?_,q,es,ep,hq,h2,h3,h4,h5⟩;rw [dC (pN ec e (λz=>nomatch z))];exact ec⟩
def UN(hu:X.A.units+1<cLine)(ho:iN X o td)(he:iN X e ty)(hf:iN X f tx)(base:attributeBase o "get" X.env (eval o X.env)=eval o X.env:=by rfl)
  (few:((backTo cpos (starEach [e,f] X.env)).all (λx=>!x.1)&&(backToKw cpos (keywordEach [] X.env)).all (λx=>x.1.isSome)&&decide (([e,f]:List Expr).length+([]:List Keyword).length+(if ([]:List Keyword).isEmpty then 0 else 1)<30))=true:=by rfl)
  (line:(apos.endLine == cpos.line)=true:=by rfl) (trees:backTo cpos (starEach [e,f] X.env)=[(false,eval e X.env),(false,eval f X.env)]:=by rfl):iN X (.Call (.Attribute o "get" apos) [e,f] [] cpos) (OZ td ty tx):=⟨RC hu ho.p he.p hf.p ⟨base,few,line,trees⟩⟩
@[irreducible] def VT(b:Bool):R2:=λx y H Q=>∃a o,y=.ref a/\oS H a x o/\Q (.bl (xor b o.isSome)) H
def rind{b:Bool}{x:V}{a:Addr}{o:Am}{H:Hp}{Q:VK}(g:oS H a x o)(q:Q (.bl (xor b o.isSome)) H):VT b x (.ref a) H Q:=by unfold VT;exact ⟨a,o,rfl,g,q⟩
def RF(hu:X.A.units+1<cLine):uG X (compareOp .In) (VT false):=by
 intro pins s σ H x y v u Q I rx ry h;unfold VT at h;obtain ⟨a,o,rfl,g,q⟩:=h;cases (show u=Value.ref a from ry);exact aEv hu I g rx λs3 I3=>⟨.bl _,H,I3,rfl,by simpa using q⟩
end
def SG{H:Hp}{p b:Addr}{kvs:List (List fE × V)}{c:Af}{v:V}{D:uI}{σ:St}(e:H p=some (.dT kvs))(eb:H b=some (.tup (c.map V.int)))(hl:kvs.length<=100000)(q:∀H',H' p=some (.dT (iX kvs (kT c) v))->aR p H H'->D.nx σ H') :
  rDP D σ (.ref p) (.ref b) v H:=by
 unfold rDP;exact ⟨p,_,rfl,DS.t (k:=kT c) e (by rw [CN];exact eb) (bC hl Dd),q _ bO aR.self⟩
def oS.ct{H:Hp}{p b:Addr}{kvs:List (List fE × V)}{c:Af}(e:H p=some (.dT kvs))(eb:H b=some (.tup (c.map V.int))):oS H p (.ref b) (fQ kvs (kT c)):=oS.t e (by rw [CN];exact eb)
def NH{H:Hp}{p b:Addr}{kvs:List (List fE × V)}{c:Af}{v:V}{Q:VK}(e:H p=some (.dT kvs))(eb:H b=some (.tup (c.map V.int)))(hv:fQ kvs (kT c)=some v)(q:Q v H):rDG (.ref p) (.ref b) H Q:=by
 unfold rDG;exact ⟨p,v,rfl,hv ▸ oS.ct e eb,q⟩
@[irreducible] def CC(K:Aa):Al->Hp->VK->Prop:=λxs H Q=>∃x d,xs=[x]/\jZ K H d x/\d.showable=true/\d.hasDict=false/\d.depth<=60/\d.shown.length<=sizeLine/\Q (.str d.shown) H
def rrK{K:Aa}{H:Hp}{Q:VK}{x:V}{d:PyData}(r:jZ K H d x)(h1:d.showable=true)(h2:d.hasDict=false)(h3:d.depth<=60)(h4:d.shown.length<=sizeLine)(q:Q (.str d.shown) H):CC K [x] H Q:=by unfold CC;exact ⟨x,d,rfl,r,h1,h2,h3,h4,q⟩
def SU{X:Cx}(K:Aa)(hg:X.A.guards=some [])(hu:X.A.units+64<cLine)(hK:X.K=K:=by rfl):iA X (.builtin "repr") (CC K):=by
 subst hK;unfold CC;intro pins s σ H xs us Q I r h;obtain ⟨x,d,rfl,hr,hs,hnd,hdp,hz,q⟩:=h;obtain ⟨u,rfl,ru⟩:=kD r;obtain ⟨as,rd⟩:=hr.reads I ru;cases rd with
 | none=>exact PySem.P.repr_of_none ⟨.str _,H,I.tok _,⟨_,rfl⟩,q⟩
 | bool b=>exact PySem.P.repr_of_bool ⟨.str _,H,I.tok _,⟨_,rfl⟩,q⟩
 | int i t=>exact PySem.P.repr_of_int (by simpa [PyData.showable] using hs) ⟨.str _,H,I.tok _,⟨_,rfl⟩,q⟩
 | str y t=>exact PySem.P.repr_of_str ⟨.str _,H,I.tok _,⟨_,rfl⟩,q⟩ hz
 | list a1 a2 a3 a4=>exact repr_of_reads' (.list a1 a2 a3 a4) hs (PyData.noDict_hsm hnd) hg Oo (λ_ _ e=>e) (λh' u tk hk=>⟨.str _,H,I.kept hk,⟨_,rfl⟩,q⟩) hz
 | tuple a1 a2 a3 a4=>exact repr_of_reads' (.tuple a1 a2 a3 a4) hs (PyData.noDict_hsm hnd) hg Oo (λ_ _ e=>e) (λh' u tk hk=>⟨.str _,H,I.kept hk,⟨_,rfl⟩,q⟩) hz
 | dict a1 a2 a3 a4 a5=>simp [PyData.hasDict] at hnd
def rW{kvs:List (List fE × V)}{k:List fE}{v:V}(h:(fQ kvs k).isSome=true):(iX kvs k v).map (·.1)=kvs.map (·.1):=by
 unfold iX;rw [lC,if_pos h,List.map_map];refine eI λp _=>?_;show (if p.1=k then (p.1,v) else p).1=p.1;split <;> rfl
@[irreducible] def VR:Al->Hp->VK->Prop:=λxs H Q=>∃a ys,xs=[.ref a,.ty "tuple"]/\H a=some (.tup ys)/\Q (.bl true) H
def rist{H:Hp}{Q:VK}{a:Addr}{ys:Al}(h:H a=some (.tup ys))(q:Q (.bl true) H):VR [.ref a,.ty "tuple"] H Q:=by unfold VR;exact ⟨a,ys,rfl,h,q⟩
def SV{X:Cx}:iA X (.builtin "isinstance") VR:=by
 unfold VR;intro pins s σ H xs us Q I r h;obtain ⟨a,ys,rfl,ha,q⟩:=h;obtain ⟨u,w',rfl,r1,r2⟩:=aCd r;cases (show w'=Value.type "tuple" from r2);exact NC I r1 (show vN X.K H (.ref a) (.type "tuple") from .tup ha) (aCU _ (.tuple []) "tuple" Dd) λtk=>⟨.bl _,H,I.tok _,rfl,q⟩
end L2
namespace L2
open PySem
section
variable{js:Ae}{te:TE}{tc:TT}{σ:St}{H:Hp}{Q:VK}
def XT{J:It}{α:Type}{as:List α}(p:α->Bool)(Src:α->V->Prop)(R:α->V->Hp->Prop)(hR:∀c y H1 H2,dA H1 H2->R c y H1->R c y H2)(hz:as.length<=100000)
  (hg:∀i H',aU H H'->i<as.length->J.go i H'/\∀x H3,J.yld i H' x H3->H3=H'/\∃c,as[i]?=some c/\Src c x) (hst:∀H',aU H H'->J.stop as.length H')
  (ht:∀x c H' (Q':Bool->Hp->Prop),c∈as->Src c x->aU H H'->(∀H5,aU H' H5->Q' (p c) H5)->tc (some x::slots σ js) H' Q')
  (he:∀x c H' (Q':VK),c∈as->p c=true->Src c x->aU H H'->(∀y H6,aU H' H6->R c y H6->Q' y H6)->te (some x::slots σ js) H' Q')
  (hd:∀D ys H',H D=none->H' D=some (.lst ys)->aU H H'->Paired (λc y=>R c y H') (as.filter p) ys->Q (.ref D) H'):lM J σ js tc te H Q:=by
 have mono:∀{H1 H2:Hp} {l:List α} {ys:Al},dA H1 H2->Paired (λc y=>R c y H1) l ys->Paired (λc y=>R c y H2) l ys:=by
  intro H1 H2 l ys s h
  induction h with
  | nil=>exact .nil
  | cons h t ih=>exact .cons (hR _ _ _ _ s h) ih
 have snoc:∀{H1:Hp} {l:List α} {ys:Al} {c:α} {y:V},Paired (λc y=>R c y H1) l ys->R c y H1->Paired (λc y=>R c y H1) (l++[c]) (ys++[y]):=by
  intro H1 l ys c y h r
  induction h with
  | nil=>exact .cons r .nil
  | cons h t ih=>exact .cons h ih
 unfold lM;intro D hD;refine ⟨λi m ys H'=>m=as.length-i/\i<=as.length/\H' D=some (.lst ys)/\aU H H'/\Paired (λc y=>R c y H') ((as.take i).filter p) ys/\ys.length<=i,⟨as.length,by simp,cG _,bO,aU.upd hD,.nil,aI _⟩,?_⟩;rintro i m ys H2 ⟨rfl,hi,hD2,s2,ry,hy⟩;refine ⟨hD2,?_⟩;by_cases hlt:i<as.length
 ·obtain ⟨hgo,hyl⟩:=hg i H2 s2 hlt;refine .inr ⟨hgo,bC (m:=100000) Oo Dd,λx H3 hy3=>?_⟩;obtain ⟨rfl,c,hc,rc⟩:=hyl x H3 hy3;have hcm:=aG hc;have hti:as.take (i+1)=as.take i++[c]:=by rw [fT,hc];rfl
  refine ⟨λb H4=>b=p c/\aU H3 H4,ht x c H3 _ hcm rc s2 λH5 s5=>⟨rfl,s5⟩,?_⟩;rintro b H4 ⟨rfl,s4⟩;by_cases hp:p c=true
  ·rw [if_pos hp];refine ⟨λy H5=>aU H4 H5/\R c y H5,he x c H4 _ hcm hp rc (s2.trans s4) λy H6 s6 r=>⟨s6,r⟩,?_⟩;rintro y H5 ⟨s5,r⟩;have hD5:=s5 _ _ (s4 _ _ hD2);have t6:dA H5 (upd H5 D (.lst (ys++[y]))):=aR.t aR.self hD5;refine ⟨hD5,_,?_,rfl,hlt,bO,aU.thru hD ((s2.trans s4).trans s5) aR.self,?_,?_⟩
   ·omega
   ·rw [hti,List.filter_append];have:List.filter p [c]=[c]:=by simp [hp]
    rw [this];exact snoc (mono ((s4.trans s5).t.trans t6) ry) (hR _ _ _ _ t6 r)
   ·rw [bE,List.length_singleton];exact Oo
  ·rw [if_neg hp];refine ⟨s4 _ _ hD2,_,?_,rfl,hlt,s4 _ _ hD2,s2.trans s4,?_,?_⟩
   ·omega
   ·rw [hti,List.filter_append];have:List.filter p [c]=[]:=by simp [hp]
    rw [this,List.append_nil];exact mono s4.t ry
   ·omega
 ·have e:i=as.length:=Oo;subst e;refine .inl ⟨hst H2 s2,hd D ys H2 hD hD2 s2 ?_⟩;rw [cP] at ry;exact ry
def SR{lo:Int}{n:Nat}(p:Nat->Bool)(R:Nat->V->Hp->Prop)(hR:∀c y H1 H2,dA H1 H2->R c y H1->R c y H2)(hz:n<=100000)
  (ht:∀i H' (Q':Bool->Hp->Prop),i<n->aU H H'->(∀H5,aU H' H5->Q' (p i) H5)->tc (some (.int (lo+(i:Nat)))::slots σ js) H' Q')
  (he:∀i H' (Q':VK),i<n->p i=true->aU H H'->(∀y H6,aU H' H6->R i y H6->Q' y H6)->te (some (.int (lo+(i:Nat)))::slots σ js) H' Q')
  (hd:∀D ys H',H D=none->H' D=some (.lst ys)->aU H H'->Paired (λc y=>R c y H') ((List.range n).filter p) ys->Q (.ref D) H'):lM (YS lo n) σ js tc te H Q:=by
 refine XT (as:=List.range n) p (λi x=>x=.int (lo+(i:Nat))) R hR (by rw [bA];exact hz) (λi H' s hi=>?_) (λH' s=>by rw [bA];exact aI _) (λx c H' Q' hc e s q=>?_) (λx c H' Q' hc hp e s q=>?_) hd
 ·rw [bA] at hi;exact ⟨hi,λx H3 y=>⟨y.1,i,by rw [cN hi],y.2⟩⟩
 ·subst e;exact ht c H' Q' (bU.mp hc) s q
 ·subst e;exact he c H' Q' (bU.mp hc) hp s q
end
end L2
namespace L2
open PySem PySem.Spec PySem.W PyProof.Rows HT
section
variable{prog:Program}{w:World}{A:Around}{E:Value->Shared->Prop}{s:Shared}
def GF{T:String}{r d:Addr}{n:Nat}{P:Nat->Value->Prop}{OK:Heap->Prop}{Q:Ag->Shared->Prop}(K:KdlSrc prog w T r d n P OK)(hh:A.handled=none)(hok:OK s.heap)(hn:n<=sizeLine)
  (hQ:∀h' tk (acc':Ai),(∀b o,s.heap.get? b=some o->h'.get? b=some o)->ItemsOf P acc' n->Q acc'.toList { s with heap:=h',toks:=tk }) :
  wpAny (model prog w) A (collect (.ref r)) Q E s:=by
 have lt:=K.there _ hok;have at0:(s.heap.push (seqObj "list" #[] 0)).get? s.heap.objs.size=some { cls:=.type "list",data:=.seq #[] 0 }:=bB _ rfl
 let G:Result->Shared->Prop:=λa z=>∃g m l e,a=.ok (.ret (.ref s.heap.objs.size))/\z={ s with heap:=g,toks:=m }/\(∀b o,s.heap.get? b=some o->g.get? b=some o)/\g.get? s.heap.objs.size=some { cls:=.type "list",dict:=none,data:=.seq l e,slots:=#[] }/\ItemsOf P l n
 have ext:=kdl_extend (A:=A) (s:={ s with heap:=s.heap.push (seqObj "list" #[] 0) }) (R:=G) K hh (K.keep _ _ hok λb _ o e=>aC _ e) s.heap.objs.size (Nat.ne_of_gt lt.1) (Nat.ne_of_gt lt.2) (.ref s.heap.objs.size) 0 at0
  (λg m l e kp at1 it=>⟨g,m,l,e,rfl,rfl,λb o z=>kp b o (cA (aV z)) (aC _ z),at1,it⟩) hn
 unfold collect;refine wpAny_bind (wpAny_runValue (codeAny_builtin entry_proto_collect' ?_));rw [Around.under_plainId PySem.F.plain_proto_collect _];refine wpAny_bind (m:=newList []) (wpAny_newList (wpAny_pure ⟨plainId_quiet PySem.F.plain_list_iadd _,codeAny_builtin entry_list_iadd' ?_⟩));rw [Around.under_plainId PySem.F.plain_list_iadd _];refine wpAny_mono ext (λfin z y=>?_) λe z ⟨_,_,_,_,q,_⟩=>by cases q
 cases fin with
 | done f=>obtain ⟨g,m,l,e,q,rfl,kp,at1,it⟩:=y;cases q;exact wpAny_bind (wpAny_load at1 (wpAny_pure (hQ g m l kp it)))
 | again c=>exact ⟨y.1,codeAny_mono y.2 λq z ⟨g,m,l,e,eq,ez,kp,at1,it⟩=>by subst eq ez;exact wpAny_bind (wpAny_load at1 (wpAny_pure (hQ g m l kp it)))⟩
def HM{x:Value}{Q:Value->Shared->Prop}
  (h:wpAny (model prog w) A.in1 (collect x) (λvs s1=>∃h1 tk cs,s1={ s with heap:=h1,toks:=tk }/\(∀b o,s.heap.get? b=some o->h1.get? b=some o)/\jY h1 vs cs/\vs.length<64 /\
   ∀(p:Array Nat) (h':Heap) (D:Addr) (c:Nat),fZ vs.length p->(yR vs.length (uJ cs)->uK (uJ cs) p vs.length)->(∀b o,h1.get? b=some o->h'.get? b=some o)->h1.objs.size<=D->h'.get? D=some (seqObj "list" (List.toArray (p.toList.map λi=>vs.getD i Value.none)) c)->Q (.ref D) { s with heap:=h',toks:=tk }) E s) :
  wpAny (model prog w) A (call (.builtin "sorted") [x]) Q E s:=by
 refine Calls.call_function_entry kind_sorted plain_sorted entry_sorted (args_sorted1 _) ?_;unfold Builtin.«sorted»;refine wpAny_bind (m:=checkCount "sorted" 1 1 _) (wpAny_pure ?_);refine wpAny_bind (wpAny_mono h (λvs s1 ⟨h1,tk,cs,e,keep1,ht,h64,q⟩=>?_) λ_ _ e=>e);subst e;refine wpAny_bind (wpAny_newList ?_ (by rw [sizeLine_eq];exact Oo));have hoL:(h1.push (seqObj "list" vs.toArray 0)).get? h1.objs.size=some (seqObj "list" vs.toArray 0):=bB _ rfl;have keep:∀b o,h1.get? b=some o->(h1.push (seqObj "list" vs.toArray 0)).get? b=some o:=λb o q=>aC _ q;show wpAny _ _ _ _ _ { s with heap:=h1.push (seqObj "list" vs.toArray 0),toks:=tk };refine wpAny_bind (wpAny_holding (wpAny_call_entry slot_list_sort ⟨_,hoL,rfl⟩ entry_list_sort ?body (args_list_sort _)));refine zT (s:={ s with heap:=h1.push (seqObj "list" vs.toArray 0),toks:=tk }) hoL (ht.keep λb o hb _=>keep b o hb) h64 λp hp ho=>⟨_,rfl,wpAny_pure ⟨_,rfl,?_⟩⟩;unfold sortedHeap;have o1:((h1.push (seqObj "list" vs.toArray 0)).update h1.objs.size (Obj.mapSeq λ_=>#[])).get? h1.objs.size=some (seqObj "list" #[] _):=get?_update_seq hoL (λ_=>#[]);have o2:=aC (seqObj "list" #[] 0) (aC (seqObj "tuple" vs.toArray 0) o1);refine q p _ h1.objs.size _ hp ho (λb o e=>?_) (aI _) (get?_update_seq o2 λ_=>List.toArray (p.toList.map λi=>vs.getD i Value.none));have hlt:b<h1.objs.size:=aV e;have hne:b≠h1.objs.size:=cA hlt;rw [dB _ _ _ _ hne];exact aC _ (aC _ (by rw [dB _ _ _ _ hne];exact keep b o e))
end
def aC3{X:Cx}{pins:Ad}{σ:St}{H:Hp}{s:Shared}(I:cI X pins σ H s){d:Addr}{kvs:List (List fE × V)}(e:H d=some (.dT kvs)):(d == sysModules)=false/\(kvs.map (·.1)).Nodup/\∃o,s.heap.get? d=some o/\o.ExactDict/\∃es ep,o.data=.dict es ep/\es.size=kvs.length /\
  ∀(i:Nat) (hi:i<es.size) p,kvs[i]?=some p->∃b,es[i].key=.ref b/\H b=some (.tup (p.1.map kV)):=by
 obtain ⟨z,hd,xs,rel,o,es,ep,h1,h2,h3,h4,h5⟩:=(show fH X.prog X.w H s.heap d (.dT kvs) from I.hok d _ e);have hl:es.size=kvs.length:=by
  have:=congrArg List.length h4;rw [aA,<-Paired.length rel] at this;simpa using this
 have hk:kvs.map (·.1)=xs.map (·.1):=by
  clear h4 h5 hl e z
  induction rel with
  | nil=>rfl
  | cons r t ih=>rw [bI,bI,r.1,ih]
 refine ⟨hd,hk ▸ h5,o,h1,h2,es,ep,h3,hl,λi hi p hp=>?_⟩;obtain ⟨x,hx,r1,r2,r3⟩:=xQ rel hp;have he:es.toList[i]?=some (entryOfKey (tupleKind (fX X.prog X.w)) x):=by rw [h4,aL,hx];rfl
 have he2:es[i]=entryOfKey (tupleKind (fX X.prog X.w)) x:=by
  have:es.toList[i]?=some es[i]:=by simp [hi]
  rw [this] at he;injection he
 rw [he2];exact ⟨x.2.1,rfl,r2⟩
abbrev kyI(c:Af):List fE:=c.map Sum.inl
def kyV(c:Af):(kyI c).map kV=c.map V.int:=by rw [List.map_map];rfl
@[irreducible] def CB:Al->Hp->VK->Prop:=λxs H Q=>∃(d:Addr) (kvs:List (List fE × V)) (cs:Ac),xs=[.ref d]/\H d=some (.dT kvs)/\kvs.map (·.1)=cs.map kyI/\(∀c∈cs,c≠[])/\cs.length<64 /\
 ∀q (ys:Al) (ds:Ac) H',ds.Perm cs->ds.Pairwise (λa b=>jX a b=true)->H q=none->H' q=some (.lst ys)->aQ H' (ds.map λc=>PyData.tuple (c.map .int)) ys->aU H H'->Q (.ref q) H'
def rsrd{H:Hp}{Q:VK}{d:Addr}{kvs:List (List fE × V)}{cs:Ac}(h:H d=some (.dT kvs))(hk:kvs.map (·.1)=cs.map kyI)(hc:∀c∈cs,c≠[])(hz:cs.length<64)
  (q:∀q (ys:Al) (ds:Ac) H',ds.Perm cs->ds.Pairwise (λa b=>jX a b=true)->H q=none->H' q=some (.lst ys)->aQ H' (ds.map λc=>PyData.tuple (c.map .int)) ys->aU H H'->Q (.ref q) H'):CB [.ref d] H Q:=by
 unfold CB;exact ⟨d,kvs,cs,rfl,h,hk,hc,hz,q⟩
def LB{X:Cx}(hc:X.calm=true):iA X (.builtin "sorted") CB:=by
 unfold CB;intro pins s σ H xs us Q I r h;obtain ⟨d,kvs,cs,rfl,hq,hk,hne,hz,q⟩:=h;obtain ⟨u,rfl,rx⟩:=kD r;cases rx;obtain ⟨hm,hnd,o,hod,hex,es,ep,hdd,hsz,hat⟩:=aC3 I hq;have lk:kvs.length=cs.length:=by have:=congrArg List.length hk;simpa using this
 refine HM (GF (XH hm hex hdd) (show X.A.in1.handled=none from I.ok.hd hc) hod (by rw [sizeLine_eq];exact Oo) λh1 tk acc kp hacc=>?_);obtain ⟨la,hacc⟩:=hacc;have I1:cI X pins σ H { s with heap:=h1,toks:=tk }:=I.kept kp;have key:∀(n:Nat) (l:Ag),l.length=n->∀(m:Ac),m.length=n->(∀(i:Nat) v c,l[i]?=some v->m[i]?=some c->∃b,v=.ref b/\H b=some (.tup (c.map V.int)))->∃ys:Al,dF ys l/\aQ H (m.map λc=>PyData.tuple (c.map .int)) ys:=by
  intro n
  induction n with
  | zero =>
   intro l hl m hm _;cases l with
   | nil=>cases m with
    | nil=>exact ⟨[],.nil,aQ.nil⟩
    | cons _ _=>simp at hm
   | cons _ _=>simp at hl
  | succ n ih =>
   intro l hl m hm hk;cases l with
   | nil=>simp at hl
   | cons v l=>cases m with
    | nil=>simp at hm
    | cons c m =>
     obtain ⟨b,rfl,hb⟩:=hk 0 v c rfl rfl;obtain ⟨ys,hv,hy⟩:=ih l (by simpa using hl) m (by simpa using hm) λi v p h1 h2=>hk (i+1) v p (by simpa using h1) (by simpa using h2);have rb:∀c:Af,aQ H (c.map PyData.int) (c.map V.int):=λc=>by
      induction c with
      | nil=>exact aQ.nil
      | cons x c ih=>exact aQ.cons (cE.int _) ih
     exact ⟨.ref b::ys,.cons rfl hv,aQ.cons (cE.tup hb (rb c)) hy⟩
 have lacc:acc.toList.length=cs.length:=by rw [Array.length_toList,la,hsz,lk]
 obtain ⟨ys,hv,hy⟩:=key cs.length acc.toList lacc cs rfl λi v c e1 e2=>by
  obtain ⟨hi,e⟩:=hacc i v (by rw [<-Array.getElem?_toList];exact e1);have hp:∃p,kvs[i]?=some p/\p.1=kyI c:=by
   have:(kvs.map (·.1))[i]?=some (kyI c):=by rw [hk,aL,e2];rfl
   rw [aL] at this;obtain ⟨p,h1,h2⟩:=cU.mp this;exact ⟨p,h1,h2⟩
  obtain ⟨p,hp1,hp2⟩:=hp;obtain ⟨b,k1,k2⟩:=hat i hi p hp1;rw [hp2,kyV] at k2;exact ⟨b,by rw [e,k1],k2⟩
 have hnd2:cs.Nodup:=by
  rw [hk] at hnd;exact List.Pairwise.of_map _ (λa b h e=>h (by rw [e])) hnd
 have lys:ys.length=cs.length:=by rw [hy.len,aA]
 refine ⟨h1,tk,cs,rfl,kp,BH I1 hy hne hv,Oo,λpm h' D c hg ho keep hD hget=>?_⟩;have hperm:pm.toList.Perm (List.range cs.length):=by
  have:=(Array.perm_iff_toList_perm.mp hg);rw [<-lacc];simpa using this
 have hlt:∀i∈pm.toList,i<ys.length:=λi hi=>by
  have:=hperm.mem_iff.mp hi;rw [lys];simpa using this
 have hl2:(pm.toList.map λi=>ys.getD i .non).length=cs.length:=by rw [aA,hperm.length_eq,bA]
 have hn:=I1.hok.fresh hD;have sm:aU H (upd H D (.lst (pm.toList.map λi=>ys.getD i .non))):=aU.upd hn;refine ⟨.ref D,upd H D (.lst (pm.toList.map λi=>ys.getD i .non)),I1.laid (t':=tk) keep hD ⟨by rw [hl2,sizeLine_eq];omega,_,c,wL hv _ hlt,hget⟩,rfl,?_⟩;have ha:=ho (lacc ▸ HX hnd2);have hsz2:=hg.size;have hpm:(pm.toList.map λi=>cs.getD i []).Perm cs:=by
  have h1:=hperm.map λi=>cs.getD i [];have e:(List.range cs.length).map (λi=>cs.getD i [])=cs:=by
   apply List.ext_getElem?;intro i;rw [aL];by_cases hi:i<cs.length
   ·rw [cN hi,aB hi,Option.map_some,bH,aB hi];rfl
   ·rw [eK (by simpa using hi),eK Oo];rfl
  rwa [e] at h1
 refine q D _ (pm.toList.map λi=>cs.getD i []) _ hpm ?_ hn bO ?_ sm
 ·rw [List.pairwise_map,List.pairwise_iff_getElem];intro i j hi hj hij;have hi':i<pm.size:=by simpa using hi
  have hj':j<pm.size:=by simpa using hj
  have e1:pm.toList[i]=pm.getD i 0:=by rw [Array.getElem_toList];exact (by simp [Array.getD,hi']:pm.getD i 0=pm[i]).symm
  have e2:pm.toList[j]=pm.getD j 0:=by rw [Array.getElem_toList];exact (by simp [Array.getD,hj']:pm.getD j 0=pm[j]).symm
  rw [e1,e2];exact ha i j hij (by rw [<-hsz2];exact hj')
 ·have rep:∀ix:Ae,(∀i∈ix,i<cs.length)->aQ H ((ix.map λi=>cs.getD i []).map λc=>PyData.tuple (c.map .int)) (ix.map λi=>ys.getD i .non):=λix=>by
   induction ix with
   | nil=>exact λ_=>aQ.nil
   | cons i ix ih =>
    intro h;have hi:=h i (aS ..);have hd:(cs.map λc=>PyData.tuple (c.map .int))[i]?=some (PyData.tuple ((cs.getD i []).map .int)):=by
     rw [aL,bH,aB hi];rfl
    obtain ⟨x,hx,rx⟩:=hy.get' hd;have e2:ys.getD i .non=x:=by rw [bH,hx];rfl
    refine aQ.cons ?_ (ih λj hj=>h j (aT _ hj));show cE H _ (ys.getD i .non);rw [e2];exact rx
  exact (rep pm.toList λi hi=>by rw [<-lys];exact hlt i hi).same sm
end L2
namespace L2
open PySem PySem.Spec PyProof.Rows
section
variable{X:Cx}
end
def GM:bootBuiltins (Str.ofString "sorted")=some (Value.builtin "sorted"):=Kk
section
variable{X:Cx}
def OR:∀{vs:Ag}{ns:Af},IntsAre vs ns->dF (ns.map V.int) vs:=by
 intro vs ns h
 induction h with
 | nil=>exact .nil
 | cons=>rename_i ih;exact .cons ⟨_,rfl⟩ ih
end
end L2
namespace L2
open PySem PySem.Spec PySem.W PyProof.Rows HT
@[irreducible] def JU(K:Aa):Al->Hp->VK->Prop:=λxs H Q=>∃(p:Addr) (ns:Af),xs=[.ref p]/\fI K H p (ns.map V.int)/\0<ns.length/\∀M,M∈ns->(∀a,a∈ns->M<=a)->Q (.int M) H
def rmnl{K:Aa}{H:Hp}{Q:VK}{p:Addr}{ns:Af}(h:fI K H p (ns.map V.int))(hn:0<ns.length)(q:∀M,M∈ns->(∀a,a∈ns->M<=a)->Q (.int M) H):JU K [.ref p] H Q:=by
 unfold JU;exact ⟨p,ns,rfl,h,hn,q⟩
def LC{X:Cx}(K:Aa)(hc:X.calm=true)(hK:X.K=K:=by rfl):iA X (.builtin "min") (JU K):=by
 subst hK;unfold JU;intro pins s σ H xs us Q I r h;obtain ⟨p,ns,rfl,hq,hn,q⟩:=h;obtain ⟨u,rfl,rx⟩:=kD r;cases rx;obtain ⟨its,r',pl,hz⟩:=I.list hq;have hi:=nC r';obtain ⟨zs,e⟩:=hi.allInts.items;have hns:ns=zs.toList.map (·.1):=by rw [<-hi.numsOf,<-nums_intItems,<-e]
 have hsz:0<zs.size:=by rw [hns,aA,Array.length_toList] at hn;exact hn
 rw [e] at pl;refine min_intList (I.ok.hd hc) pl.isList hsz λv h' tk hv hk=>?_;obtain ⟨t,rfl⟩:=intItems_at hv;obtain ⟨h1,h2⟩:=argBest_lt (numAt zs) (zs.size-1);refine ⟨.int _,H,I.kept hk,⟨t,rfl⟩,q _ ?_ λa ha=>?_⟩
 ·rw [hns,numAt_eq];exact getD_mem (by rw [aA,Array.length_toList];exact Oo)
 ·rw [hns] at ha;obtain ⟨j,hj,rfl⟩:=mem_getD ha;rw [aA,Array.length_toList] at hj;rw [<-numAt_eq];exact h2 j Oo
end L2
namespace L2
open PySem PySem.Spec PyProof.Rows
@[irreducible] def rLr(vs:Al)(H:Hp)(Q:VK):Prop:=∃n:Nat,vs=[.int (n:Int)]/\n<=100000/\∀l,H l=none->Q (.ref l) (upd H l (.lst ((List.range n).map λ(i:Nat)=>V.int (i:Int))))
def rlr{n:Nat}{H:Hp}{Q:VK}(hn:n<=100000)(q:∀l H',H l=none->H' l=some (.lst ((List.range n).map λ(i:Nat)=>V.int (i:Int)))->aU H H'->Q (.ref l) H'):rLr [.int (n:Int)] H Q:=by
 unfold rLr;exact ⟨n,rfl,hn,λl hl=>q l _ hl bO (aU.upd hl)⟩
def tLr(ta:TA):TE:=λσ H Q=>ta σ H λvs H1=>rLr vs H1 Q
def IO:bootBuiltins (Str.ofString "list")=some (Value.type "list"):=Kk
def GN:bootBuiltins (Str.ofString "range")=some (Value.type "range"):=Kk
def GW{n:Nat}{acc:Ai}(h:ItemsOf (λi v=>∃t,v=.int (0+(i:Nat)*1) t) acc n):dF ((List.range n).map λ(i:Nat)=>V.int (i:Int)) acc.toList:=by
 obtain ⟨h1,h2⟩:=h;have key:∀(m:Nat) (l:Ag) (k:Nat),l.length=m->(∀i,(hi:i<l.length)->∃t,l[i]=.int ((k+i:Nat):Int) t)->dF ((List.range m).map λ(i:Nat)=>V.int ((k+i:Nat):Int)) l:=by
  intro m
  induction m with
  | zero=>intro l k hl _;cases l with
   | nil=>exact .nil
   | cons=>cases hl
  | succ m ih =>
   intro l k hl hh;cases l with
   | nil=>cases hl
   | cons a l =>
    rw [List.range_succ_eq_map,bI,List.map_map];obtain ⟨t,ht⟩:=hh 0 (by simp);refine .cons ⟨t,ht⟩ ?_;have:=ih l (k+1) (by simpa using hl) λi hi=>by
     obtain ⟨t,ht⟩:=hh (i+1) (by simpa using hi);refine ⟨t,?_⟩;have e:k+(i+1)=k+1+i:=Oo;rw [e] at ht;simpa using ht
    have e:(λ(i:Nat)=>V.int ((k+i:Nat):Int)) ∘ Nat.succ=λ(i:Nat)=>V.int ((k+1+i:Nat):Int):=by
     funext i
     show V.int ((k+(i+1):Nat):Int)=_;rw [show k+(i+1)=k+1+i by omega]
    rw [e];exact this
 have r:=key n acc.toList 0 (by simpa using h1) λi hi=>by
  have hi':i<acc.size:=by simpa using hi
  obtain ⟨t,ht⟩:=h2 i acc[i] (by simp [hi']);exact ⟨t,by rw [Array.getElem_toList,ht,Nat.zero_add,Int.zero_add,Int.mul_one]⟩
 simpa using r
section
variable{X:Cx}{a:Expr}{ta:TA}{p1 np p2 pos:Pos}
def UM(hc:X.calm=true)(hg1:Gl X "list")(hm1:X.mg "list" = none)(hg:Gl X "range")(hm:X.mg "range" = none)(ha:IV X [a] ta)(hs:starEach [a] X.env=[(false,eval a X.env)]:=by first | exact gX | exact gM | exact dL | rfl) :
  iN X (.Call (.Name "list" p1) [.Call (.Name "range" np) [a] [] p2] [] pos) (tLr ta):=⟨by
 intro pins s σ H Q I h;have hst:starEach [.Call (.Name "range" np) [a] [] p2] X.env=[(false,eval (.Call (.Name "range" np) [a] [] p2) X.env)]:=gM;refine Call_ (pD I hg1 hm1 IO (PyProof.Rows.callWith_type1 ?_ (by rw [hst];rfl) rfl));rw [hst];refine Calls.spliced_cons (Call_ (pD I hg hm GN (PyProof.Rows.callWith_type1 (thn (ha.p p2 pins s σ H _ I h) λus s1 ⟨vs,H1,I1,r1,q1⟩=>?_) (by rw [hs];rfl) rfl)));unfold rLr at q1;obtain ⟨n,rfl,hn,q⟩:=q1;obtain ⟨u,rfl,ru⟩:=kD r1;obtain ⟨t,rfl⟩:=ru;refine call_range_1 ?_;have I2:cI X pins σ H1 { s1 with heap:=s1.heap.push { cls:=.type "range",data:=.fields #[.int 0 s1.toks,.int (n:Int) t,.int 1 (s1.toks+1)] },toks:=s1.toks+1+1 }:=I1.kept λb o e=>aC _ e;refine wpAny_pure (call_list_range (n:=n) (I2.ok.hd hc) (IsRange.new ..) (small_one Dd Dd Oo Oo) (by rw [rangeSize_one];split <;> omega) Oo λh' tk acc c' kp e it=>?_);have vr:=GW it;have hz:((List.range n).map λ(i:Nat)=>V.int (i:Int)).length<=sizeLine:=by rw [aA,bA];exact aM hn Dd
 exact ⟨.ref _,_,I2.laid (t':=tk) kp (aI _) (show fH X.prog X.w _ h' _ (.lst _) from ⟨hz,acc.toList,c',vr,e⟩),rfl,q _ (I2.hok.fresh (aI _))⟩⟩
end
structure FnO(P:Program)(w:World)(K:Aa)(mg:Str->Option Value)(base:Heap)(k:Nat)(C:Addr)(ps:Ah)(sp:Sp):Prop where
 ex:∃(f:Addr) (fd:FuncData),eC P w K mg base dR k f fd ps sp/\Mk K C f/\qW K fd ps []
structure Own(K:Aa)(C:Addr)(fs:Ah):Prop where
 cls:YU K C
 no:∀f∈fs,lK K C f
@[irreducible] def VU(K:Aa)(f:Str)(x:V)(H:Hp)(Q:VK):Prop:=∃a C dx fs v,x=.ref a/\H a=some (.ins C dx fs)/\YU K C/\lK K C f/\fs.lookup f=some v/\Q v H
def ZC(K:Aa)(ta:TE)(f:Str):TE:=λσ H Q=>ta σ H λx H1=>VU K f x H1 Q
section
variable{X:Cx}{k:Nat}{C:Addr}{ps:Ah}{sp:Sp}{x f:Str}{p pos pos':Pos}{e o value:Expr}{es:List Expr}{t:TA}{ta tv:TE}
def OO(F:FnO X.prog X.w X.K X.mg X.base k C ps sp)(hm:X.mg x=some (.ref C))(hr:iO (k+1) X.A)(ha:IV X (e::es) t)(hg:Gl X x:=by rfl)
  (hdb:(x == ("__debug__" : Str))=false:=by decide) (he:starEach (e::es) X.env=(false,eval e X.env)::starEach es X.env:=by first | exact gX | exact gM | exact eQ | exact dL)
  (hpl:(backTo pos (starEach es X.env)).any (·.1)=false:=by repeat (first | exact yM | refine uC (by first | exact gX | exact gM | exact eQ | exact dL) ?_)) :
  iN X (.Call (.Name x p) (e::es) [] pos) (ZB C sp [] E0 t):=⟨by
 obtain ⟨f,fd,h1,h2,h3⟩:=F.ex;exact WO h2 h1 hr hg hm h3 .nil ZL ha.p hdb he hpl⟩
def gW(K:Aa)(he:iN X e ta)(hK:X.K=K:=by rfl)(hb:attributeBase e f X.env (eval e X.env)=eval e X.env:=by rfl):iN X (.Attribute e f pos) (ZC K ta f):=⟨by
 subst hK;intro pins s σ H Q I h;refine aBi he.p hb pins s σ H Q I ?_;unfold ZC VU at h;exact h⟩
def sQ(ha:iN X o ta)(hv:iN X value tv)(hs:swapsWith value (some (.Attribute o f pos')) pos.line X.env=pure false:=by rfl):GQ X (.Assign [.Attribute o f pos'] value pos) (aCt X.K ta tv f):=⟨aA7 ha.p hv.p hs⟩
end
section
variable{K:Aa}{H:Hp}{a C dx:Addr}{fs:List (Str × V)}{v:V}{Q:VK}{f:Str}{ns:Ah}
def rP(O:Own K C ns)(hf:f∈ns)(e:H a=some (.ins C dx fs))(l:fs.lookup f=some v)(q:Q v H):VU K f (.ref a) H Q:=by
 unfold VU;exact ⟨a,C,dx,fs,v,rfl,e,O.cls,O.no f hf,l,q⟩
end
end L2
namespace Mf
def lw(n d:Int):Int × Int:=(n/(Int.gcd n d:Int),d/(Int.gcd n d:Int))
structure UF(n d:Int):Prop where
 pos:0<d
 low:Int.gcd n d=1
def jT{n d:Int}(h:0<d):0<(Int.gcd n d:Int):=by
 have:=Int.gcd_pos_of_ne_zero_right n (Int.ne_of_gt h);exact Oo
def jD{n d:Int}(h:0<d):UF (lw n d).1 (lw n d).2:=by
 have g:=jT (n:=n) h;refine ⟨?_,?_⟩
 ·exact Int.ediv_pos_of_pos_of_dvd h (Int.le_of_lt g) (Int.gcd_dvd_right n d)
 ·exact Int.gcd_ediv_gcd_ediv_gcd Oo
def ZN{n d:Int}:(lw n d).1*(Int.gcd n d:Int)=n/\(lw n d).2*(Int.gcd n d:Int)=d :=
 ⟨Int.ediv_mul_cancel (Int.gcd_dvd_left n d),Int.ediv_mul_cancel (Int.gcd_dvd_right n d)⟩
def qL{n d:Int}:(lw n d).1*d=n*(lw n d).2:=by
 obtain ⟨e1,e2⟩:=ZN (n:=n) (d:=d);generalize (lw n d).1=a at *;generalize (lw n d).2=b at *;generalize (Int.gcd n d:Int)=g at *;rw [<-e1,<-e2];rw [Int.mul_assoc,Int.mul_comm g b]
def KO{b a d:Int}(h:b ∣ a*d)(g:Int.gcd b a=1):b ∣ d:=by
 rw [<-Int.natAbs_dvd_natAbs,fF] at h;rw [<-Int.natAbs_dvd_natAbs];rw [Int.gcd_eq_natAbs_gcd_natAbs] at g;exact Nat.Coprime.dvd_of_dvd_mul_left g h
def FM{a b c d:Int}(h1:UF a b)(h2:UF c d)(e:a*d=c*b):a=c/\b=d:=by
 have d1:b ∣ d:=by
  have:b ∣ a*d:=by rw [e];exact Int.dvd_mul_left c b
  exact KO this (by rw [Int.gcd_comm];exact h1.low)
 have d2:d ∣ b:=by
  have:d ∣ c*b:=by rw [<-e];exact Int.dvd_mul_left a d
  exact KO this (by rw [Int.gcd_comm];exact h2.low)
 have hb:=h1.pos;have hd:=h2.pos;have e1:b=d:=Int.dvd_antisymm (Int.le_of_lt hb) (Int.le_of_lt hd) d1 d2;subst e1;exact ⟨Int.eq_of_mul_eq_mul_right Oo e,rfl⟩
def CM{a b n d:Int}(h:UF a b)(hd:0<d)(e:a*d=n*b):lw n d=(a,b):=by
 have c:=qL (n:=n) (d:=d);have q:=FM (jD (n:=n) hd) h (by
  have hd':d≠0:=Oo;apply Int.eq_of_mul_eq_mul_right hd'
  calc (lw n d).1*b*d=((lw n d).1*d)*b:=by rw [Int.mul_assoc,Int.mul_comm b d,<-Int.mul_assoc]
   _=(n*(lw n d).2)*b:=by rw [c]
   _=(n*b)*(lw n d).2:=by rw [Int.mul_assoc,Int.mul_comm (lw n d).2 b,<-Int.mul_assoc]
   _=(a*d)*(lw n d).2:=by rw [e]
   _=a*(lw n d).2*d:=by rw [Int.mul_assoc,Int.mul_comm d,<-Int.mul_assoc])
 exact Prod.ext q.1 q.2
def KB{a b:Int}(h:UF a b):lw a b=(a,b):=CM h h.pos rfl
def pH{u a b:Int}(h1:Int.gcd u a=1)(h2:Int.gcd u b=1):Int.gcd u (a*b)=1:=by
 rw [Int.gcd_eq_natAbs_gcd_natAbs] at *;rw [fF];exact Nat.Coprime.mul_right h1 h2
def nF{a b c:Int}(h:Int.gcd a b=1)(d:c ∣ b):Int.gcd a c=1:=by
 have:=Int.gcd_dvd_gcd_of_dvd_right a d;rw [h] at this;exact Nat.eq_one_of_dvd_one this
def jV{a b c:Int}(h:Int.gcd a b=1)(d:c ∣ a):Int.gcd c b=1:=by
 rw [Int.gcd_comm] at *;exact nF h d
def WK{a b c d:Int}(h1:UF a b)(h2:UF c d) :
  let g:Int:=Int.gcd b d
  let u:=a*(d/g)+c*(b/g)
  let l:Int:=Int.gcd u g
  lw (a*d+c*b) (b*d)=(u/l,(b/g)*(d/l)):=by
 intro g u l;have hg:0<g:=jT h2.pos;have hl:0<l:=jT hg;obtain ⟨b',eb⟩:=Int.gcd_dvd_left b d;obtain ⟨d',ed⟩:=Int.gcd_dvd_right b d;have eb:b=g*b':=eb;have ed:d=g*d':=ed;have qb:b/g=b':=by rw [eb];exact Int.mul_ediv_cancel_left _ Oo
 have qd:d/g=d':=by rw [ed];exact Int.mul_ediv_cancel_left _ Oo
 have eu:u=a*d' + c*b':=by show a*(d/g)+c*(b/g)=_;rw [qb,qd]
 have cbd:Int.gcd b' d'=1:=by
  have:=Int.gcd_ediv_gcd_ediv_gcd (i:=b) (j:=d) (by have:0<(Int.gcd b d:Int):=hg;exact Oo);have h:Int.gcd (b/g) (d/g)=1:=this
  rwa [qb,qd] at h
 have cab:Int.gcd a b'=1:=nF h1.low ⟨g,by rw [eb,Int.mul_comm]⟩;have ccd:Int.gcd c d'=1:=nF h2.low ⟨g,by rw [ed,Int.mul_comm]⟩;have ub:Int.gcd u b'=1:=by
  rw [eu,Int.add_comm,Int.gcd_mul_right_add_left,Int.gcd_mul_right_left_of_gcd_eq_one cab,Int.gcd_comm];exact cbd
 have ud:Int.gcd u d'=1:=by
  rw [eu,Int.gcd_mul_right_add_left,Int.gcd_mul_right_left_of_gcd_eq_one ccd];exact cbd
 obtain ⟨u',eu'⟩:=Int.gcd_dvd_left u g;obtain ⟨g',eg'⟩:=Int.gcd_dvd_right u g;have eu':u=l*u':=eu';have eg':g=l*g':=eg';have qu:u/l=u':=by rw [eu'];exact Int.mul_ediv_cancel_left _ Oo
 have qdl:d/l=g' * d':=by rw [ed,eg',Int.mul_assoc];exact Int.mul_ediv_cancel_left _ Oo
 have cug:Int.gcd u' g'=1:=by
  have:=Int.gcd_ediv_gcd_ediv_gcd (i:=u) (j:=g) (by have:0<(Int.gcd u g:Int):=hl;exact Oo);have h:Int.gcd (u/l) (g/l)=1:=this;rw [qu] at h
  rwa [show g/l=g' from by rw [eg'];exact Int.mul_ediv_cancel_left _ Oo] at h
 rw [qu,qb,qdl];have hu':u' ∣ u:=⟨l,by rw [eu',Int.mul_comm]⟩;have hb':0<b':=by
  have:=h1.pos;rw [eb] at this;exact Int.pos_of_mul_pos_right this Oo
 have hd':0<d':=by
  have:=h2.pos;rw [ed] at this;exact Int.pos_of_mul_pos_right this Oo
 have hg':0<g':=by
  have:=hg;rw [eg'] at this;exact Int.pos_of_mul_pos_right this Oo
 refine CM ⟨Int.mul_pos hb' (Int.mul_pos hg' hd'),?_⟩ (Int.mul_pos h1.pos h2.pos) ?_
 ·exact pH (jV ub hu') (pH cug (jV ud hu'))
 ·have e1:a*d+c*b=g*(l*u'):=by
   rw [<-eu',eu,eb,ed];rw [Int.mul_add,Int.mul_left_comm a,Int.mul_left_comm c]
  rw [e1,eb,ed];generalize hG:g=G at *;rw [eg'];simp only [Int.mul_assoc,Int.mul_left_comm,Int.mul_comm]
def OW{a b c d:Int}(h1:UF a b)(h2:UF c d) :
  let f:Int:=Int.gcd a d
  let s:Int:=Int.gcd c b
  lw (a*c) (b*d)=((a/f)*(c/s),(b/s)*(d/f)):=by
 intro f s;have hf:0<f:=jT h2.pos;have hs:0<s:=jT h1.pos;obtain ⟨a',ea⟩:=Int.gcd_dvd_left a d;obtain ⟨d',ed⟩:=Int.gcd_dvd_right a d;obtain ⟨c',ec⟩:=Int.gcd_dvd_left c b;obtain ⟨b',eb⟩:=Int.gcd_dvd_right c b;have ea:a=f*a':=ea;have ed:d=f*d':=ed;have ec:c=s*c':=ec;have eb:b=s*b':=eb;have qa:a/f=a':=by rw [ea];exact Int.mul_ediv_cancel_left _ Oo
 have qd:d/f=d':=by rw [ed];exact Int.mul_ediv_cancel_left _ Oo
 have qc:c/s=c':=by rw [ec];exact Int.mul_ediv_cancel_left _ Oo
 have qb:b/s=b':=by rw [eb];exact Int.mul_ediv_cancel_left _ Oo
 have cad:Int.gcd a' d'=1:=by
  have:=Int.gcd_ediv_gcd_ediv_gcd (i:=a) (j:=d) (by have:0<(Int.gcd a d:Int):=hf;exact Oo);have h:Int.gcd (a/f) (d/f)=1:=this
  rwa [qa,qd] at h
 have ccb:Int.gcd c' b'=1:=by
  have:=Int.gcd_ediv_gcd_ediv_gcd (i:=c) (j:=b) (by have:0<(Int.gcd c b:Int):=hs;exact Oo);have h:Int.gcd (c/s) (b/s)=1:=this
  rwa [qc,qb] at h
 have cab:Int.gcd a' b'=1:=jV (nF h1.low ⟨s,by rw [eb,Int.mul_comm]⟩) ⟨f,by rw [ea,Int.mul_comm]⟩;have ccd:Int.gcd c' d'=1:=jV (nF h2.low ⟨f,by rw [ed,Int.mul_comm]⟩) ⟨s,by rw [ec,Int.mul_comm]⟩;have hb':0<b':=by
  have:=h1.pos;rw [eb] at this;exact Int.pos_of_mul_pos_right this Oo
 have hd':0<d':=by
  have:=h2.pos;rw [ed] at this;exact Int.pos_of_mul_pos_right this Oo
 rw [qa,qb,qc,qd];refine CM ⟨Int.mul_pos hb' hd',?_⟩ (Int.mul_pos h1.pos h2.pos) ?_
 ·have x1:Int.gcd a' (b' * d')=1:=pH cab cad;have x2:Int.gcd c' (b' * d')=1:=pH ccb ccd;rw [Int.gcd_comm] at x1 x2 ⊢;exact pH x1 x2
 ·rw [ea,eb,ec,ed];simp only [Int.mul_assoc,Int.mul_left_comm,Int.mul_comm]
end Mf
namespace Mf
abbrev Fr:=Int × Int
abbrev _root_.Ak:=List Fr
abbrev _root_.Aj:=List Ak
def qS(x y:Fr):Fr:=lw (x.1*y.2+y.1*x.2) (x.2*y.2)
def lD(fs:Ak):Fr:=fs.foldl qS (0,1)
def cY(f:Fr):Prop:=UF f.1 f.2
def oY{α:Type}{P:List α->Prop}(h0:P [])(hs:∀l a,P l->P (l++[a]))(l:List α):P l:=by
 have:∀r:List α,P r.reverse:=by
  intro r
  induction r with
  | nil=>exact h0
  | cons a r ih=>rw [List.reverse_cons];exact hs _ _ ih
 have:=this l.reverse
 rwa [List.reverse_reverse] at this
def oC(l:Ak)(a:Fr):lD (l++[a])=qS (lD l) a:=by unfold lD;rw [List.foldl_append];rfl
def sT(l:Ak):(∀f∈l,cY f)->cY (lD l):=by
 refine oY (P:=λl=>(∀f∈l,cY f)->cY (lD l)) (λ_=>⟨Dd,Dd⟩) (λl a ih h=>?_) l;rw [oC];have h1:=ih λf hf=>h f (bY _ hf);have h2:=h a (aO _ aS);exact jD (Int.mul_pos h1.pos h2.pos)
def KC{n d:Int}(h:0<d):(lw n d).2<=d/\(lw n d).1.natAbs<=n.natAbs:=by
 obtain ⟨e1,e2⟩:=ZN (n:=n) (d:=d);have g:=jT (n:=n) h;have p:=(jD (n:=n) h).pos;generalize (lw n d).1=a at *;generalize (lw n d).2=b at *;generalize (Int.gcd n d:Int)=G at *;refine ⟨?_,?_⟩
 ·rw [<-e2];have:=Int.mul_le_mul_of_nonneg_left (show (1:Int)<=G by omega) (Int.le_of_lt p);simpa using this
 ·rw [<-e1,fF];exact Nat.le_mul_of_pos_right _ Oo
end Mf
namespace Mf
def RN{n d n' d':Int}(hd:0<d)(hd':0<d')(e:n*d'=n' * d):lw n d=lw n' d':=by
 have h:=jD (n:=n') hd';have c:=qL (n:=n') (d:=d');generalize lw n' d'=L at c h;refine CM (a:=L.1) (b:=L.2) h hd (Int.eq_of_mul_eq_mul_right (a:=d') Oo ?_)
 calc L.1*d*d'=(L.1*d')*d:=by ac_rfl
  _=n' * L.2*d:=by rw [c]
  _=(n' * d)*L.2:=by ac_rfl
  _=n*d' * L.2:=by rw [e]
  _=n*L.2*d':=by ac_rfl
def jC(f g:Fr):Fr:=lw (f.1*g.1) (f.2*g.2)
def gO{f g:Fr}(h:cY f)(h':cY g):cY (jC f g):=jD (Int.mul_pos h.pos h'.pos)
def aBm{a b c d:Int}(hb:0<b)(hd:0<d):jC (lw a b) (lw c d)=lw (a*c) (b*d):=by
 have h1:=(jD (n:=a) hb).pos;have h2:=(jD (n:=c) hd).pos;refine RN (Int.mul_pos h1 h2) (Int.mul_pos hb hd) ?_;have e1:=qL (n:=a) (d:=b);have e2:=qL (n:=c) (d:=d);generalize lw a b=L at *;generalize lw c d=M at *
 calc L.1*M.1*(b*d)=(L.1*b)*(M.1*d):=by ac_rfl
  _=(a*L.2)*(c*M.2):=by rw [e1,e2]
  _=a*c*(L.2*M.2):=by ac_rfl
def uX(f:Fr)(c:Nat):Fr:=(f.1^c,f.2^c)
theorem lG{f:Fr}(h:cY f):∀c:Nat,cY (uX f c)
 | 0=>⟨by show 0<f.2^0;rw [Int.pow_zero];decide,by show Int.gcd (f.1^0) (f.2^0)=1;rw [Int.pow_zero,Int.pow_zero];decide⟩
 | c+1=>by
  have ih:=lG h c;have k:∀n:Nat,Int.gcd f.1 (f.2^n)=1:=λn=>by
   induction n with
   | zero=>rw [Int.pow_zero];exact Int.gcd_one_right _
   | succ n ih=>rw [Int.pow_succ];exact pH ih h.low
  refine ⟨?_,?_⟩
  ·show 0<f.2^(c+1);rw [Int.pow_succ];exact Int.mul_pos ih.pos h.pos
  ·show Int.gcd (f.1^(c+1)) (f.2^(c+1))=1;have k2:∀n:Nat,Int.gcd (f.2^(c+1)) (f.1^n)=1:=λn=>by
    induction n with
    | zero=>rw [Int.pow_zero];exact Int.gcd_one_right _
    | succ n ih=>rw [show f.1^(n+1)=f.1^n*f.1 from Int.pow_succ ..];exact pH ih (by rw [Int.gcd_comm];exact k (c+1))
   rw [Int.gcd_comm];exact k2 (c+1)
def uO(zs:List (Fr × Nat)):Fr:=zs.foldl (λp q=>(p.1*q.1.1^q.2,p.2*q.1.2^q.2)) (1,1)
def jW(zs:List (Fr × Nat)):Fr:=zs.foldl (λp q=>jC p (uX q.1 q.2)) (1,1)
def uM(l:List (Fr × Nat))(a:Fr × Nat):uO (l++[a])=((uO l).1*a.1.1^a.2,(uO l).2*a.1.2^a.2):=by unfold uO;rw [List.foldl_append];rfl
def qY(l:List (Fr × Nat))(a:Fr × Nat):jW (l++[a])=jC (jW l) (uX a.1 a.2):=by unfold jW;rw [List.foldl_append];rfl
def wZ(l:List (Fr × Nat)):(∀z∈l,cY z.1)->0<(uO l).2:=by
 induction l using oY with
 | h0=>intro _;decide
 | hs l a ih =>
  intro h;rw [uM];exact Int.mul_pos (ih λf hf=>h f (bY _ hf)) (lG (h a (by simp)) a.2).pos
def JC(l:List (Fr × Nat)):(∀z∈l,cY z.1)->jW l=lw (uO l).1 (uO l).2:=by
 induction l using oY with
 | h0=>intro _;rfl
 | hs l a ih =>
  intro h;have hl:∀f∈l,cY f.1:=λf hf=>h f (bY _ hf);have ha:=lG (h a (by simp)) a.2;rw [qY,uM,ih hl];have e:uX a.1 a.2=lw (a.1.1^a.2) (a.1.2^a.2):=(KB ha).symm;rw [e,aBm (wZ l hl) (show 0<a.1.2^a.2 from ha.pos)]
def oA(l:List (Fr × Nat))(h:∀z∈l,cY z.1):cY (jW l):=by rw [JC l h];exact jD (wZ l h)
def uW{x:Int}{B:Nat}(h:x.natAbs<=2^B)(c:Nat):(x^c).natAbs<=2^(B*c):=by
 rw [Int.natAbs_pow,Nat.pow_mul];exact Nat.pow_le_pow_left h c
def UJ{B:Nat}(l:List (Fr × Nat)):(∀z∈l,z.1.1.natAbs<=2^B/\z.1.2.natAbs<=2^B)->(uO l).1.natAbs<=2^(B*(l.map (·.2)).sum)/\(uO l).2.natAbs<=2^(B*(l.map (·.2)).sum):=by
 induction l using oY with
 | h0=>intro _;exact ⟨Nat.one_le_two_pow,Nat.one_le_two_pow⟩
 | hs l a ih =>
  intro h;obtain ⟨i1,i2⟩:=ih λf hf=>h f (bY _ hf);obtain ⟨a1,a2⟩:=h a (by simp);rw [uM,bF,List.sum_append,show ([a].map (·.2)).sum=a.2 by simp,Nat.mul_add,Nat.pow_add];exact ⟨by show ((uO l).1*a.1.1^a.2).natAbs<=_;rw [fF];exact Nat.mul_le_mul i1 (uW a1 _),by show ((uO l).2*a.1.2^a.2).natAbs<=_;rw [fF];exact Nat.mul_le_mul i2 (uW a2 _)⟩
def UK{B:Nat}(l:List (Fr × Nat))(hl:∀z∈l,cY z.1)(h:∀z∈l,z.1.1.natAbs<=2^B/\z.1.2.natAbs<=2^B):(jW l).1.natAbs<=2^(B*(l.map (·.2)).sum)/\(jW l).2.natAbs<=2^(B*(l.map (·.2)).sum):=by
 obtain ⟨h1,h2⟩:=UJ l h;rw [JC l hl];have hp:=wZ l hl;obtain ⟨l1,l2⟩:=KC (n:=(uO l).1) hp;have:=(jD (n:=(uO l).1) hp).pos;exact ⟨aM l2 h1,Oo⟩
end Mf
namespace Mf
def rv(f:Fr):Rat:=(f.1:Rat)/(f.2:Rat)
def CP{d:Int}(h:0<d):(0:Rat)<(d:Rat):=by exact_mod_cast h
def kM{d:Int}(h:0<d):(d:Rat)≠0:=by have:=CP h;grind
def rT{f:Fr}(h:0<f.2):rv f*(f.2:Rat)=(f.1:Rat):=by
 have:=kM h;unfold rv;grind
def EU{n d:Int}(h:0<d):rv (lw n d)=(n:Rat)/(d:Rat):=by
 have e:=qL (n:=n) (d:=d);have p:=(jD (n:=n) h).pos;have h1:=kM h;have h2:=kM p;have e':((lw n d).1:Rat)*(d:Rat)=(n:Rat)*((lw n d).2:Rat):=by exact_mod_cast e
 unfold rv;generalize ((lw n d).1:Rat)=a at *;generalize ((lw n d).2:Rat)=b at *;grind
def BX{f g:Fr}(hf:0<f.2)(hg:0<g.2):rv (qS f g)=rv f+rv g:=by
 unfold qS;rw [EU (Int.mul_pos hf hg)];have h1:=kM hf;have h2:=kM hg;unfold rv;rw [Rat.intCast_add,Rat.intCast_mul,Rat.intCast_mul,Rat.intCast_mul];grind
def iH{f g:Fr}(hf:0<f.2)(hg:0<g.2):rv (jC f g)=rv f*rv g:=by
 unfold jC;rw [EU (Int.mul_pos hf hg)];have h1:=kM hf;have h2:=kM hg;unfold rv;rw [Rat.intCast_mul,Rat.intCast_mul];grind
def aAT(f:Fr):rv (-f.1,f.2)=- rv f:=by
 unfold rv;rw [show (((-f.1,f.2):Fr).1:Rat)=-(f.1:Rat) by rw [<-Rat.intCast_neg]];grind
def iS{f g:Fr}(hf:cY f)(hg:cY g)(e:rv f=rv g):f=g:=by
 have h1:=kM hf.pos;have h2:=kM hg.pos;have e':(f.1:Rat)*(g.2:Rat)=(g.1:Rat)*(f.2:Rat):=by
  have a:=rT hf.pos;have b:=rT hg.pos;rw [<-a,<-b,e];grind
 have q:=FM hf hg (by exact_mod_cast e');exact Prod.ext q.1 q.2
def ZJ{f g:Fr}(hf:0<f.2)(hg:0<g.2):f.1*g.2<g.1*f.2↔rv f<rv g:=by
 have h1:=CP hf;have h2:=CP hg;have a:=rT hf;have b:=rT hg;have p:(0:Rat)<(f.2:Rat)*(g.2:Rat):=Rat.mul_pos h1 h2;have c1:((f.1*g.2:Int):Rat)=rv f*((f.2:Rat)*(g.2:Rat)):=by rw [Rat.intCast_mul,<-a];grind
 have c2:((g.1*f.2:Int):Rat)=rv g*((f.2:Rat)*(g.2:Rat)):=by rw [Rat.intCast_mul,<-b];grind
 rw [<-Rat.intCast_lt_intCast,c1,c2];constructor
 ·intro h;exact Rat.lt_of_mul_lt_mul_right h (Rat.le_of_lt p)
 ·intro h;exact Rat.mul_lt_mul_of_pos_right h p
def nM:rv (0,1)=0:=by unfold rv;grind
def sD:rv (1,1)=1:=by unfold rv;grind
def oW(l:List Rat):Rat:=l.foldr (· + ·) 0
def sU:oW []=0:=rfl
def kN(x:Rat)(l:List Rat):oW (x::l)=x+oW l:=rfl
theorem pR:∀(a b:List Rat),oW (a++b)=oW a+oW b
 | [],b=>by rw [sU,List.nil_append];grind
 | x::a,b=>by rw [List.cons_append,kN,kN,pR a b];grind
def BW(l:Ak):(∀f∈l,cY f)->rv (lD l)=oW (l.map rv):=by
 induction l using oY with
 | h0=>intro _;exact nM
 | hs l a ih =>
  intro h;have hl:∀f∈l,cY f:=λf hf=>h f (bY _ hf);rw [oC,BX (sT l hl).pos (h a (by simp)).pos,ih hl,bF,pR,bI,List.map_nil,kN,sU];grind
def Fn(N B:Nat)(f:Fr):Prop:=cY f/\∃x:Int,rv f*(N:Rat)=(x:Rat)/\x.natAbs<=B*N
def Fn.low{N B:Nat}{f:Fr}(h:Fn N B f):cY f:=h.1
def Fn.le{N B C:Nat}{f:Fr}(h:Fn N B f)(hB:B<=C):Fn N C f:=by
 obtain ⟨l,x,h1,h2⟩:=h;exact ⟨l,x,h1,aM h2 (bS _ hB)⟩
def yN{f g:Fr}(h:cY f)(h':cY g):cY (qS f g):=jD (Int.mul_pos h.pos h'.pos)
def Fn.add{N B C:Nat}{f g:Fr}(h:Fn N B f)(h':Fn N C g):Fn N (B+C) (qS f g):=by
 obtain ⟨l,x,h1,h2⟩:=h;obtain ⟨l',y,h3,h4⟩:=h';refine ⟨yN l l',x+y,?_,?_⟩
 ·rw [BX l.pos l'.pos,Rat.intCast_add,<-h1,<-h3];grind
 ·rw [Nat.add_mul];exact Oo
def Fn.mul{N M B C:Nat}{f g:Fr}(h:Fn N B f)(h':Fn M C g):Fn (N*M) (B*C) (jC f g):=by
 obtain ⟨l,x,h1,h2⟩:=h;obtain ⟨l',y,h3,h4⟩:=h';refine ⟨gO l l',x*y,?_,?_⟩
 ·rw [iH l.pos l'.pos,Rat.intCast_mul,<-h1,<-h3,Rat.natCast_mul];grind
 ·rw [fF];have:=Nat.mul_le_mul h2 h4;rw [Nat.mul_mul_mul_comm] at this;exact this
def Fn.up{N B:Nat}{f:Fr}(h:Fn N B f)(M:Nat):Fn (N*M) B f:=by
 obtain ⟨l,x,h1,h2⟩:=h;refine ⟨l,x*(M:Int),?_,?_⟩
 ·rw [Rat.intCast_mul,<-h1,Rat.natCast_mul];have:((M:Int):Rat)=(M:Rat):=rfl;rw [this];grind
 ·rw [fF,<-Nat.mul_assoc];exact bS _ h2
def Fn.dvd{N M B:Nat}{f:Fr}(h:Fn N B f)(d:N ∣ M):Fn M B f:=by
 obtain ⟨e,rfl⟩:=d;exact h.up e
def vC(N:Nat):((N:Int):Rat)=(N:Rat):=rfl
def XD:cY (0,1):=⟨Dd,Dd⟩
def RP:cY (1,1):=⟨Dd,Dd⟩
def Fn.zero(N:Nat):Fn N 0 (0,1):=⟨XD,0,by rw [nM];grind,by simp⟩
def Fn.one(N:Nat):Fn N 1 (1,1):=⟨RP,N,by rw [sD,vC];grind,by simp⟩
def Fn.eq{N B:Nat}{f:Fr}(h:Fn N B f)(hN:0<N):∃x:Int,f=lw x (N:Int)/\x.natAbs<=B*N:=by
 obtain ⟨l,x,h1,h2⟩:=h;have hp:(0:Int)<(N:Int):=Oo;refine ⟨x,iS l (jD hp) ?_,h2⟩;rw [EU hp,<-h1,vC];have:=kM hp;rw [vC] at this;grind
def Fn.of{n d:Int}{B:Nat}(h:0<d)(hB:n.natAbs<=B*d.natAbs):Fn d.natAbs B (lw n d):=by
 refine ⟨jD h,n,?_,hB⟩;have e:(d.natAbs:Int)=d:=Oo;rw [EU h,<-vC,e];have:=kM h;grind
def Fn.num{N B:Nat}{f:Fr}(h:Fn N B f)(hN:0<N):f.1.natAbs<=B*N/\f.2.natAbs<=N:=by
 obtain ⟨x,rfl,h2⟩:=h.eq hN;have q:=KC (n:=x) (d:=(N:Int)) Oo;have p:=(jD (n:=x) (d:=(N:Int)) Oo).pos;exact Oo
def Fn.tot{N B:Nat}:∀(fs:Ak),(∀f∈fs,Fn N B f)->Fn N (fs.length*B) (lD fs):=by
 intro fs
 induction fs using oY with
 | h0=>intro _;exact (Fn.zero N).le (cG _)
 | hs l a ih =>
  intro h;rw [oC,bE,List.length_singleton,Nat.add_mul,Nat.one_mul];exact (ih λf hf=>h f (bY _ hf)).add (h a (aO _ (bJ.mpr rfl)))
end Mf
namespace Mf
def iY:List Rat->Rat
 | []=>0
 | [x]=>x
 | x::y::l=>if x<=iY (y::l) then x else iY (y::l)
theorem CJ:∀{l:List Rat}{x:Rat},x∈l->iY l<=x
 | [],x,h=>by cases h
 | [y],x,h=>by
  rw [bJ.mp h];exact Rat.le_refl
 | a::b::l,x,h=>by
  have ih:=λx h=>CJ (l:=b::l) (x:=x) h;unfold iY;rcases aZ.mp h with rfl | h
  ·split
   ·exact Rat.le_refl
   ·grind
  ·have:=ih x h;split <;> grind
theorem tQ:∀{l:List Rat},l≠[]->iY l∈l
 | [],h=>absurd rfl h
 | [y],_=>bJ.mpr rfl
 | a::b::l,_=>by
  have ih:=tQ (l:=b::l) (by simp);unfold iY;split
  ·exact aS ..
  ·exact aT _ ih
def CK{l:List Rat}{m:Rat}(h:m∈l)(k:∀x∈l,m<=x):iY l=m:=by
 have h1:=CJ h;have h2:=k _ (tQ (l:=l) (λe=>by rw [e] at h;cases h));grind
def cM(n:Nat)(f:Nat->Rat):Rat:=oW ((List.range n).map f)
def gZ(f:Nat->Rat):cM 0 f=0:=rfl
def eE(n:Nat)(f:Nat->Rat):cM (n+1) f=cM n f+f n:=by
 unfold cM;rw [List.range_succ,bF,pR,bI,List.map_nil,kN,sU];grind
def dH{n:Nat}{f g:Nat->Rat}(h:∀i,i<n->f i=g i):cM n f=cM n g:=by
 induction n with
 | zero=>rfl
 | succ n ih=>rw [eE,eE,ih λi hi=>h i Oo,h n Oo]
def EJ(n:Nat)(f g:Nat->Rat):cM n (λi=>f i+g i)=cM n f+cM n g:=by
 induction n with
 | zero=>rw [gZ,gZ,gZ];grind
 | succ n ih=>rw [eE,eE,eE,ih];grind
def kE(n:Nat)(a:Rat)(f:Nat->Rat):cM n (λi=>a*f i)=a*cM n f:=by
 induction n with
 | zero=>rw [gZ,gZ];grind
 | succ n ih=>rw [eE,eE,ih];grind
def zP{n:Nat}{f g:Nat->Rat}(h:∀i,i<n->f i<=g i):cM n f<=cM n g:=by
 induction n with
 | zero=>rw [gZ,gZ];exact Rat.le_refl
 | succ n ih =>
  have h1:=ih λi hi=>h i Oo;have h2:=h n Oo;rw [eE,eE];grind
def mK(n:Nat):cM n (λ_=>0)=0:=by
 induction n with
 | zero=>rfl
 | succ n ih=>rw [eE,ih];grind
def UV{n:Nat}{f:Nat->Rat}(h:∀i,i<n->0<=f i):0<=cM n f:=by
 have:=zP (n:=n) (f:=λ_=>0) (g:=f) h
 rwa [mK] at this
def xC{n:Nat}(f:Nat->Rat){w:Nat}(h:w<n):cM n f-f w=cM n (λi=>if i=w then 0 else f i):=by
 induction n with
 | zero=>omega
 | succ n ih =>
  rw [eE,eE];by_cases e:w=n
  ·subst e;rw [if_pos rfl,dH (g:=f) λi hi=>if_neg Oo];grind
  ·rw [if_neg (λq=>e q.symm),<-ih Oo];grind
def bQ(c:Ae)(i:Nat):Ae:=c.set i (c.getD i 0+1)
def jM(W:Nat)(d:Nat->Rat):List Rat:=(List.range W).map λw=>cM W d-d w
def tM{W:Nat}{d:Nat->Rat}{x:Rat}:x∈jM W d ↔ ∃w,w<W/\x=cM W d-d w:=by
 unfold jM;rw [aX];constructor
 ·rintro ⟨w,h,rfl⟩;exact ⟨w,bU.mp h,rfl⟩
 ·rintro ⟨w,h,rfl⟩;exact ⟨w,bU.mpr h,rfl⟩
def EC(W F:Nat)(q:Nat->Ae->Rat)(mix ps cs:Nat->Rat):Nat->Ae->Rat
 | 0,c=>iY (jM W λv=>ps v*q v c)
 | n+1,c=>iY (jM W (λv=>ps v*q v c)++[cs c.sum*cM W (λv=>mix v*q v c)+cM F (λj=>EC W F q mix ps cs n (bQ c j))])
section
variable{W F:Nat}{q:Nat->Ae->Rat}{mix ps ps' cs:Nat->Rat}
def uL(n:Nat)(c:Ae):EC W F q mix ps cs (n+1) c=iY (jM W (λv=>ps v*q v c)++[cs c.sum*cM W (λv=>mix v*q v c)+cM F (λj=>EC W F q mix ps cs n (bQ c j))]):=rfl
def BU(hW:0<W)(d:Nat->Rat):jM W d≠[]:=λe=>by
 have:cM W d-d 0∈jM W d:=tM.mpr ⟨0,hW,rfl⟩;rw [e] at this;cases this
end
end Mf
namespace Mf
theorem BM:∀(l:Ae) (j v x:Nat),l[j]?=some x->(l.set j v).sum+x=l.sum+v
 | [],j,v,x,h=>by simp at h
 | a::l,0,v,x,h=>by
  have:a=x:=by simpa using h
  subst this;simp only [List.set_cons_zero,List.sum_cons];exact Oo
 | a::l,j+1,v,x,h=>by
  have:=BM l j v x (by simpa using h);simp only [List.set_cons_succ,List.sum_cons];exact Oo
def cta:Nat->Nat->Ab
 | 0,_=>[]
 | 1,m=>[[m]]
 | F+2,m=>(List.range (m+1)).flatMap λk=>(cta (F+1) (m-k)).map λc=>k::c
theorem gY:∀{F m:Nat}{c:Ae},c∈cta F m->c.length=F/\c.sum=m
 | 0,m,c,h=>by cases h
 | 1,m,c,h=>by
  have:c=[m]:=by simpa [cta] using h
  subst this;simp
 | F+2,m,c,h=>by
  obtain ⟨k,hk,h⟩:=List.mem_flatMap.mp h;obtain ⟨d,hd,rfl⟩:=aX.mp h;have hk:=bU.mp hk;obtain ⟨h1,h2⟩:=gY hd;refine ⟨by simp [h1],?_⟩;rw [List.sum_cons];exact Oo
end Mf
namespace Mf
def Qn(N B:Nat)(x:Rat):Prop:=∃z:Int,x*(N:Rat)=(z:Rat)/\z.natAbs<=B*N
def Fn.q{N B:Nat}{f:Fr}(h:Fn N B f):Qn N B (rv f):=h.2
theorem Qn.f{N B:Nat}{f:Fr}(l:cY f)(h:Qn N B (rv f)):Fn N B f:=⟨l,h⟩
def iI(x:Rat):Fr:=(x.num,(x.den:Int))
def cF(x:Rat):cY (iI x):=by
 refine ⟨?_,?_⟩
 ·show (0:Int)<(x.den:Int);have:=x.den_pos;exact Oo
 ·show Int.gcd x.num (x.den:Int)=1;rw [Int.gcd_eq_natAbs_gcd_natAbs,Int.natAbs_natCast];exact x.reduced
def eW(x:Rat):rv (iI x)=x:=by
 unfold rv iI;show (x.num:Rat)/((x.den:Int):Rat)=x;rw [<-Rat.divInt_eq_div,Rat.num_divInt_den]
def aBB{f:Fr}(h:cY f):iI (rv f)=f:=iS (cF _) h (eW _)
def Qn.fq{N B:Nat}{x:Rat}(h:Qn N B x):Fn N B (iI x):=⟨cF x,by rw [eW];exact h⟩
def Qn.le{N B C:Nat}{x:Rat}(h:Qn N B x)(hB:B<=C):Qn N C x:=by
 obtain ⟨z,h1,h2⟩:=h;exact ⟨z,h1,aM h2 (bS _ hB)⟩
def Qn.add{N B C:Nat}{x y:Rat}(h:Qn N B x)(h':Qn N C y):Qn N (B+C) (x+y):=by
 obtain ⟨z,h1,h2⟩:=h;obtain ⟨u,h3,h4⟩:=h';refine ⟨z+u,?_,?_⟩
 ·rw [Rat.intCast_add,<-h1,<-h3];grind
 ·rw [Nat.add_mul];exact Oo
def Qn.neg{N B:Nat}{x:Rat}(h:Qn N B x):Qn N B (-x):=by
 obtain ⟨z,h1,h2⟩:=h;refine ⟨-z,?_,by rw [Int.natAbs_neg];exact h2⟩;rw [Rat.intCast_neg,<-h1];grind
def Qn.sub{N B C:Nat}{x y:Rat}(h:Qn N B x)(h':Qn N C y):Qn N (B+C) (x-y):=by
 have:=h.add h'.neg
 rwa [<-Rat.sub_eq_add_neg] at this
def Qn.mul{N M B C:Nat}{x y:Rat}(h:Qn N B x)(h':Qn M C y):Qn (N*M) (B*C) (x*y):=by
 obtain ⟨z,h1,h2⟩:=h;obtain ⟨u,h3,h4⟩:=h';refine ⟨z*u,?_,?_⟩
 ·rw [Rat.intCast_mul,<-h1,<-h3,Rat.natCast_mul];grind
 ·rw [fF];have:=Nat.mul_le_mul h2 h4;rw [Nat.mul_mul_mul_comm] at this;exact this
def Qn.dvd{N M B:Nat}{x:Rat}(h:Qn N B x)(d:N ∣ M):Qn M B x:=by
 obtain ⟨e,rfl⟩:=d;obtain ⟨z,h1,h2⟩:=h;refine ⟨z*(e:Int),?_,?_⟩
 ·rw [Rat.intCast_mul,<-h1,Rat.natCast_mul,vC];grind
 ·rw [fF,<-Nat.mul_assoc];exact bS _ h2
def Qn.zero(N B:Nat):Qn N B 0:=⟨0,by grind,by simp⟩
theorem Qn.sumR{N B:Nat}{f:Nat->Rat}:∀{n:Nat},(∀i,i<n->Qn N B (f i))->Qn N (n*B) (cM n f)
 | 0,_=>by rw [gZ];exact Qn.zero _ _
 | n+1,h=>by
  rw [eE,Nat.add_mul,Nat.one_mul];exact (Qn.sumR λi hi=>h i Oo).add (h n Oo)
def Qn.min{N B:Nat}{l:List Rat}(h:∀x∈l,Qn N B x)(ne:l≠[]):Qn N B (iY l):=h _ (tQ ne)
def HP{f:Fr}(h:cY f)(n:Nat):rv (uX f n)=rv f^n:=by
 have hp:=kM h.pos
 induction n with
 | zero=>unfold uX rv;grind
 | succ n ih =>
  have e:rv (uX f (n+1))=rv (uX f n)*rv f:=by
   have h1:=kM (lG h n).pos;unfold uX rv at *;simp only [Int.pow_succ,Rat.intCast_mul] at *;generalize ((f.1^n:Int):Rat)=u at *;generalize ((f.2^n:Int):Rat)=v at *;grind
  rw [e,ih,Rat.pow_succ]
theorem Qn.pow{N:Nat}{x:Rat}(h:Qn N 1 x):∀n:Nat,Qn (N^n) 1 (x^n)
 | 0=>⟨1,by rw [Rat.pow_zero,Nat.pow_zero];grind,by simp⟩
 | n+1=>by
  rw [Rat.pow_succ,Nat.pow_succ];exact (Qn.pow h n).mul h
def aAd{N:Nat}(l:List (Fr × Nat)):(∀z∈l,Fn N 1 z.1)->Qn (N^(l.map (·.2)).sum) 1 (rv (jW l)):=by
 induction l using oY with
 | h0=>intro _;exact ⟨1,by show rv (1,1)*_=_;rw [sD];simp,by simp⟩
 | hs l a ih =>
  intro h;have hl:∀z∈l,Fn N 1 z.1:=λz hz=>h z (bY _ hz);have ha:=h a (by simp);rw [qY,iH (oA l λz hz=>(hl z hz).low).pos (lG ha.low a.2).pos,HP ha.low,bF,List.sum_append,Nat.pow_add];have:=(ih hl).mul (ha.q.pow a.2);simpa using this
def ZI{f:Fr}(h:cY f)(h0:0<=f.1):0<=rv f:=by
 have h1:=CP h.pos;have e:=rT h.pos;have h2:(0:Rat)<=(f.1:Rat):=by exact_mod_cast h0
 have:rv f=(f.1:Rat)*(f.2:Rat)⁻¹:=by unfold rv;exact Rat.div_def _ _
 rw [this];exact bG h2 (Rat.le_of_lt (Rat.inv_pos.mpr h1))
def LN{α:Type}(l:List α)(m:Ae):((l.zip m).map (·.2)).sum<=m.sum:=by
 induction l generalizing m with
 | nil=>simp
 | cons a l ih =>
  cases m with
  | nil=>simp
  | cons b m =>
   have:=ih m;simp only [List.zip_cons_cons,bI,List.sum_cons];exact Oo
def wq(fs:Ak)(c:Ae):Rat:=rv (jW (fs.zip c))
def OH{N M:Nat}{fs:Ak}{c:Ae}(h:∀f∈fs,Fn N 1 f)(hc:c.sum<=M):Qn (N^M) 1 (wq fs c):=by
 have h1:=aAd (fs.zip c) (λz hz=>h z.1 (List.of_mem_zip (a:=z.1) (b:=z.2) hz).1);have h2:=LN fs c;exact h1.dvd (Nat.pow_dvd_pow _ Oo)
structure iU(F W M:Nat)(ss:Aj)(mix ps cs:Ak)(Ns Nm Np Nc B:Nat):Prop where
 f1:1<=F
 f4:F<=4
 w1:1<=W
 w4:W<=4
 m5:M<=5
 sl:ss.length=W
 ml:mix.length=W
 pl:ps.length=W
 cl:cs.length=M
 sh:∀s∈ss,s.length=F/\∀f∈s,Fn Ns 1 f
 mx:∀f∈mix,Fn Nm 1 f
 pr:∀f∈ps,Fn Np B f
 co:∀f∈cs,Fn Nc B f
 pos:0<Np*Nc*Nm*Ns^M
 sz:Np*Nc*Nm*Ns^M<2^3000
 b:B<=1000000
def dM(ss:Aj)(v:Nat)(c:Ae):Rat:=wq (ss.getD v []) c
def dG(ps:Ak)(v:Nat):Rat:=rv (ps.getD v (0,1))
def wor(F W M:Nat)(ss:Aj)(mix ps cs:Ak)(c:Ae):Rat:=EC W F (dM ss) (dG mix) (dG ps) (dG cs) (M-c.sum) c
def eV{α:Type}{l:List α}{j:Nat}{a:α}(h:j<l.length):l.getD j a∈l:=by
 rw [bH,aB h];exact List.getElem_mem h
section
variable{F W M:Nat}{ss:Aj}{mix ps cs:Ak}{Ns Nm Np Nc B:Nat}
def iU.qn(I:iU F W M ss mix ps cs Ns Nm Np Nc B){v:Nat}(hv:v<W){c:Ae}(hc:c.sum<=M):Qn (Ns^M) 1 (dM ss v c):=OH (I.sh _ (eV (by rw [I.sl];exact hv))).2 hc
def iU.due(I:iU F W M ss mix ps cs Ns Nm Np Nc B){v:Nat}(hv:v<W){c:Ae}(hc:c.sum<=M):Qn (Np*Nc*Nm*Ns^M) B (dG ps v*dM ss v c):=by
 have h:=(I.pr _ (eV (a:=(0,1)) (by rw [I.pl];exact hv))).q.mul (I.qn hv hc);rw [Nat.mul_one] at h;exact h.dvd ⟨Nc*Nm,by ac_rfl⟩
def iU.met(I:iU F W M ss mix ps cs Ns Nm Np Nc B){v:Nat}(hv:v<W){c:Ae}(hc:c.sum<=M):Qn (Nm*Ns^M) 1 (dG mix v*dM ss v c):=by
 have h:=(I.mx _ (eV (a:=(0,1)) (by rw [I.ml];exact hv))).q.mul (I.qn hv hc)
 rwa [Nat.mul_one] at h
def iU.paid(I:iU F W M ss mix ps cs Ns Nm Np Nc B){c:Ae}(hc:c.sum<M):Qn (Np*Nc*Nm*Ns^M) (4*B) (dG cs c.sum*cM W (λv=>dG mix v*dM ss v c)):=by
 have h1:=(I.co _ (eV (a:=(0,1)) (show c.sum<cs.length by rw [I.cl];exact hc))).q;have h2:=Qn.sumR (n:=W) λv hv=>I.met hv (Nat.le_of_lt hc);have h3:=h1.mul h2;have h4:B*(W*1)<=4*B:=by
  have:=Nat.mul_le_mul_left B I.w4;rw [Nat.mul_one];exact Oo
 exact (h3.le h4).dvd ⟨Np,by ac_rfl⟩
def hZ{c:Ae}{j:Nat}(h:j<c.length):(bQ c j).sum=c.sum+1:=by
 unfold bQ;have h1:c[j]?=some (c.getD j 0):=by rw [bH,aB h];rfl
 have:=BM c j (c.getD j 0+1) _ h1;exact Oo
def qR(c:Ae)(j:Nat):(bQ c j).length=c.length:=by unfold bQ;rw [List.length_set]
def iU.says(I:iU F W M ss mix ps cs Ns Nm Np Nc B){c:Ae}(hc:c.sum<=M):∀x∈jM W (λv=>dG ps v*dM ss v c),Qn (Np*Nc*Nm*Ns^M) (5*B) x:=by
 intro x hx;obtain ⟨w,hw,rfl⟩:=tM.mp hx;have h1:=Qn.sumR (n:=W) λv hv=>I.due hv hc;have h2:=h1.sub (I.due hw hc);refine h2.le ?_;have:=bS B I.w4;exact Oo
theorem iU.worn(I:iU F W M ss mix ps cs Ns Nm Np Nc B):∀(n:Nat) (c:Ae),c.length=F->c.sum+n=M->Qn (Np*Nc*Nm*Ns^M) (8^(n+1)*B) (EC W F (dM ss) (dG mix) (dG ps) (dG cs) n c)
 | 0,c,hl,hn=>Qn.min (λx hx=>(I.says Oo x hx).le Oo) (BU I.w1 _)
 | n+1,c,hl,hn=>by
  rw [uL];have hp:8^(n+1+1)=8*8^(n+1):=by rw [Nat.pow_succ];exact Oo
  have h1:1<=8^(n+1):=Nat.one_le_pow _ _ Dd;have hB:B<=8^(n+1)*B:=Nat.le_mul_of_pos_left _ h1;have e8:8^(n+1+1)*B=8*(8^(n+1)*B):=by rw [hp,Nat.mul_assoc]
  refine Qn.min (λx hx=>?_) (by simp);rcases cB.mp hx with hx | hx
  ·exact (I.says Oo x hx).le Oo
  ·rw [bJ.mp hx];have h2:=I.paid (c:=c) Oo;have h3:=Qn.sumR (n:=F) λj hj=>I.worn n (bQ c j) (by rw [qR];exact hl) (by rw [hZ Oo];exact Oo);refine (h2.add h3).le ?_;have h4:F*(8^(n+1)*B)<=4*(8^(n+1)*B):=bS _ I.f4;exact Oo
end
def rise(F M:Nat):Ab:=(List.range (M+1)).flatMap (cta F)
theorem wR:∀{F m:Nat}{c:Ae},1<=F->c.length=F->c.sum=m->c∈cta F m
 | 0,m,c,h,_,_=>Oo
 | 1,m,c,_,hl,hs=>by
  obtain ⟨x,rfl⟩:∃x,c=[x]:=by
   match c,hl with
   | [x],_=>exact ⟨x,rfl⟩
  have:x=m:=by simpa using hs
  subst this;simp [cta]
 | F+2,m,c,_,hl,hs=>by
  cases c with
  | nil=>simp at hl
  | cons x c =>
   rw [List.sum_cons] at hs;unfold cta;refine List.mem_flatMap.mpr ⟨x,bU.mpr Oo,aX.mpr ⟨c,wR Oo (by simpa using hl) Oo,rfl⟩⟩
def gP{F M:Nat}{c:Ae}(hF:1<=F):c∈rise F M↔c.length=F/\c.sum<=M:=by
 unfold rise;rw [List.mem_flatMap];constructor
 ·rintro ⟨m,hm,hc⟩;have:=bU.mp hm;obtain ⟨h1,h2⟩:=gY hc;exact ⟨h1,Oo⟩
 ·rintro ⟨h1,h2⟩;exact ⟨c.sum,bU.mpr Oo,wR hF h1 rfl⟩
theorem qJ(F:Nat):∀M:Nat,(rise F M).Pairwise λa b=>a.sum<=b.sum
 | 0=>by
  unfold rise;rw [List.range_succ,List.range_zero,List.nil_append,List.flatMap_singleton];refine List.pairwise_iff_forall_sublist.mpr λ{a b} h=>?_;have ha:a∈cta F 0:=h.subset (by simp);have:=(gY ha).2;exact Oo
 | M+1=>by
  have ih:=qJ F M;unfold rise at *;rw [List.range_succ,List.flatMap_append,List.flatMap_singleton];refine List.pairwise_append.mpr ⟨ih,?_,λa ha b hb=>?_⟩
  ·refine List.pairwise_iff_forall_sublist.mpr λ{a b} h=>?_;have ha:a∈cta F (M+1):=h.subset (by simp);have hb:b∈cta F (M+1):=h.subset (by simp);have h1:=(gY ha).2;have h2:=(gY hb).2;exact Oo
  ·obtain ⟨m,hm,ha⟩:=List.mem_flatMap.mp ha;have:=bU.mp hm;have h1:=(gY ha).2;have h2:=(gY hb).2;exact Oo
def vV{F M k:Nat}{c d:Ae}(h:(rise F M)[k]?=some c)(hd:d∈rise F M)(hs:c.sum<d.sum):d∈(rise F M).drop (k+1):=by
 obtain ⟨i,hi⟩:=cZ.mp hd;have hki:k<i:=by
  refine bM λq=>?_;have hk:=(aF.mp h);have hi':=(aF.mp hi);obtain ⟨lk,ek⟩:=hk;obtain ⟨li,ei⟩:=hi';rcases Nat.lt_or_eq_of_le (Nat.le_of_not_lt q) with h1 | h1
  ·have:=(List.pairwise_iff_getElem.mp (qJ F M)) i k li lk h1;rw [ek,ei] at this;exact Oo
  ·subst h1;rw [ek] at ei;subst ei;exact Oo
 refine cZ.mpr ⟨i-(k+1),?_⟩;rw [List.getElem?_drop,show k+1+(i-(k+1))=i by omega];exact hi
end Mf
namespace Mf
theorem vQ(d:Nat->Rat)(s:Nat):∀W:Nat,oW (((List.range W).filter λi=>i != s).map d)=cM W λi=>if i=s then 0 else d i
 | 0=>rfl
 | W+1=>by
  rw [List.range_succ,List.filter_append,bF,pR,vQ d s W,eE];by_cases e:W=s
  ·subst e;rw [if_pos rfl,show List.filter (λi=>i != W) [W]=[] by simp]
   rfl
  ·rw [if_neg e,show List.filter (λi=>i != s) [W]=[W] by simp [e]];rw [bI,List.map_nil,kN,sU];grind
def PH(d:Nat->Rat){s W:Nat}(h:s<W):oW (((List.range W).filter λi=>i != s).map d)=cM W d-d s:=by rw [vQ,xC d h]
theorem yG:∀F:Nat,1<=F->cta F 0=[List.replicate F 0]
 | 1,_=>rfl
 | F+2,_=>by
  unfold cta;rw [List.range_succ,List.range_zero,List.nil_append,List.flatMap_singleton,Nat.sub_zero,yG (F+1) Oo]
  rfl
def MN(F M:Nat):rise F (M+1)=rise F M++cta F (M+1):=by
 unfold rise;rw [List.range_succ,List.flatMap_append,List.flatMap_singleton]
def MM(F:Nat):rise F 0=cta F 0:=by
 unfold rise;rw [List.range_succ,List.range_zero,List.nil_append,List.flatMap_singleton]
def tY{F m:Nat}(hF:1<=F){d:Ae}:d∈cta F (m+1) ↔ ∃c∈cta F m,∃j,j<F/\d=bQ c j:=by
 constructor
 ·intro h;obtain ⟨h1,h2⟩:=gY h;obtain ⟨j,hj,hp⟩:∃j,j<d.length/\0<d.getD j 0:=by
   refine bM λq=>?_;have z:d=List.replicate d.length 0:=by
    refine List.eq_replicate_iff.mpr ⟨rfl,λx hx=>?_⟩;obtain ⟨j,hj⟩:=cZ.mp hx;have hl:=(aF.mp hj).1;have:d.getD j 0=x:=by rw [bH,hj];rfl
    refine bM λhx0=>q ⟨j,hl,Oo⟩
   have:d.sum=0:=by rw [z];simp
   omega
  have e1:d[j]?=some (d.getD j 0):=by rw [bH,aB hj];rfl
  have s1:=BM d j (d.getD j 0-1) _ e1;refine ⟨d.set j (d.getD j 0-1),wR hF (by rw [List.length_set];exact h1) Oo,j,Oo,?_⟩;unfold bQ;rw [bH (l:=d.set j _),List.getElem?_set_self hj,List.set_set];show d=d.set j (d.getD j 0-1+1);rw [show d.getD j 0-1+1=d.getD j 0 by omega];refine (List.ext_getElem? λi=>?_);rw [List.getElem?_set];by_cases e:j=i
  ·subst e;rw [if_pos rfl,if_pos hj];exact e1
  ·rw [if_neg e]
 ·rintro ⟨c,hc,j,hj,rfl⟩;obtain ⟨h1,h2⟩:=gY hc;exact wR hF (by rw [qR];exact h1) (by rw [hZ Oo];exact Oo)
def wO:∀F,F<=4->∀M,M<=5->(rise F M).Nodup:=Kk
def DX(f:Fr):Prop:=cY f/\0<=f.1/\f.1<=999/\f.2<=999
def dens(l:Ak):Nat:=l.foldr (λf n=>f.2.natAbs*n) 1
theorem qQ:∀{l:Ak},(∀f∈l,DX f)->0<dens l
 | [],_=>Nat.one_pos
 | f::l,h=>nH (by have:=(h f (aS ..)).1.pos;exact Oo) (qQ λg hg=>h g (aT _ hg))
theorem KQ:∀{l:Ak},(∀f∈l,DX f)->dens l<=999^l.length
 | [],_=>aI _
 | f::l,h=>by
  have h1:=KQ λg hg=>h g (aT f hg);obtain ⟨a,b,c,d⟩:=h f (aS ..);have:=a.pos;rw [bT,Nat.pow_succ,Nat.mul_comm];exact Nat.mul_le_mul (show f.2.natAbs<=999 by omega) h1
theorem FZ:∀{l:Ak}{f:Fr},f∈l->f.2.natAbs ∣ dens l
 | g::l,f,h=>by
  rcases aZ.mp h with rfl | h
  ·exact Nat.dvd_mul_right _ _
  ·exact lW (FZ h) (Nat.dvd_mul_left _ _)
def DX.fn{f:Fr}(h:DX f):Fn f.2.natAbs 999 f:=by
 obtain ⟨a,b,c,d⟩:=h;have p:=a.pos;have:=Fn.of (n:=f.1) (d:=f.2) (B:=999) p (by
  have:1<=f.2.natAbs:=Oo;have:=Nat.mul_le_mul_left 999 this;exact Oo)
 rwa [KB a] at this
def CY{l:Ak}(h:∀f∈l,DX f):∀f∈l,Fn (dens l) 999 f:=λf hf=>(h f hf).fn.dvd (FZ hf)
def tX{l:Ak}(h:∀f∈l,DX f)(hl:l.length<=5):dens l<=1000000000000000:=by
 have h1:=KQ h;have h2:999^l.length<=999^5:=aP Dd hl;have h3:(999:Nat)^5<=1000000000000000:=Dd;exact Oo
end Mf
namespace Mf
abbrev fV:=List Nat × Ak
def s0(e:fV):Rat:=dG e.2 0
def qM(F:Nat)(c d:Ae):Rat:=cM F λf=>if bQ c f=d then 1 else 0
def cC(F:Nat)(es:List fV):Ae->Rat:=es.foldl (λg e=>λd=>g d+g e.1*s0 e*qM F e.1 d) (λd=>if d=List.replicate F 0 then 1 else 0)
def rH(F:Nat)(d:Ae):cC F [] d=if d=List.replicate F 0 then 1 else 0:=rfl
def kR(F:Nat)(l:List fV)(e:fV)(d:Ae):cC F (l++[e]) d=cC F l d+cC F l e.1*s0 e*qM F e.1 d:=by unfold cC;rw [List.foldl_append];rfl
def dY{α:Type}(l:List α)(f:α->Rat):Rat:=oW (l.map f)
def jH{α:Type}(f:α->Rat):dY [] f=0:=rfl
def gE{α:Type}(a:α)(l:List α)(f:α->Rat):dY (a::l) f=f a+dY l f:=rfl
def EK{α:Type}(a b:List α)(f:α->Rat):dY (a++b) f=dY a f+dY b f:=by unfold dY;rw [bF,pR]
def uQ{α:Type}(l:List α)(a:α)(f:α->Rat):dY (l++[a]) f=dY l f+f a:=by rw [EK,gE,jH];grind
def fJ{α:Type}{l:List α}{f g:α->Rat}(h:∀a∈l,f a=g a):dY l f=dY l g:=by unfold dY;rw [eI h]
def pS{α:Type}(l:List α)(f g:α->Rat):dY l (λa=>f a+g a)=dY l f+dY l g:=by
 induction l with
 | nil=>rw [jH,jH,jH];grind
 | cons a l ih=>rw [gE,gE,gE,ih];grind
def sV{α:Type}(l:List α)(x:Rat)(f:α->Rat):dY l (λa=>x*f a)=x*dY l f:=by
 induction l with
 | nil=>rw [jH,jH];grind
 | cons a l ih=>rw [gE,gE,ih];grind
def zQ{α:Type}(l:List α):dY l (λ_=>0)=0:=by
 induction l with
 | nil=>rfl
 | cons a l ih=>rw [gE,ih];grind
def LY{α:Type}{l:List α}{f g:α->Rat}(h:∀a∈l,f a<=g a):dY l f<=dY l g:=by
 induction l with
 | nil=>exact Rat.le_refl
 | cons a l ih =>
  have h1:=h a (aS ..);have h2:=ih λx hx=>h x (aT _ hx);rw [gE,gE];grind
def wM{α:Type}{l:List α}{f:α->Rat}(h:∀a∈l,0<=f a):0<=dY l f:=by
 have:=LY (l:=l) (f:=λ_=>0) (g:=f) h
 rwa [zQ] at this
def qZ{α:Type}(l:List α)(n:Nat)(f:α->Nat->Rat):dY l (λa=>cM n (f a))=cM n λi=>dY l λa=>f a i:=by
 induction l with
 | nil=>show 0=cM n (λ_=>0);rw [mK]
 | cons a l ih =>
  rw [gE,ih,<-EJ];exact dH λi _=>rfl
def uR{es:List fV}(nd:(es.map (·.1)).Nodup){b:Ae}(hb:b∈es.map (·.1))(Φ:Ae->Rat):dY es (λx=>(if b=x.1 then 1 else 0)*Φ x.1)=Φ b:=by
 induction es with
 | nil=>cases hb
 | cons a es ih =>
  rw [bI,List.nodup_cons] at nd;rw [gE];by_cases e:b=a.1
  ·rw [if_pos e,e,fJ (g:=λ_=>0) λx hx=>?_,zQ]
   ·grind
   ·rw [if_neg λq=>nd.1 (by rw [q];exact aX.mpr ⟨x,hx,rfl⟩)];grind
  ·rw [if_neg e,ih nd.2 (by rw [bI] at hb;exact (aZ.mp hb).resolve_left e)];grind
structure zH(F:Nat)(es:List fV):Prop where
 root:∃e r,es=e::r/\e.1=List.replicate F 0
 len:∀e∈es,e.1.length=F
 nd:(es.map (·.1)).Nodup
 srt:es.Pairwise λa b=>a.1.sum<=b.1.sum
 fwd:∀e∈es,s0 e≠0->∀f,f<F->bQ e.1 f∈es.map (·.1)
 bwd:∀d∈es.map (·.1),d≠List.replicate F 0->∃e∈es,s0 e≠0/\∃f,f<F/\bQ e.1 f=d
 nn:∀e∈es,0<=s0 e
section
variable{F:Nat}{es:List fV}
def FT{c d:Ae}(hc:c.length=F)(h:d.sum≠c.sum+1):qM F c d=0:=by
 unfold qM;rw [dH (g:=λ_=>0) λf hf=>if_neg λq=>h ?_,mK];rw [<-q,hZ Oo]
theorem zH.at(R:zH F es){i:Nat}{e:fV}(h:es[i]?=some e):cC F (es.take i) e.1=cC F es e.1:=by
 have key:∀k,i+k<=es.length->cC F (es.take (i+k)) e.1=cC F (es.take i) e.1:=by
  intro k
  induction k with
  | zero=>intro _;rfl
  | succ k ih =>
   intro hk;obtain ⟨x,hx⟩:∃x,es[i+k]?=some x:=⟨_,aB Oo⟩;have et:es.take (i+k+1)=es.take (i+k)++[x]:=by rw [fT,hx];rfl
   rw [<-Nat.add_assoc,et,kR,ih Oo,FT (R.len x (aG hx)) ?_]
   ·grind
   ·obtain ⟨l1,e1⟩:=aF.mp h;obtain ⟨l2,e2⟩:=aF.mp hx;have:e.1.sum<=x.1.sum:=by
     by_cases q:k=0
     ·subst q;have:e=x:=by rw [<-e1,<-e2];rfl
      rw [this];exact aI _
     ·have:=(List.pairwise_iff_getElem.mp R.srt) i (i+k) l1 l2 Oo
      rwa [e1,e2] at this
    omega
 have hi:=(aF.mp h).1;have:=key (es.length-i) Oo;rw [show i+(es.length-i)=es.length by omega,cP] at this;exact this.symm
def zH.cons(R:zH F es)(Φ:Ae->Rat):∀n,n<=es.length->dY es (λx=>cC F (es.take n) x.1*Φ x.1)=Φ (List.replicate F 0)+dY (es.take n) λe=>cC F es e.1*s0 e*cM F λf=>Φ (bQ e.1 f):=by
 intro n
 induction n with
 | zero =>
  intro _;rw [List.take_zero,jH];obtain ⟨e,r,he,hz⟩:=R.root;have:=uR R.nd (b:=List.replicate F 0) (by rw [he,<-hz];exact aS ..) Φ;rw [fJ (g:=λx=>(if List.replicate F 0=x.1 then 1 else 0)*Φ x.1) λx _=>?_,this]
  ·grind
  ·rw [rH];by_cases q:x.1=List.replicate F 0
   ·rw [if_pos q,if_pos q.symm]
   ·rw [if_neg q,if_neg λz=>q z.symm]
 | succ n ih =>
  intro hn;obtain ⟨e,he⟩:∃x,es[n]?=some x:=⟨_,aB Oo⟩;have et:es.take (n+1)=es.take n++[e]:=by rw [fT,he];rfl
  have hm:=aG he;rw [et,uQ,<-Rat.add_assoc,<-ih Oo];rw [fJ (g:=λx=>cC F (es.take n) x.1*Φ x.1+cC F es e.1*s0 e*(qM F e.1 x.1*Φ x.1)) λx _=>by rw [kR,R.at he];grind];rw [pS,sV];by_cases z:s0 e=0
  ·rw [z];grind
  ·congr 2;have:(λx:fV=>qM F e.1 x.1*Φ x.1)=λx=>cM F λf=>(if bQ e.1 f=x.1 then 1 else 0)*Φ x.1:=by
    funext x
    unfold qM;rw [Rat.mul_comm,<-kE];exact dH λi _=>Rat.mul_comm _ _
   rw [this,qZ];exact dH λf hf=>uR R.nd (R.fwd e hm z f hf) Φ
def zH.all(R:zH F es)(Φ:Ae->Rat):dY es (λx=>cC F es x.1*Φ x.1)=Φ (List.replicate F 0)+dY es λe=>cC F es e.1*s0 e*cM F λf=>Φ (bQ e.1 f):=by
 have:=R.cons Φ es.length (aI _)
 rwa [cP] at this
def RX(F:Nat)(c d:Ae):0<=qM F c d:=UV λf _=>by split <;> grind
def zH.fnn(R:zH F es):∀n,n<=es.length->∀d,0<=cC F (es.take n) d:=by
 intro n
 induction n with
 | zero=>intro _ d;rw [List.take_zero,rH];split <;> grind
 | succ n ih =>
  intro hn d;obtain ⟨e,he⟩:∃x,es[n]?=some x:=⟨_,aB Oo⟩;have et:es.take (n+1)=es.take n++[e]:=by rw [fT,he];rfl
  rw [et,kR];have h1:=ih Oo d;have h2:=ih Oo e.1;have h3:=bG (bG h2 (R.nn e (aG he))) (RX F e.1 d);grind
def zH.nnf(R:zH F es)(d:Ae):0<=cC F es d:=by
 have:=R.fnn es.length (aI _) d
 rwa [cP] at this
def zH.pos(R:zH F es):∀(k:Nat) (d:Ae),d∈es.map (·.1)->d.sum<=k->0<cC F es d:=by
 have eqd:∀d∈es.map (·.1),cC F es d=(if d=List.replicate F 0 then 1 else 0)+dY es λe=>cC F es e.1*s0 e*qM F e.1 d:=λd hd=>by
  have h:=R.all λx=>if d=x then 1 else 0
  have h1:=uR R.nd hd (cC F es);have e1:dY es (λx=>cC F es x.1*(if d=x.1 then 1 else 0))=cC F es d:=by rw [<-h1];exact fJ λx _=>Rat.mul_comm _ _
  rw [<-e1,h];congr 1;exact fJ λe _=>by
   congr 1;unfold qM;exact dH λf _=>by
    by_cases q:d=bQ e.1 f
    ·rw [if_pos q,if_pos q.symm]
    ·rw [if_neg q,if_neg λz=>q z.symm]
 have tn:∀d,∀e∈es,0<=cC F es e.1*s0 e*qM F e.1 d:=λd e he=>bG (bG (R.nnf _) (R.nn e he)) (RX F e.1 d);intro k
 induction k with
 | zero =>
  intro d hd hs;have hz:d=List.replicate F 0:=by
   refine bM λq=>?_;obtain ⟨e,he,_,f,hf,rfl⟩:=R.bwd d hd q;rw [hZ (by rw [R.len e he];exact hf)] at hs;exact Oo
  rw [eqd d hd,if_pos hz];have:=wM (tn d);grind
 | succ k ih =>
  intro d hd hs;by_cases hz:d=List.replicate F 0
  ·rw [eqd d hd,if_pos hz];have:=wM (tn d);grind
  ·obtain ⟨e,he,h0,f,hf,rfl⟩:=R.bwd d hd hz;have bs:=hZ (c:=e.1) (j:=f) (by rw [R.len e he];exact hf);have hA:=ih e.1 (aX.mpr ⟨e,he,rfl⟩) Oo;have hs0:0<s0 e:=by have:=R.nn e he;grind
   have hh:1<=qM F e.1 (bQ e.1 f):=by
    unfold qM;have h1:=zP (n:=F) (f:=λi=>if i=f then 1 else 0) (g:=λi=>if bQ e.1 i=bQ e.1 f then 1 else 0) λi _=>by
     by_cases q:i=f
     ·subst q;rw [if_pos rfl,if_pos rfl];exact Rat.le_refl
     ·rw [if_neg q];split <;> grind
    have h2:=xC (n:=F) (λi=>if i=f then (1:Rat) else 0) hf;have h3:cM F (λi=>if i=f then 0 else if i=f then (1:Rat) else 0)=0:=by
     rw [dH (g:=λ_=>0) λi _=>?_,mK];by_cases q:i=f
     ·rw [if_pos q]
     ·rw [if_neg q,if_neg q]
    rw [if_pos rfl,h3] at h2;grind
   have one:0<cC F es e.1*s0 e*qM F e.1 (bQ e.1 f):=Rat.mul_pos (Rat.mul_pos hA hs0) (by grind);rw [eqd _ hd,if_neg hz];have:cC F es e.1*s0 e*qM F e.1 (bQ e.1 f)<=dY es λe'=>cC F es e'.1*s0 e' * qM F e'.1 (bQ e.1 f):=by
    obtain ⟨l1,l2,rfl⟩:=List.append_of_mem he;rw [EK,gE];have n1:=wM (l:=l1) λx hx=>tn (bQ e.1 f) x (bY _ hx);have n2:=wM (l:=l2) λx hx=>tn (bQ e.1 f) x (aO _ (aT _ hx));grind
   grind
def zH.posf(R:zH F es){e:fV}(h:e∈es):0<cC F es e.1:=R.pos _ e.1 (aX.mpr ⟨e,h,rfl⟩) (aI _)
def Qn.one'(N:Nat):Qn N 1 1:=⟨N,by rw [vC];grind,by simp⟩
def zH.qn(R:zH F es){N:Nat}(hN:∀e∈es,Qn N 1 (s0 e))(f4:F<=4):∀n,n<=es.length->∀d,Qn (N^d.sum) (5^n) (cC F (es.take n) d):=by
 intro n
 induction n with
 | zero =>
  intro _ d;rw [List.take_zero,rH];split
  ·exact Qn.one' _
  ·exact Qn.zero _ _
 | succ n ih =>
  intro hn d;obtain ⟨e,he⟩:∃x,es[n]?=some x:=⟨_,aB Oo⟩;have et:es.take (n+1)=es.take n++[e]:=by rw [fT,he];rfl
  rw [et,kR];have h1:=ih Oo d;have hm:=aG he;have p5:5^(n+1)=5*5^n:=by rw [Nat.pow_succ];exact Oo
  by_cases hs:d.sum=e.1.sum+1
  ·have h2:=(ih Oo e.1).mul (hN e hm);have h3:Qn 1 4 (qM F e.1 d):=by
    have:=Qn.sumR (N:=1) (B:=1) (n:=F) (f:=λf=>if bQ e.1 f=d then 1 else 0) λf _=>by
     split
     ·exact Qn.one' _
     ·exact Qn.zero _ _
    exact this.le Oo
   have h4:=h2.mul h3;have h5:N^e.1.sum*N=N^d.sum:=by rw [hs,Nat.pow_succ]
   rw [Nat.mul_one,h5] at h4;exact (h1.add h4).le Oo
  ·rw [FT (R.len e hm) hs];have:cC F (es.take n) d+cC F (es.take n) e.1*s0 e*0=cC F (es.take n) d:=by grind
   rw [this];exact h1.le Oo
end
def pM(zs:List (Fr × Nat)):Rat:=zs.foldr (λz p=>rv z.1^z.2*p) 1
theorem JO:∀(zs:List (Fr × Nat)) (p:Fr),cY p->(∀z∈zs,cY z.1)->rv (zs.foldl (λp q=>jC p (uX q.1 q.2)) p)=rv p*pM zs
 | [],p,_,_=>by show rv p=rv p*1;grind
 | z::zs,p,hp,h=>by
  have hz:=h z (aS ..);have hw:=lG hz z.2;rw [List.foldl_cons,JO zs _ (gO hp hw) λy hy=>h y (aT _ hy),iH hp.pos hw.pos,HP hz];show _=rv p*(rv z.1^z.2*pM zs);grind
def wJ{fs:Ak}(h:∀f∈fs,cY f)(c:Ae):wq fs c=pM (fs.zip c):=by
 unfold wq jW;rw [JO _ _ RP λz hz=>h z.1 (List.of_mem_zip (a:=z.1) (b:=z.2) hz).1];show rv (1,1)*_=_;rw [sD];grind
theorem zZ:∀(fs:Ak) (c:Ae) (j:Nat),j<fs.length->fs.length=c.length->pM (fs.zip (bQ c j))=pM (fs.zip c)*dG fs j
 | [],c,j,h,_=>by simp at h
 | f::fs,[],j,_,h=>by simp at h
 | f::fs,n::c,0,_,_=>by
  show rv f^(n+1)*pM (fs.zip c)=(rv f^n*pM (fs.zip c))*rv f;rw [Rat.pow_succ];grind
 | f::fs,n::c,j+1,hj,hl=>by
  have ih:=zZ fs c j (by simpa using hj) (by simpa using hl);have e:bQ (n::c) (j+1)=n::bQ c j:=by unfold bQ;rw [List.set_cons_succ];rfl
  have ev:dG (f::fs) (j+1)=dG fs j:=rfl;rw [e,ev,List.zip_cons_cons,List.zip_cons_cons];show rv f^n*pM (fs.zip (bQ c j))=(rv f^n*pM (fs.zip c))*dG fs j;rw [ih];grind
theorem zY:∀(fs:Ak) (n:Nat),pM (fs.zip (List.replicate n 0))=1
 | [],n=>by rfl
 | f::fs,0=>by rfl
 | f::fs,n+1=>by
  rw [List.replicate_succ,List.zip_cons_cons];show rv f^0*pM (fs.zip (List.replicate n 0))=1;rw [zY fs n,Rat.pow_zero];grind
def UT(fs:Ak):oW (fs.map rv)=cM fs.length (dG fs):=by
 unfold cM;congr 1;refine List.ext_getElem? λi=>?_;rw [aL,aL];by_cases hi:i<fs.length
 ·rw [cN hi,aB hi];show some _=some (dG fs i);unfold dG;rw [bH,aB hi];rfl
 ·rw [eK Oo,eK (by rw [bA];exact Oo)];rfl
def aAc{fs:Ak}(h:∀f∈fs,cY f)(h1:oW (fs.map rv)=1){c:Ae}(hc:c.length=fs.length):wq fs c=cM fs.length λf=>wq fs (bQ c f):=by
 rw [wJ h];rw [dH (g:=λf=>pM (fs.zip c)*dG fs f) λf hf=>by rw [wJ h,zZ fs c f hf hc.symm]];rw [kE,<-UT,h1];grind
def UH{fs:Ak}(h:∀f∈fs,cY f)(n:Nat):wq fs (List.replicate n 0)=1:=by rw [wJ h,zY]
section
variable{F W M:Nat}{es:List fV}{q:Nat->Ae->Rat}{mix ps cs:Nat->Rat}
def kL(F:Nat)(es:List fV)(q:Ae->Rat)(w:Nat):Rat:=dY es λe=>cC F es e.1*q e.1*dG e.2 (1+w)
def xD(F:Nat)(es:List fV)(q:Ae->Rat)(cs:Nat->Rat):Rat:=dY es λe=>cs e.1.sum*(cC F es e.1*q e.1*s0 e)
def rX(F W:Nat)(es:List fV)(q:Nat->Ae->Rat)(mix cs:Nat->Rat):Rat:=cM W λw=>mix w*xD F es (q w) cs
def xP(F W:Nat)(es:List fV)(q:Nat->Ae->Rat)(mix ps cs:Nat->Rat):Rat:=rX F W es q mix cs+cM W λw=>ps w*(1-kL F es (q w) w)
def zH.stops(R:zH F es){q:Ae->Rat}(h0:q (List.replicate F 0)=1)(h1:∀c,c.length=F->q c=cM F λf=>q (bQ c f)):dY es (λe=>cC F es e.1*q e.1*(1-s0 e))=1:=by
 have h:=R.all q;rw [h0] at h;have e:dY es (λe=>cC F es e.1*s0 e*cM F λf=>q (bQ e.1 f))=dY es λe=>cC F es e.1*q e.1*s0 e:=fJ λe he=>by rw [<-h1 e.1 (R.len e he)];grind
 rw [e] at h;have e2:dY es (λe=>cC F es e.1*q e.1*(1-s0 e))+dY es (λe=>cC F es e.1*q e.1*s0 e)=dY es (λx=>cC F es x.1*q x.1):=by
  rw [<-pS];exact fJ λe _=>by grind
 grind
end
end Mf
namespace Mf
section
variable{F W:Nat}{es:List fV}{q:Nat->Ae->Rat}{mix ps cs:Nat->Rat}
def EI{n v:Nat}{f:Nat->Rat}(hv:v<n)(h:∀i,i<n->i≠v->f i=0):cM n f=f v:=by
 have h2:=xC (n:=n) f hv;have h3:cM n (λi=>if i=v then 0 else f i)=0:=by
  rw [dH (g:=λ_=>0) λi hi=>?_,mK];by_cases e:i=v
  ·rw [if_pos e]
  ·rw [if_neg e,h i hi e]
 rw [h3] at h2;grind
def UB(F W:Nat)(q:Nat->Ae->Rat)(mix ps cs:Nat->Rat)(V:Ae->Rat)(e:fV):Prop :=
 (s0 e=1/\(∀v,v<W->dG e.2 (1+v)=0)/\V e.1=cs e.1.sum*cM W (λv=>mix v*q v e.1)+cM F (λf=>V (bQ e.1 f))) \/
 ∃v,v<W/\s0 e=0/\dG e.2 (1+v)=1/\(∀u,u<W->u≠v->dG e.2 (1+u)=0)/\V e.1=cM W (λw=>ps w*q w e.1)-ps v*q v e.1
def QV(R:zH F es)(V:Ae->Rat)(h0:∀w,w<W->q w (List.replicate F 0)=1)(h1:∀w,w<W->∀c,c.length=F->q w c=cM F λf=>q w (bQ c f))
  (hb:∀e∈es,UB F W q mix ps cs V e):V (List.replicate F 0)=xP F W es q mix ps cs:=by
 have one:∀e∈es,V e.1=s0 e*(cs e.1.sum*cM W (λv=>mix v*q v e.1))+s0 e*cM F (λf=>V (bQ e.1 f))+((1-s0 e)*cM W (λw=>ps w*q w e.1)-cM W λv=>dG e.2 (1+v)*(ps v*q v e.1)):=by
  intro e he;rcases hb e he with ⟨a,b,c⟩ | ⟨v,hv,a,b,d,c⟩
  ·have e0:cM W (λv=>dG e.2 (1+v)*(ps v*q v e.1))=0:=by
    rw [dH (g:=λ_=>0) λi hi=>by rw [b i hi];grind,mK]
   rw [e0,a,c];grind
  ·have e0:cM W (λv=>dG e.2 (1+v)*(ps v*q v e.1))=ps v*q v e.1:=by
    rw [EI hv λi hi hn=>by rw [d i hi hn];grind,b];grind
   rw [e0,a,c];grind
 have all:=R.all V;have sum1:dY es (λx=>cC F es x.1*V x.1)=dY es (λe=>cC F es e.1*(s0 e*(cs e.1.sum*cM W (λv=>mix v*q v e.1))+s0 e*cM F (λf=>V (bQ e.1 f))+((1-s0 e)*cM W (λw=>ps w*q w e.1)-cM W λv=>dG e.2 (1+v)*(ps v*q v e.1)))):=fJ λe he=>by rw [<-one e he]
 rw [all] at sum1;have split:dY es (λe=>cC F es e.1*(s0 e*(cs e.1.sum*cM W (λv=>mix v*q v e.1))+s0 e*cM F (λf=>V (bQ e.1 f))+((1-s0 e)*cM W (λw=>ps w*q w e.1)-cM W λv=>dG e.2 (1+v)*(ps v*q v e.1)))) =
   rX F W es q mix cs+dY es (λe=>cC F es e.1*s0 e*cM F λf=>V (bQ e.1 f))+cM W (λw=>ps w*(1-kL F es (q w) w)):=by
  have c1:rX F W es q mix cs=dY es λe=>cC F es e.1*(s0 e*(cs e.1.sum*cM W (λv=>mix v*q v e.1))):=by
   unfold rX xD;rw [dH (g:=λw=>dY es λe=>mix w*(cs e.1.sum*(cC F es e.1*q w e.1*s0 e))) λw _=>(sV _ _ _).symm,<-qZ];refine fJ λe _=>?_;rw [<-kE,<-kE,<-kE];exact dH λw _=>by grind
  have c2:cM W (λw=>ps w*(1-kL F es (q w) w))=dY es λe=>cC F es e.1*((1-s0 e)*cM W (λw=>ps w*q w e.1)-cM W λv=>dG e.2 (1+v)*(ps v*q v e.1)):=by
   have k:∀w,w<W->ps w*(1-kL F es (q w) w)=dY es λe=>ps w*(cC F es e.1*q w e.1*(1-s0 e)-cC F es e.1*q w e.1*dG e.2 (1+w)):=λw hw=>by
    rw [sV];congr 1;have h:=R.stops (h0 w hw) (h1 w hw);have h2:dY es (λe=>cC F es e.1*q w e.1*(1-s0 e)-cC F es e.1*q w e.1*dG e.2 (1+w))+kL F es (q w) w=dY es (λe=>cC F es e.1*q w e.1*(1-s0 e)):=by
     unfold kL;rw [<-pS];exact fJ λe _=>by grind
    grind
   rw [dH k,<-qZ];refine fJ λe _=>?_;have a1:(1-s0 e)*cM W (λw=>ps w*q w e.1)=cM W λw=>(1-s0 e)*(ps w*q w e.1):=(kE _ _ _).symm;have a2:cM W (λw=>(1-s0 e)*(ps w*q w e.1)-dG e.2 (1+w)*(ps w*q w e.1))+cM W (λv=>dG e.2 (1+v)*(ps v*q v e.1))=cM W λw=>(1-s0 e)*(ps w*q w e.1):=by
    rw [<-EJ];exact dH λw _=>by grind
   have a3:(1-s0 e)*cM W (λw=>ps w*q w e.1)-cM W (λv=>dG e.2 (1+v)*(ps v*q v e.1))=cM W (λw=>(1-s0 e)*(ps w*q w e.1)-dG e.2 (1+w)*(ps w*q w e.1)):=by rw [a1];grind
   rw [a3,<-kE];exact dH λw _=>by grind
  rw [c1,c2,<-pS,<-pS];exact fJ λe _=>by grind
 rw [split] at sum1;unfold xP;grind
end
end Mf
namespace Mf
end Mf
namespace Kw
open PySem L2 Mf
def top(i:Nat):Stmt:=PySem.Challenge.pw_earlystop_k49_best_by_bounds.main.body.getD i (.Pass ⟨0,0,0,0⟩)
structure Cl where
 ONE:Addr
 NOUGHT:Addr
 Weighing:Addr
 tok_LOOKS_ON:Tok
structure kX(K:Aa)(mg:Str->Option Value)(c:Cl):Prop where
 b_list:mg "list" = none
 b_len:mg "len" = none
 b_abs:mg "abs" = none
 b_range:mg "range" = none
 b_sum:mg "sum" = none
 b_zip:mg "zip" = none
 b_reversed:mg "reversed" = none
 b_tuple:mg "tuple" = none
 b_repr:mg "repr" = none
 b_sorted:mg "sorted" = none
 b_int:mg "int" = none
 b_min:mg "min" = none
 b_isinstance:mg "isinstance" = none
 g_ONE:mg "ONE" = some (.ref c.ONE)
 g_NOUGHT:mg "NOUGHT" = some (.ref c.NOUGHT)
 g_LOOKS_ON:mg "LOOKS_ON" = some (.int 0 c.tok_LOOKS_ON)
 g_Weighing:mg "Weighing" = some (.ref c.Weighing)
 w_Weighing:Own K c.Weighing ["rising","units","weights","cost_unit","costs"]
 o_ONE:sJ K c.ONE [1,1]=true
 o_NOUGHT:sJ K c.NOUGHT [0,1]=true
abbrev sQ7:Stmt:=(top 39)
def cQ7:bZ ["_law_script"] ["_law_script"] (aY sQ7):=⟨rfl,rfl,rfl,Kk,rfl,Kk,Kk⟩
abbrev sQ6:Stmt:=(top 40)
def cQ6:bZ ["_law_feed_here","_law_many","_law_found","_law_at","_law_cells","_law_cell","_law_number"] ["_law_feed_here","_law_many"] (aY sQ6):=⟨rfl,rfl,rfl,Kk,rfl,Kk,Kk⟩
abbrev sQ8:Stmt:=(top 41)
def cQ8:bZ ["_law_n","_law_d","_law_one","_law_other"] ["_law_n","_law_d"] (aY sQ8):=⟨rfl,rfl,rfl,Kk,rfl,Kk,Kk⟩
abbrev aAM:Stmt:=(top 48)
def GJ:bZ ["_law_feed_here","_law_many","_law_whole","_law_found","_law_left","_law_k","_law_part","_law_at"] ["_law_feed_here","_law_many"] (aY aAM):=⟨rfl,rfl,rfl,Kk,rfl,Kk,Kk⟩
def FS{b:Bool}{A B:Prop}(h:b=true)(k:A):if b=true then A else B:=by rw [h,if_pos rfl];exact k
def pO{b:Bool}{A B:Prop}(h:b=false)(k:B):if b=true then A else B:=by rw [h,if_neg Dd];exact k
def PJ{K:Aa}{H H':Hp}{a:Addr}{xs:Al}(s:aU H H')(h:fI K H a xs):fI K H' a xs:=by
 rcases h with (h | ⟨o,h⟩) | h
 ·exact .inl (.inl (s _ _ h))
 ·exact .inl (.inr ⟨o,s _ _ h⟩)
 ·exact .inr h
theorem aQ.take{H:Hp}:∀{ds:List PyData}{vs:Al}(n:Nat),aQ H ds vs->aQ H (ds.take n) (vs.take n)
 | [],_,n,h=>by cases (show _=[] from h);rw [List.take_nil,List.take_nil];exact aQ.nil
 | d::ds,_,0,h=>aQ.nil
 | d::ds,_,n+1,h=>by
  unfold aQ at h;obtain ⟨x,xs,rfl,h1,h2⟩:=h;exact aQ.cons h1 (aQ.take n h2)
theorem aQ.drop{H:Hp}:∀{ds:List PyData}{vs:Al}(n:Nat),aQ H ds vs->aQ H (ds.drop n) (vs.drop n)
 | [],_,n,h=>by cases (show _=[] from h);rw [List.drop_nil,List.drop_nil];exact aQ.nil
 | d::ds,_,0,h=>h
 | d::ds,_,n+1,h=>by
  unfold aQ at h;obtain ⟨x,xs,rfl,h1,h2⟩:=h;exact aQ.drop n h2
def LK(n:Nat)(d:PyData):Prop:=PyData.canLay0 d=true/\PyData.depth d<=n
theorem LK.all{n:Nat}:∀{ds:List PyData},(∀d∈ds,LK n d)->PyData.canLayAll0 ds=true/\PyData.depthAll ds<=n
 | [],_=>⟨rfl,cG _⟩
 | d::ds,h=>by
  obtain ⟨h1,h2⟩:=h d (aS ..);obtain ⟨h3,h4⟩:=LK.all λe he=>h e (aT _ he);refine ⟨?_,?_⟩
  ·show (PyData.canLay0 d&&PyData.canLayAll0 ds)=true;rw [h1,h3];rfl
  ·show max (PyData.depth d) (PyData.depthAll ds)<=n;exact Oo
def LK.lst{n:Nat}{ds:List PyData}(h:∀d∈ds,LK n d):LK (n+1) (.list ds):=⟨(LK.all h).1,by have:=(LK.all h).2;show PyData.depthAll ds+1<=n+1;omega⟩
theorem LK.int(i:Int):LK 1 (.int i):=⟨rfl,by simp [PyData.depth]⟩
def LK.ok{n:Nat}{d:PyData}(h:LK n d)(hn:n<=64:=by decide):SeqAt.shaped d=true:=by
 unfold SeqAt.shaped;rw [h.1,Bool.true_and];exact cL (by have:=h.2;exact Oo)
def aBQ{z:Int}(h:(10:Int)^Int.toNat 18<=z):0<=z:=Int.le_trans Dd h
abbrev fdD(L:Addr)(t l:Int):List (fE × V):=[(.inr "cells",.ref L),(.inr "at",.int t),(.inr "left",.int l)]
structure dQ(H:Hp)(p L:Addr)(n:Nat):Prop where
 ex:∃(ns:Af) (t l:Int),H p=some (.dK (fdD L t l))/\H L=some (.lst (ns.map V.int))/\ns.length<=63/\0<=l/\0<=t/\t+n<=1000000000000
def dQ.there{H:Hp}{p L:Addr}{n:Nat}(F:dQ H p L n):∃o,H p=some o:=by obtain ⟨ns,t,l,h,_⟩:=F.ex;exact ⟨_,h⟩
def dQ.ne{H:Hp}{p L q:Addr}{n:Nat}(F:dQ H p L n)(hq:H q=none):q≠p:=λe=>by
 subst e;obtain ⟨o,h⟩:=F.there;rw [h] at hq;cases hq
def dQ.neL{H:Hp}{p L q:Addr}{n:Nat}(F:dQ H p L n)(hq:H q=none):q≠L:=λe=>by
 subst e;obtain ⟨ns,t,l,h,h2,_⟩:=F.ex;rw [h2] at hq;cases hq
def dQ.same{H H':Hp}{p L:Addr}{n:Nat}(F:dQ H p L n)(s:aU H H'):dQ H' p L n:=by
 obtain ⟨ns,t,l,h1,h2,h3⟩:=F.ex;exact ⟨ns,t,l,s _ _ h1,s _ _ h2,h3⟩
def dQ.but{H H':Hp}{p L D:Addr}{n:Nat}(F:dQ H p L n)(s:aR D H H')(n1:D≠p)(n2:D≠L):dQ H' p L n:=by
 obtain ⟨ns,t,l,h1,h2,h3⟩:=F.ex;exact ⟨ns,t,l,s.at (Ne.symm n1) h1,s.at (Ne.symm n2) h2,h3⟩
def dQ.less{H:Hp}{p L:Addr}{n m:Nat}(F:dQ H p L n)(h:m<=n):dQ H p L m:=by
 obtain ⟨ns,t,l,e,e2,e3,l0,t0,r⟩:=F.ex;exact ⟨ns,t,l,e,e2,e3,l0,t0,Oo⟩
theorem dQ.t{H H':Hp}{p L:Addr}{n:Nat}(F:dQ H p L n)(s:aR p H H'):dA H H':=by
 obtain ⟨ns,t,l,h,_⟩:=F.ex;exact s.tD h
def dQ.like{p L:Addr}(f:Nat->Nat):IZ p L (λi H=>dQ H p L (f i)) :=
 ⟨λ_ D H1 H2 n1 n2 s F=>F.but s n1 n2,λ_ H1 H2 s F=>F.same s,λ_ H' F=>by obtain ⟨ns,t,l,h,_⟩:=F.ex;exact ⟨_,h⟩,λ_ H' D F h=>⟨F.ne h,F.neL h⟩⟩
@[irreducible] def tG(K:Aa):Sp:=λvs H Q _=>∃(a:Addr) (ns:Af),vs=[.ref a]/\fI K H a (ns.map V.int)/\ns.length<=63/\∀p L H',dQ H' p L 1000000000000->aU H H'->H p=none->H L=none->Q (.ref p) H'
def ME{K:Aa}{H:Hp}{Q:VK}{E:XK}{a:Addr}{ns:Af}(h:fI K H a (ns.map V.int))(hl:ns.length<=63)(k:∀p L H',dQ H' p L 1000000000000->aU H H'->H p=none->H L=none->Q (.ref p) H'):tG K [.ref a] H Q E:=by
 unfold tG;exact ⟨a,ns,rfl,h,hl,k⟩
@[irreducible] def lP:Sp:=λvs H Q _=>∃(p L:Addr) (n:Nat) (m:Int),vs=[.ref p,.int m]/\dQ H p L (n+1)/\0<m/\bits m<=64/\∀x H',0<=x->x<m->dQ H' p L n->aR p H H'->Q (.int x) H'
def eN(F:dQ H p L (n+1))(h:0<m)(hb:bits m<=64)(k:∀x H',0<=x->x<m->dQ H' p L n->aR p H H'->Q (.int x) H'):lP [.ref p,.int m] H Q E:=by
 unfold lP;exact ⟨p,L,n,m,rfl,F,h,hb,k⟩
def bitsle{i:Int}{n:Nat}(h:i.natAbs<2^n):bits i<=n:=PySem.intBits_le_iff.mpr h
@[irreducible] def uT(K:Aa):Sp:=λvs H Q _=>∃(a:Addr) (ns:Af),vs=[.ref a]/\fI K H a (ns.map V.int)/\ns.length<=63/\∀H',Q (.bl true) H'
def PQ{K:Aa}{H:Hp}{a:Addr}{ns:Af}(h:fI K H a (ns.map V.int))(hl:ns.length<=63):uT K [.ref a] H (λv _=>v=.bl true) (λ_ _ _=>False):=by
 unfold uT;exact ⟨a,ns,rfl,h,hl,λ_=>rfl⟩
theorem rN{H:Hp}:∀ns:Af,aQ H (ns.map PyData.int) (ns.map V.int)
 | []=>aQ.nil
 | n::ns=>aQ.cons (cE.int n) (rN ns)
def RW{ns:Af}:PyData.eqv (.list (ns.map PyData.int)) (.list [])=decide (ns=[]):=by
 cases ns <;> simp [PyData.eqv,PyData.eqvAll]
def qI(ns:Af):SeqAt.shaped (.list (ns.map PyData.int))=true:=(LK.lst (n:=1) λd hd=>by
 obtain ⟨i,_,rfl⟩:=aX.mp hd;exact LK.int i).ok
section
def oQ7(F:jP K "_law_feed" "_law_feed" sQ7 f fd)(T:kX K mg c):eC P w K mg base dR 1 f fd ["_law_script"] (tG K):=by
 refine F.oky cQ7 λvs H Q E h=>?_;unfold tG at h;obtain ⟨a,ns,rfl,hS,hl,k⟩:=h;refine ⟨rfl,λcdv A outer s hr=>?_⟩;refine ⟨_,(bD (cH (UO (wY iC (pK uA (by rfl) T.b_list Kk (aJ (jG JK (aD 0) lA (kZ aK)) aE)) (wY iC aK (wY iC aK UI)))))),?_⟩;intro p hp;have s0:=aU.upd (o:=.dK []) hp;have e0:(upd H p (.dK [])) p=some (.dK []):=bO;generalize upd H p (.dK [])=H0 at s0 e0;refine ⟨_,rfl,_,rfl,a,_,rfl,PJ s0 hS,λq1 h1=>?_⟩;refine ⟨q1,_,rfl,.inl (fI.of bO),λq2 h2=>?_⟩;have e1:lU (ns.map V.int) none (some 63)=ns.map V.int:=by
  unfold lU;have:HT.jB (ns.map V.int).length (ns.map V.int).length (some 63)=(ns.map V.int).length:=by
   rw [show ((63:Int))=((63:Nat):Int) from rfl,HT.BV,aA];exact Oo
  rw [this,HT.tN,List.drop_zero,Nat.sub_zero];exact List.take_of_length_le (aI _)
 have s2:=(aU.upd (o:=.lst (lU (ns.map V.int) none (some 63))) h1).trans (aU.upd (o:=.lst (lU (ns.map V.int) none (some 63))) h2);have e2:(upd (upd H0 q1 (.lst (lU (ns.map V.int) none (some 63)))) q2 (.lst (lU (ns.map V.int) none (some 63)))) q2=some (.lst (ns.map V.int)):=by rw [bO,e1]
 have f2:H0 q2=none:=(aU.upd h1).free h2;generalize upd (upd H0 q1 (.lst (lU (ns.map V.int) none (some 63)))) q2 (.lst (lU (ns.map V.int) none (some 63)))=H2 at s2 e2;have n2:q2≠p:=λz=>by rw [z,e0] at f2;cases f2
 refine ⟨s2 _ _ e0,fdD q2 0 0,rfl,by show 3<=15;decide,k p q2 _ ⟨ns,0,0,?_,?_,hl,Dd,Dd,Dd⟩ ?_ hp (s0.free f2)⟩
 ·rw [bO];rfl
 ·rw [L2.dC n2];exact e2
 ·intro b o h;have nb:b≠p:=λe=>by subst e;rw [hp] at h;cases h
  rw [L2.dC nb];exact s2 _ _ (s0 _ _ h)
def oQ6(F:jP K "_law_draw" "_law_draw" sQ6 f fd)(T:kX K mg c):eC P w K mg base dR 1 f fd ["_law_feed_here","_law_many"] lP:=by
 refine F.oky cQ6 λvs H Q E h=>?_;unfold lP at h;obtain ⟨p,L,n,m,rfl,F,hm,hb,k⟩:=h;refine ⟨rfl,λcdv A outer s hr=>?_⟩;obtain ⟨ns,t,l,hp,hL,hl,h0,h1,h2⟩:=F.ex;refine ⟨_,(aH (jF (eO AB (gH hr.u1 (aD 0) iC) aK (nomark _)) (aH (bN (i:=2) cQ6.nd rfl (Or.inl rfl) (bX mX (gH hr.u1 (aD 0) iC) (aD 1)))
  (aH (iL hr.u1 (aD 0) iC (bX fU (gH hr.u1 (aD 0) iC) (aD 1)))
  (bD (cH (aD 2))))) fK)
  (aH (bN (i:=3) cQ6.nd rfl (Or.inl rfl) (gH hr.u1 (aD 0) iC))
  (aH (iL hr.u1 (aD 0) iC (bX eB (aD 3) aK))
  (aH (bN (i:=4) cQ6.nd rfl (Or.inl rfl) (gH hr.u1 (aD 0) iC))
  (aH (GU (bN (i:=5) cQ6.nd rfl (Or.inl rfl) (ED (eO (HY hr.units) (aD 4) (iD aE) (nomark _)) (bP bK (aD 4) (bX mX (aD 3) (dX gG (by rfl) T.b_len Kk (aJ (aD 4) aE))) (λ_ _=>rfl)) (bX dU (aD 3) (aD 3)))))
  (aH (jF (sN (DZ (BB (eO aCN (aD 5) (bX aBj aK aK) (nomark _)) (wI (eO xR (aD 3) (dX gG (by rfl) T.b_len Kk (aJ (aD 4) aE)) (nomark _)))))) (aH (iL hr.u1 (aD 0) iC (bX fU (aD 5) (aD 1)))
  (bD (cH (bX mX (aD 5) (aD 1))))) fK)
  (aH (bN (i:=6) cQ6.nd rfl (Or.inl rfl) (bX mX (bX dU (bX eB (bX mX (aD 5) aK) aK) (bX eB aK (bX dU aK (aD 3)))) aK))
  (bD (cH (bX mX (bX fU (bX mX (bX eB (bX dU (aD 6) aK) (bX dU (bX dU (aD 3) (aD 3)) aK)) aK) aK) (aD 1))))))))))),?_⟩
 refine ⟨_,rfl,dgS hp rfl ?_⟩;refine ⟨_,_,rfl,rfl,_,rfl,sI (λe0=>?_) (λe0=>?_)⟩
 ·refine ⟨_,rfl,dgS hp rfl ?_⟩;refine ⟨_,rfl,_,_,rfl,rfl,hm,⟨_,rfl,dgS hp rfl ?_⟩⟩;refine ⟨_,rfl,_,_,rfl,rfl,⟨hm,aM hb Dd⟩,⟨_,rfl,?_⟩⟩;refine dpS (kvs2:=fdD L t (l/m)) hp (by show 3<=64;decide) rfl λH2 hp2 s2=>?_;have nL:L≠p:=λz=>by rw [z,hp] at hL;cases hL
  exact ⟨_,rfl,k _ H2 (Int.emod_nonneg _ Oo) (Int.emod_lt_of_pos _ hm) ⟨ns,t,l/m,hp2,s2.at nL hL,hl,Int.ediv_nonneg h0 Oo,Oo,Oo⟩ s2⟩
 ·have nL:L≠p:=λz=>by rw [z,hp] at hL;cases hL
  refine ⟨_,rfl,dgS hp rfl ?_⟩;refine ⟨_,rfl,_,_,rfl,rfl,_,rfl,?_⟩;refine dpS (kvs2:=fdD L (t+1) l) hp (by show 3<=64;decide) rfl λH1 hp1 s1=>?_;have hL1:=s1.at nL hL;refine ⟨_,rfl,dgS hp1 rfl ?_⟩;have bt:bits t<=64:=PySem.intBits_le_64 Oo Oo;have bt':bits (7919:Int)<=64:=Kk;have F2:∀{H3:Hp},aU H1 H3->dQ H3 p L n:=λs3=>⟨ns,t+1,l,s3 _ _ hp1,s3 _ _ hL1,hl,h0,Oo,Oo⟩;refine ⟨λσ H3=>∃cc:Int,σ=[some (.ref p),some (.int m),none,some (.int t),some (.ref L),some (.int cc),none]/\aU H1 H3,?_,?_⟩
  ·rintro σ H3 ⟨cc,rfl,s3⟩;have e3p:=s3 _ _ hp1;have e3L:=s3 _ _ hL1;refine ⟨λb H4=>H4=H3/\(b=true->0<=cc),?_,?_⟩
   ·refine ⟨_,rfl,_,_,rfl,rfl,⟨Dd,Dd,Dd⟩,_,_,rfl,rfl,_,rfl,sI (λe1=>?_) (λe1=>?_)⟩
    ·refine ⟨_,rfl,_,rfl,QH e3L ?_⟩;exact ⟨_,_,rfl,rfl,_,rfl,rfl,λ_=>aBQ e1⟩
    ·exact ⟨rfl,λh=>by cases h⟩
   ·rintro b H4 ⟨rfl,hcc⟩;cases b with
    | true =>
     have hcc:=hcc rfl;refine XJ ⟨_,rfl,_,rfl,_,_,rfl,rfl,⟨hm,aM hb Dd⟩,⟨_,rfl,?_⟩⟩;refine dpS (kvs2:=fdD L (t+1) (cc/m)) e3p (by show 3<=64;decide) rfl λH5 hp5 s5=>⟨_,rfl,_,rfl,_,_,rfl,rfl,hm,?_⟩;exact k _ H5 (Int.emod_nonneg _ Oo) (Int.emod_lt_of_pos _ hm) ⟨ns,t+1,cc/m,hp5,s5.at nL e3L,hl,Int.ediv_nonneg hcc Oo,Oo,Oo⟩ ((s1.trans s3.but).trans s5)
    | false =>
     refine NB ?_;have c0:=Int.emod_nonneg cc (b:=2147483629) Dd;have c1:=Int.emod_lt_of_pos cc (b:=2147483629) Dd;refine ⟨_,rfl,_,_,rfl,rfl,(by show (0:Int)<2147483629;decide),_,_,rfl,rfl,_,rfl,_,_,rfl,rfl,IntMulOk.of_left bt',_,_,rfl,rfl,_,_,rfl,rfl,IntMulOk.of_left (PySem.intBits_le_64 Oo Oo),_,_,rfl,rfl,(by show (0:Int)<2147483647;decide),?_⟩;generalize (cc % 2147483629+1)*(48271+7919*t) % 2147483647=z;exact ⟨_,rfl,_,_,rfl,rfl,IntMulOk.of_right Kk,_,rfl,_,rfl,_,_,rfl,rfl,IntMulOk.of_left bt,_,_,rfl,rfl,IntMulOk.of_right Kk,_,_,rfl,rfl,_,_,rfl,rfl,(by show (0:Int)<2147483399;decide),_,_,rfl,rfl,⟨Dd,Kk⟩,_,rfl,_,_,rfl,rfl,hm,k _ H4 (Int.emod_nonneg _ Oo) (Int.emod_lt_of_pos _ hm) (F2 s3) (s1.trans s3.but)⟩
  ·refine ⟨_,rfl,?_⟩;refine CI (by show 0<=64;decide) λq2 H2 hq2 e2 s2=>reD (d:=.list (ns.map PyData.int)) (d':=.list []) (cE.lst (s2 _ _ hL1) (rN ns)) (cE.lst e2 aQ.nil) (qI ns) rfl ?_;rw [RW];refine ⟨_,rfl,?_⟩;by_cases ens:ns=[]
   ·exact pO (by rw [cL ens];rfl) ⟨_,rfl,_,rfl,_,_,rfl,rfl,IntMulOk.of_left bt,⟨_,rfl,s2⟩⟩
   ·refine FS (by rw [cJ ens];rfl) ?_;have lp:0<ns.length:=List.length_pos_iff.mpr ens;refine ⟨_,rfl,_,rfl,_,rfl,QH (s2 _ _ hL1) ?_⟩;rw [aA];refine ⟨_,_,rfl,rfl,Oo,?_⟩;have g0:=Int.emod_nonneg t (b:=(ns.length:Int)) Oo;have g1:=Int.emod_lt_of_pos t (b:=(ns.length:Int)) Oo;have hj:∃z,ns[(t % (ns.length:Int)).toNat]?=some z:=⟨_,aB Oo⟩;obtain ⟨z,hz⟩:=hj;have hat:yT (ns.map V.int) (t % (ns.length:Int))=some (.int z):=by
     have:=cV (xs:=ns.map V.int) (j:=(t % (ns.length:Int)).toNat) (v:=V.int z) (by rw [aL,hz];rfl)
     rwa [Int.toNat_of_nonneg g0] at this
    exact FR (s2 _ _ hL1) hat ⟨_,rfl,s2⟩
end
abbrev gF(f:Fr):PyData:=.tuple [.int f.1,.int f.2]
def aBC{H:Hp}{f:Fr}{v:V}(h:cE H (gF f) v):∃a,v=.ref a/\H a=some (.tup [.int f.1,.int f.2]):=by
 unfold cE aQ aQ aQ at h;obtain ⟨a,_,rfl,h1,x,_,rfl,r1,y,_,rfl,r2,rfl⟩:=h;cases (show x=V.int f.1 from r1);cases (show y=V.int f.2 from r2);exact ⟨a,rfl,h1⟩
def dJ{H:Hp}{f:Fr}{a:Addr}(h:H a=some (.tup [.int f.1,.int f.2])):cE H (gF f) (.ref a):=cE.tup h (aQ.cons (cE.int _) (aQ.cons (cE.int _) aQ.nil))
def cT(f:Fr):fO (gF f)=true:=rfl
def gU(K:Aa)(H:Hp)(f:Fr)(x:V):Prop:=∃a,x=.ref a/\iJ K H a [.int f.1,.int f.2]
theorem gU.of{K:Aa}{H:Hp}{f:Fr}{x:V}(h:cE H (gF f) x):gU K H f x:=by
 obtain ⟨a,e,h⟩:=aBC h;exact ⟨a,e,iJ.of h⟩
def gU.new{K:Aa}{H:Hp}{f:Fr}{a:Addr}(h:H a=some (.tup [.int f.1,.int f.2])):gU K H f (.ref a):=⟨a,rfl,iJ.of h⟩
def gU.same{K:Aa}{H H':Hp}{f:Fr}{x:V}(s:aU H H')(h:gU K H f x):gU K H' f x:=by
 obtain ⟨a,e,h⟩:=h;exact ⟨a,e,h.keep s⟩
def nG(k:Nat)(f:Fr):Prop:=f.1.natAbs<2^k/\f.2.natAbs<2^k
@[irreducible] def xG:Sp:=λvs H Q _=>∃n d:Int,vs=[.int n,.int d]/\0<d/\Q (.int (Int.gcd n d)) H
def tJ(h:0<d)(q:Q (.int (Int.gcd n d)) H):xG [.int n,.int d] H Q E:=by unfold xG;exact ⟨n,d,rfl,h,q⟩
def uH(H:Hp)(Q:VK)(f:Fr):Prop:=∀q H',H q=none->H' q=some (.tup [.int f.1,.int f.2])->aU H H'->Q (.ref q) H'
@[irreducible] def sW(K:Aa):Sp:=λvs H Q _=>∃x y f g,vs=[x,y]/\gU K H f x/\gU K H g y/\cY f/\cY g/\nG 4000 f/\nG 4000 g/\uH H Q (qS f g)
def MA{K:Aa}(h1:gU K H f x)(h2:gU K H g y)(l1:cY f)(l2:cY g)(z1:nG 4000 f)(z2:nG 4000 g)(q:uH H Q (qS f g)):sW K [x,y] H Q E:=by unfold sW;exact ⟨x,y,f,g,rfl,h1,h2,l1,l2,z1,z2,q⟩
@[irreducible] def rD(K:Aa):Sp:=λvs H Q _=>∃x y f g,vs=[x,y]/\gU K H f x/\gU K H g y/\nG 4000 f/\nG 4000 g/\Q (.bl (decide (f.1*g.2<g.1*f.2))) H
def zS{K:Aa}(h1:gU K H f x)(h2:gU K H g y)(z1:nG 4000 f)(z2:nG 4000 g)(q:Q (.bl (decide (f.1*g.2<g.1*f.2))) H):rD K [x,y] H Q E:=by unfold rD;exact ⟨x,y,f,g,rfl,h1,h2,z1,z2,q⟩
def aBy{n d:Int}(h:0<d):(Int.gcd n d:Int)<=d:=Int.le_of_dvd h (Int.gcd_dvd_right n d)
def yC{n d:Int}{k:Nat}(h:0<d)(z:d.natAbs<2^k):(Int.gcd n d:Int).natAbs<2^k:=by
 have:=aBy (n:=n) h;have:=jT (n:=n) h;exact Oo
def qO{n d:Int}(h:0<d)(z:d.natAbs<2^9000):UA n d:=⟨h,DE z⟩
def jR{i:Int}{n m:Nat}(h:i.natAbs<2^n)(k:n<=m:=by decide):i.natAbs<2^m:=aN h (aP Dd k)
def oV{i j:Int}{n:Nat}(h:i.natAbs<2^n)(hj:0<j):(i/j).natAbs<2^n:=bC (by
 have:=Int.natAbs_ediv_le_natAbs i j;exact this) h
def xB{i j:Int}{n m:Nat}(h1:i.natAbs<2^n)(h2:j.natAbs<2^m):(i*j).natAbs<2^(n+m):=by
 rw [fF,Nat.pow_add];exact Nat.mul_lt_mul'' h1 h2
abbrev pP(fs:Ak):PyData:=.tuple (fs.map gF)
theorem lH:∀fs:Ak,fY (fs.map gF)=true
 | []=>rfl
 | f::fs=>by show (fO (gF f)&&fY (fs.map gF))=true;rw [lH fs];rfl
def kF(fs:Ak):fO (pP fs)=true:=lH fs
@[irreducible] def jJ:Sp:=λvs H Q _=>∃n d:Int,vs=[.int n,.int d]/\0<d/\d.natAbs<2^9000/\uH H Q (lw n d)
def iR(h:0<d)(z:d.natAbs<2^9000)(q:uH H Q (lw n d)):jJ [.int n,.int d] H Q E:=by unfold jJ;exact ⟨n,d,rfl,h,z,q⟩
section
def oQ8(F:jP K "_law_frac" "_law_frac" sQ8 f fd)(T:kX K mg c):eC P w K mg base dR 1 f fd ["_law_n","_law_d"] jJ:=by
 refine F.oky cQ8 λvs H Q E h=>?_;unfold jJ at h;obtain ⟨n,d,rfl,hd,hz,q⟩:=h;refine ⟨rfl,λcdv A outer s hr=>?_⟩;refine ⟨_,(aH (bN (i:=2) cQ8.nd rfl (Or.inl rfl) (dX aBJ (by rfl) T.b_abs Kk (aJ (aD 0) aE)))
  (aH (bN (i:=3) cQ8.nd rfl (Or.inl rfl) (aD 1))
  (aH (sO PassesOwn.never (eO AB (aD 3) aK (nomark _)) (bD (aAb (i:=2) (j:=3) rfl cQ8.nd rfl rfl Dd rfl rfl (aJ (aD 3) (aJ (bX mX (aD 2) (aD 3)) aE)) rfl)))
  (bD (cH (dI (aJ (bX fU (aD 0) (aD 2)) (aJ (bX fU (aD 1) (aD 2)) aE)))))))),?_⟩
 refine ⟨_,rfl,raI ?_⟩;refine ⟨_,rfl,?_⟩;refine wK (λm σ H'=>∃(u v:Int),σ=[some (.int n),some (.int d),some (.int u),some (.int v)]/\0<=v/\Int.gcd u v=Int.gcd n d/\(v=0->0<u)/\H'=H/\m=v.toNat)
  (λσ H'=>σ=[some (.int n),some (.int d),some (.int (Int.gcd n d)),some (.int 0)]/\H'=H)
  _ ⟨(n.natAbs:Int),d,rfl,Oo,by rw [Int.gcd_eq_natAbs_gcd_natAbs,Int.gcd_eq_natAbs_gcd_natAbs,Int.natAbs_natCast],Oo,rfl,rfl⟩ ?_ ?_
 ·rintro m σ H2 ⟨u,v,rfl,hb,hg,h0,rfl,rfl⟩;refine ⟨_,rfl,_,_,rfl,rfl,_,rfl,sI (λe=>?_) (λe=>?_)⟩
  ·refine ⟨_,rfl,_,rfl,_,rfl,_,_,rfl,rfl,e,_,_,rfl,?_⟩;have e1:=Int.emod_lt_of_pos u e;have e2:=Int.emod_nonneg u (b:=v) Oo;exact ⟨_,Oo,v,u % v,rfl,e2,by rw [FU,hg],λ_=>e,rfl,rfl⟩
  ·have hb0:v=0:=Oo;subst hb0;have hu:=h0 rfl;have e1:=KI hu;rw [hg] at e1;rw [e1];exact ⟨rfl,rfl⟩
 ·rintro σ H2 ⟨rfl,rfl⟩;have hg:=jT (n:=n) hd;have zg:UA n (Int.gcd n d:Int):=qO hg (yC hd hz);refine ⟨_,rfl,_,rfl,_,_,rfl,rfl,zg,⟨_,rfl,_,rfl,_,_,rfl,rfl,zg,?_⟩⟩;exact nZ (by show 2<=64;decide) λp H3 hp e3 s3=>q p H3 hp e3 s3
end
def iF:Nat:=2512440
structure DR(m:Nat)(fs:Ak):Prop where
 ex:∃(ps:Af) (W:Int),ps.length=m/\(∀x∈ps,0<=x/\x<=W)/\ps.sum=W/\0<W/\W<=997/\W.natAbs ∣ iF/\fs=ps.map λx=>lw x W
def DR.len{m:Nat}{fs:Ak}(h:DR m fs):fs.length=m:=by
 obtain ⟨ps,W,h1,_,_,_,_,_,rfl⟩:=h.ex;rw [aA,h1]
def DR.at{m:Nat}{fs:Ak}(h:DR m fs):∀f∈fs,Fn iF 1 f/\0<=f.1:=by
 obtain ⟨ps,W,h1,h2,_,h4,h5,h6,rfl⟩:=h.ex;intro f hf;obtain ⟨x,hx,rfl⟩:=aX.mp hf;have:=h2 x hx;exact ⟨(Fn.of h4 Oo).dvd h6,Int.ediv_nonneg this.1 (Int.natCast_nonneg _)⟩
def DR.bits{m:Nat}{fs:Ak}(h:DR m fs):∀f∈fs,f.1.natAbs<=997/\f.2.natAbs<=997:=by
 obtain ⟨ps,W,h1,h2,_,h4,h5,h6,rfl⟩:=h.ex;intro f hf;obtain ⟨x,hx,rfl⟩:=aX.mp hf;have:=h2 x hx;have q:=KC (n:=x) h4;have p:=(jD (n:=x) h4).pos;exact Oo
def VB:∀x:Nat,1<=x->x<=10->x ∣ iF:=by
 intro x h1 h2;have:∀x,x<=10->1<=x->x ∣ iF:=by unfold iF;decide
 exact this x h2 h1
def MH{W:Int}(h:(1<=W/\W<=10)\/W=997):W.natAbs ∣ iF:=by
 rcases h with h | rfl
 ·exact VB _ Oo Oo
 ·show 997 ∣ 2512440;decide
@[irreducible] def mD:Sp:=λvs H Q _=>∃(p L:Addr) (n m:Nat),vs=[.ref p,.int (m:Int)]/\dQ H p L (n+12)/\0<m/\m<=5/\∀v fs H',dQ H' p L n->aR p H H'->cE H' (pP fs) v->DR m fs->Q v H'
def vU(F:dQ H p L (n+12))(m0:0<m)(m5:m<=5)(k:∀v fs H',dQ H' p L n->aR p H H'->cE H' (pP fs) v->DR m fs->Q v H'):mD [.ref p,.int (m:Int)] H Q E:=by
 unfold mD;exact ⟨p,L,n,m,rfl,F,m0,m5,k⟩
def VP(l:Af)(a:Nat):(l.drop a++l.take a).sum=l.sum:=by
 rw [List.sum_append,Int.add_comm,<-List.sum_append,List.take_append_drop]
section
def aEe(F:jP K "_law_shares" "_law_shares" aAM f fd)(T:kX K mg c)
  (FQ6:gR dR P w K mg base 1 "_law_draw" ["_law_feed_here","_law_many"] lP) (FQ8:gR dR P w K mg base 1 "_law_frac" ["_law_n","_law_d"] jJ):eC P w K mg base dR 2 f fd ["_law_feed_here","_law_many"] mD:=by
 refine F.oky GJ λvs H Q E h=>?_;unfold mD at h;obtain ⟨p,L,n,m,rfl,F,m0,m5,k⟩:=h;refine ⟨rfl,λcdv A outer s hr=>?_⟩;refine ⟨_,(aH (bN (i:=2) GJ.nd rfl (Or.inl rfl) (bP bK (iD (aJ (bX eB aK (bV FQ6 (hr.mono Dd) (aJ (aD 0) (aJ aK aE)))) (aJ (bX eB aK (bV FQ6 (hr.mono Dd) (aJ (aD 0) (aJ aK aE)))) (aJ (bX eB aK (bV FQ6 (hr.mono Dd) (aJ (aD 0) (aJ aK aE)))) (aJ aK aE))))) (bV FQ6 (hr.mono Dd) (aJ (aD 0) (aJ aK aE))) (λ_ _=>rfl)))
  (aH (bN (i:=3) GJ.nd rfl (Or.inl rfl) (iD aE))
  (aH (bN (i:=4) GJ.nd rfl (Or.inl rfl) (aD 2))
  (aH (eY PassesOwn.never rfl (cS rfl T.b_range (aJ (bX vA (aD 1) aK) aE)) (cX (i:=5) GJ.nd rfl (Or.inl rfl)) (aH (bN (i:=6) GJ.nd rfl (Or.inl rfl) (bV FQ6 (hr.mono Dd) (aJ (aD 0) (aJ (bX eB (aD 4) aK) aE))))
  (aH (jQ (nJ PySem.F.plainAttrs_list PySem.F.slot_list_append PySem.F.type_list_append pB (aD 3) (aJ (bV FQ8 (hr.mono Dd) (aJ (aD 6) (aJ (aD 2) aE))) aE)))
  (bD (bN (i:=4) GJ.nd rfl (Or.inl rfl) (bX vA (aD 4) (aD 6)))))))
  (aH (jQ (nJ PySem.F.plainAttrs_list PySem.F.slot_list_append PySem.F.type_list_append pB (aD 3) (aJ (bV FQ8 (hr.mono Dd) (aJ (aD 4) (aJ (aD 2) aE))) aE)))
  (aH (bN (i:=7) GJ.nd rfl (Or.inl rfl) (bV FQ6 (hr.mono Dd) (aJ (aD 0) (aJ (aD 1) aE))))
  (bD (cH (pK fL (by rfl) T.b_tuple Kk (aJ (bX xS (jG (qG K) (aD 3) (kZ (aD 7)) lA) (jG (qG K) (aD 3) lA (kZ (aD 7)))) aE)))))))))),?_⟩
 refine ⟨_,rfl,?_⟩;refine eN (n:=n+11) F Dd Kk λx1 H1 a1 b1 F1 s1=>⟨_,_,rfl,rfl,_,rfl,?_⟩;refine eN (n:=n+10) F1 Dd Kk λx2 H2 a2 b2 F2 s2=>⟨_,_,rfl,rfl,_,rfl,?_⟩;refine eN (n:=n+9) F2 Dd Kk λx3 H3 a3 b3 F3 s3=>⟨_,_,rfl,rfl,?_⟩;refine CI (by show 4<=64;decide) λq4 H4 hq4 e4 s4=>⟨_,rfl,?_⟩;refine eN (n:=n+8) (F3.same s4) Dd Kk λx5 H5 a5 b5 F5 s5=>?_;have hW:∃W:Int,yT [V.int (1+x1),V.int (2+x2),V.int (2+x3),V.int 997] x5=some (.int W)/\((1<=W/\W<=10)\/W=997):=by
  have:x5=0\/x5=1\/x5=2\/x5=3:=Oo;rcases this with rfl | rfl | rfl | rfl
  ·exact ⟨_,rfl,.inl Oo⟩
  ·exact ⟨_,rfl,.inl Oo⟩
  ·exact ⟨_,rfl,.inl Oo⟩
  ·exact ⟨_,rfl,.inr rfl⟩
 obtain ⟨W,hat,hW⟩:=hW;refine FR (s5.at (F3.ne hq4) e4) hat ?_;have W0:0<W/\W<=997:=Oo;have b5:aR p H H5:=((((s1.trans s2).trans s3).trans s4.but).trans s5);clear s1 s2 s3 s4 s5 e4 hat F1 F2 F3;refine CI (by show 0<=64;decide) λD H6 hD e6 s6=>?_;have F6:=F5.same s6;have nD:=F5.ne hD;have nDL:=F5.neL hD;have hD0:H D=none:=aR.free b5 F5.there hD;refine ⟨_,rfl,_,rfl,_,_,rfl,rfl,((m-1:Nat):Int),by show [V.int ((m:Int)-1)]=_;rw [show ((m:Int)-1)=((m-1:Nat):Int) by omega],Oo,Oo,?_⟩;rw [Int.toNat_natCast];have wz:W.natAbs<2^9000:=aN (show W.natAbs<2^10 by show W.natAbs<1024;exact Oo) (aP Dd Dd);refine fS (λi σ H'=>∃(o5 o6 o7:Am) (ps:Af) (vs:Al) (left:Int),σ=[some (.ref p),some (.int (m:Int)),some (.int W),some (.ref D),some (.int left),o5,o6,o7]/\dQ H' p L (n+8-i)/\aR p H H'/\H' D=some (.lst vs)/\aQ H' ((ps.map λx=>lw x W).map gF) vs/\ps.length=i/\(∀x∈ps,0<=x/\x<=W)/\ps.sum+left=W/\0<=left/\left<=W)
  ⟨_,_,_,[],[],W,rfl,F6,b5.trans s6.but,e6,aQ.nil,rfl,(λx h=>by cases h),by simp,Oo,Oo⟩ ?_ ?_
 ·rintro i σ H7 hi ⟨o5,o6,o7,ps,vs,left,rfl,F7,b7,e7,r7,l7,hp7,hs7,l0,l1⟩;refine ⟨_,rfl,_,rfl,_,_,rfl,rfl,?_⟩;refine eN (n:=n+8-(i+1)) (F7.less Oo) Oo (bitsle (bC (show (left+1).natAbs<=998 by omega) Dd)) λx8 H8 a8 b8 F8 s8=>?_;have e8:=s8.at nD e7;refine ⟨_,rfl,LW e8,_,rfl,_,rfl,iR W0.1 wz ?_⟩;intro q9 H9 hq9 e9 s9;have e9D:=s9 _ _ e8;have lv:vs.length=i:=by rw [r7.len,aA,aA,l7]
  refine DH e9D Oo λH10 e10 b10=>⟨_,rfl,_,rfl,_,_,rfl,rfl,?_⟩;have t78:=F7.t s8;have t10:=b10.t e9D;refine ⟨_,_,_,ps++[x8],vs++[.ref q9],left-x8,rfl,(F8.same s9).but b10 nD nDL,aR.thru hD0 ((b7.trans s8).trans s9.but) b10,e10,?_,by rw [bE,l7];rfl,?_,?_,Oo,Oo⟩
  ·rw [bF,bF];exact aQ.snoc (r7.flat ((t78.trans s9.t).trans t10) (lH _)) (cE.flat t10 (cT _) (dJ e9))
  ·intro x hx;rcases cB.mp hx with hx | hx
   ·exact hp7 x hx
   ·rw [bJ.mp hx];exact Oo
  ·rw [List.sum_append,List.sum_singleton];exact Oo
 ·rintro σ H7 ⟨o5,o6,o7,ps,vs,left,rfl,F7,b7,e7,r7,l7,hp7,hs7,l0,l1⟩;refine ⟨_,rfl,LW e7,_,rfl,_,rfl,iR W0.1 wz ?_⟩;intro q9 H9 hq9 e9 s9;have e9D:=s9 _ _ e7;have lv:vs.length=m-1:=by rw [r7.len,aA,aA,l7]
  refine DH e9D Oo λH10 e10 b10=>?_;have t10:=b10.t e9D;have F10:=(F7.same s9).but b10 nD nDL;have B10:aR p H H10:=aR.thru hD0 (b7.trans s9.but) b10;have r10:aQ H10 (((ps++[left]).map λx=>lw x W).map gF) (vs++[.ref q9]):=by
   rw [bF,bF];exact aQ.snoc (r7.flat (s9.t.trans t10) (lH _)) (cE.flat t10 (cT _) (dJ e9))
  have hps:(ps++[left]).length=m/\(∀x∈ps++[left],0<=x/\x<=W)/\(ps++[left]).sum=W:=by
   refine ⟨by rw [bE,l7];show m-1+1=m;omega,λx hx=>?_,by rw [List.sum_append,List.sum_singleton];omega⟩;rcases cB.mp hx with hx | hx
   ·exact hp7 x hx
   ·rw [bJ.mp hx];exact Oo
  generalize ps++[left]=qs at r10 hps;generalize vs++[V.ref q9]=us at r10 e10;clear r7 hp7 hs7 l0 l1 l7 e7 e9 e9D b10 t10 F7 b7 s9;have lu:us.length=m:=by rw [r10.len,aA,aA,hps.1]
  refine ⟨_,rfl,_,rfl,?_⟩;refine eN (n:=n) (F10.less Oo) Oo (bitsle (bC (show ((m:Int)).natAbs<=5 by omega) Dd)) λx H11 a11 b11 F11 s11=>?_;obtain ⟨a,rfl⟩:∃a:Nat,x=(a:Int):=⟨x.toNat,Oo⟩;have e11:=s11.at nD e10;have r11:=r10.flat (F10.t s11) (lH _);refine ⟨_,rfl,_,rfl,_,rfl,?_⟩;refine slL e11 (ys:=us.drop a) (DA _ _) λq12 H12 hq12 e12 s12=>⟨_,rfl,_,rfl,_,rfl,?_⟩;refine slL (s12 _ _ e11) (ys:=us.take a) (DB _ _) λq13 H13 hq13 e13 s13=>SX (s13 _ _ e12) e13 (by rw [List.length_drop,cK];exact Oo) λq14 H14 hq14 e14 s14=>⟨q14,_,rfl,.inl ⟨fI.of e14,λl hl=>?_⟩⟩;have s15:=aU.upd (o:=.tup (us.drop a++us.take a)) hl;have e15:(upd H14 l (.tup (us.drop a++us.take a))) l=some (.tup (us.drop a++us.take a)):=bO;generalize upd H14 l (.tup (us.drop a++us.take a))=H15 at s15 e15;have S:=((s12.trans s13).trans s14).trans s15;refine k _ ((qs.drop a++qs.take a).map λx=>lw x W) H15 (F11.same S) ((B10.trans s11).trans S.but) (cE.tup e15 ?_) ⟨qs.drop a++qs.take a,W,?_,?_,?_,W0.1,W0.2,MH hW,rfl⟩
  ·have r:=r11.same S;rw [bF,bF];refine aQ.append ?_ ?_
   ·rw [List.map_take,List.map_take];exact aQ.take a r
   ·rw [List.map_drop,List.map_drop];exact aQ.drop a r
  ·rw [bE,List.length_drop,cK];exact Oo
  ·intro x hx;rcases cB.mp hx with hx | hx
   ·exact hps.2.1 x (List.mem_of_mem_drop hx)
   ·exact hps.2.1 x (List.mem_of_mem_take hx)
  ·rw [VP];exact hps.2.2
end
abbrev QC:Stmt:=(top 49)
def TF:bZ ["_law_feed_here","_law_faces","_law_ways","_law_names","_law_start","_law_told"] ["_law_feed_here","_law_faces","_law_ways"] (aY QC):=⟨rfl,rfl,rfl,Kk,rfl,Kk,Kk⟩
abbrev aAL:Stmt:=(top 50)
def aC7:bZ ["_law_feed_here","_law_way"] ["_law_feed_here"] (aY aAL):=⟨rfl,rfl,rfl,Kk,rfl,Kk,Kk⟩
abbrev sQ3:Stmt:=(top 51)
def cQ3:bZ ["_law_feed_here","_law_whole","_law_part"] ["_law_feed_here"] (aY sQ3):=⟨rfl,rfl,rfl,Kk,rfl,Kk,Kk⟩
abbrev sQ1:Stmt:=(top 52)
def cQ1:bZ ["_law_feed_here","_law_ways","_law_most","_law_bounds","_law_mix"] ["_law_feed_here","_law_ways","_law_most"] (aY sQ1):=⟨rfl,rfl,rfl,Kk,rfl,Kk,Kk⟩
def kQ{H:Hp}{fs:Ak}{v:V}(h:cE H (pP fs) v):∃a xs,v=.ref a/\H a=some (.tup xs)/\aQ H (fs.map gF) xs:=by
 unfold cE at h;exact h
abbrev wD(w:Str × Ak):PyData:=.tuple [.str w.1,pP w.2]
abbrev pL(fs:Ah)(ws:List (Str × Ak)):PyData:=.tuple [.tuple (fs.map .str),.tuple (ws.map wD)]
theorem zR:∀fs:Ah,fY (fs.map PyData.str)=true
 | []=>rfl
 | f::fs=>by show (fO (.str f)&&fY (fs.map PyData.str))=true;rw [zR fs];rfl
def JF(w:Str × Ak):fO (wD w)=true:=by
 show (fO (.str w.1)&&(fO (pP w.2)&&true))=true;rw [kF];rfl
theorem JB:∀ws:List (Str × Ak),fY (ws.map wD)=true
 | []=>rfl
 | w::ws=>by show (fO (wD w)&&fY (ws.map wD))=true;rw [JF w,JB ws];rfl
def oB(fs:Ah)(ws:List (Str × Ak)):fO (pL fs ws)=true:=by
 show (fO (.tuple (fs.map .str))&&(fO (.tuple (ws.map wD))&&true))=true;rw [show fO (.tuple (fs.map PyData.str))=fY (fs.map PyData.str) from rfl,zR,show fO (.tuple (ws.map wD))=fY (ws.map wD) from rfl,JB];rfl
theorem AY{H:Hp}:∀fs:Ah,aQ H (fs.map PyData.str) (fs.map V.str)
 | []=>aQ.nil
 | f::fs=>aQ.cons (cE.str f) (AY fs)
def lJ{H:Hp}{ds:List PyData}{v:V}(h:cE H (.tuple ds) v):∃a xs,v=.ref a/\H a=some (.tup xs)/\aQ H ds xs:=by unfold cE at h;exact h
def lI{H:Hp}{d e:PyData}{xs:Al}(h:aQ H [d,e] xs):∃x y,xs=[x,y]/\cE H d x/\cE H e y:=by
 unfold aQ aQ aQ at h;obtain ⟨x,_,rfl,h1,y,_,rfl,h2,rfl⟩:=h;exact ⟨x,y,rfl,h1,h2⟩
def fC{α:Type}{H:Hp}{g:α->PyData}{fs:List α}{vs:Al}(h:aQ H (fs.map g) vs){i:Nat}{v:V}(e:vs[i]?=some v):∃f,fs[i]?=some f/\cE H (g f) v:=by
 obtain ⟨d,h1,h2⟩:=h.get e;rw [aL] at h1;cases q:fs[i]? with
 | none=>rw [q] at h1;cases h1
 | some f=>rw [q] at h1;cases h1;exact ⟨f,rfl,h2⟩
def eG{α:Type}{H:Hp}{g:α->PyData}{fs:List α}{vs:Al}(h:aQ H (fs.map g) vs){i:Nat}{f:α}(e:fs[i]?=some f):∃v,vs[i]?=some v/\cE H (g f) v :=
 h.get' (by rw [aL,e];rfl)
def eP{α:Type}{H:Hp}{g:α->PyData}{fs:List α}{vs:Al}(h:aQ H (fs.map g) vs):vs.length=fs.length:=by rw [h.len,aA]
def eM{α:Type}{l:List α}{i:Nat}{x:α}(h:l[i]?=some x):l.take (i+1)=l.take i++[x]:=by
 rw [fT,h];rfl
structure TU(F W:Nat)(fs:Ah)(ws:List (Str × Ak)):Prop where
 f:fs.length=F
 w:ws.length=W
 sh:∀x∈ws,DR F x.2
 nf:∀s∈fs,(reprText s).length<=20
 nw:∀x∈ws,(reprText x.1).length<=20
def XA:∀s∈(["a","ab","b","abc","faced","ways","z","bb"]:Ah),(reprText s).length<=20:=Kk
@[irreducible] def oH:Sp:=λvs H Q _=>∃(p L:Addr) (n F W:Nat),vs=[.ref p,.int (F:Int),.int (W:Int)]/\dQ H p L (n+64)/\2<=F/\F<=4/\2<=W/\W<=4/\∀v fs ws H',dQ H' p L n->aR p H H'->cE H' (pL fs ws) v->TU F W fs ws->Q v H'
def EN(T:dQ H p L (n+64))(h1:2<=F)(h2:F<=4)(h3:2<=W)(h4:W<=4)(k:∀v fs ws H',dQ H' p L n->aR p H H'->cE H' (pL fs ws) v->TU F W fs ws->Q v H'):oH [.ref p,.int (F:Int),.int (W:Int)] H Q E:=by
 unfold oH;exact ⟨p,L,n,F,W,rfl,T,h1,h2,h3,h4,k⟩
def YK{α:Type}{xs:List α}{x:Int}(h:xs.length=8):∃v,yT xs (x % 8)=some v/\v∈xs:=by
 obtain ⟨v,h1,h2,_⟩:=YL (xs:=xs) (x:=x % 8) (Int.emod_nonneg _ Dd) (by have:=Int.emod_lt_of_pos x (b:=8) Dd;exact Oo);exact ⟨v,h1,h2⟩
def UX{P:Str->Prop}{ys:Al}(h:∀(i:Nat) (y:V),ys[i]?=some y->∃s,y=.str s/\P s):∃ts:Ah,ys=ts.map V.str/\∀t∈ts,P t:=by
 induction ys with
 | nil=>exact ⟨[],rfl,λt h=>by cases h⟩
 | cons y ys ih =>
  obtain ⟨s,rfl,hs⟩:=h 0 y rfl;obtain ⟨ts,rfl,hts⟩:=ih λi z hz=>h (i+1) z (by simpa using hz);refine ⟨s::ts,rfl,λt ht=>?_⟩;rcases aZ.mp ht with rfl | ht
  ·exact hs
  ·exact hts t ht
section
def aD9(F:jP K "_law_trial" "_law_trial" QC f fd)(T:kX K mg c)
  (FQ6:gR dR P w K mg base 1 "_law_draw" ["_law_feed_here","_law_many"] lP) (FQ17:gR dR P w K mg base 2 "_law_shares" ["_law_feed_here","_law_many"] mD):eC P w K mg base dR 3 f fd ["_law_feed_here","_law_faces","_law_ways"] oH:=by
 refine F.oky TF λvs H Q E h=>?_;unfold oH at h;obtain ⟨p,L,n,F,W,rfl,T0,f2,f4,w2,w4,k⟩:=h;refine ⟨rfl,λcdv A outer s hr=>?_⟩;refine ⟨_,(aH (bN (i:=3) TF.nd rfl (Or.inr rfl) (iD (aJ iC (aJ iC (aJ iC (aJ iC (aJ iC (aJ iC (aJ iC (aJ iC aE))))))))))
  (aH (bN (i:=4) TF.nd rfl (Or.inr rfl) (bV FQ6 (hr.mono Dd) (aJ (aD 0) (aJ aK aE))))
  (aH (bN (i:=5) TF.nd rfl (Or.inl rfl) (pK fL (by rfl) T.b_tuple Kk (aJ (gI (dP.of (psc:=aY QC) (N:=["_law_feed_here","_law_faces","_law_ways","_law_names","_law_start","_law_told"]) (N':=["_law_k","_law_names","_law_start"]) (js:=[3,4]) Kk rfl rfl rfl) (cS rfl T.b_range (aJ (aD 1) aE)) (λ_ _ _ _=>dW) (λ_ _ _ _=>(bP (iZ K) (aD 1) (bX mX (bX eB (aD 2) (bX dU aK (aD 0))) aK) (λ_ _=>rfl)))) aE)))
  (aH (bN (i:=4) TF.nd rfl (Or.inr rfl) (bV FQ6 (hr.mono Dd) (aJ (aD 0) (aJ aK aE))))
  (bD (cH (dI (aJ (aD 5) (aJ (pK fL (by rfl) T.b_tuple Kk (aJ (gI (dP.of (psc:=aY QC) (N:=["_law_feed_here","_law_faces","_law_ways","_law_names","_law_start","_law_told"]) (N':=["_law_k","_law_feed_here","_law_faces","_law_names","_law_start"]) (js:=[0,1,3,4]) Kk rfl rfl rfl) (cS rfl T.b_range (aJ (aD 2) aE)) (λ_ _ _ _=>dW) (λ_ _ _ _=>(dI (aJ (bP (iZ K) (aD 3) (bX mX (bX eB (aD 4) (bX dU aK (aD 0))) aK) (λ_ _=>rfl)) (aJ (bV FQ17 (hr.mono Dd) (aJ (aD 1) (aJ (aD 2) aE))) aE))))) aE)) aE))))))))),?_⟩
 refine CI (by show 8<=64;decide) λN1 H1 hN e1 s1=>?_;have e1':H1 N1=some (.lst ((["a","ab","b","abc","faced","ways","z","bb"]:Ah).map V.str)):=e1;have nN:N1≠p:=T0.ne hN;refine ⟨_,rfl,?_⟩;refine eN (n:=n+63) (T0.same s1) Dd Kk λx2 H2 a2 b2 T2 s2=>?_;have e2:=s2.at nN e1';have hpick:∀x:Int,∃t:Str,(reprText t).length<=20/\yT ((["a","ab","b","abc","faced","ways","z","bb"]:Ah).map V.str) (x % 8)=some (V.str t):=λx=>by
  obtain ⟨v,h1,h2⟩:=YK (xs:=(["a","ab","b","abc","faced","ways","z","bb"]:Ah).map V.str) (x:=x) rfl;obtain ⟨t,ht,rfl⟩:=aX.mp h2;exact ⟨t,XA t (by assumption),h1⟩
 refine ⟨_,rfl,_,rfl,Oo,Oo,hJ (λi y H'=>∃s,y=.str s/\(reprText s).length<=20) (λ_ _ _ _ _ h=>h) Oo (λi H' Q' hi s' k'=>?_) (λD ys H3 hD hD3 s3 hy hr3=>?_)⟩
 ·refine ⟨_,rfl,_,rfl,_,rfl,_,_,rfl,rfl,IntMulOk.of_left Kk,_,_,rfl,rfl,_,_,rfl,rfl,(by show (0:Int)<8;decide),?_⟩;obtain ⟨t,ht20,ht⟩:=hpick (x2+3*(0+(i:Nat)));exact FR (s' _ _ e2) ht (k' _ H' (aU.refl _) ⟨t,rfl,ht20⟩)
 ·obtain ⟨ts,rfl,hts⟩:=UX hr3;rw [aA] at hy;refine ⟨D,_,rfl,.inl ⟨fI.of hD3,λl hl=>?_⟩⟩;have s4:=aU.upd (o:=.tup (ts.map V.str)) hl;have e4:(upd H3 l (.tup (ts.map V.str))) l=some (.tup (ts.map V.str)):=bO;generalize upd H3 l (.tup (ts.map V.str))=H4 at s4 e4;have S4:=s3.trans s4;have T4:=T2.same S4;have B4:aR p H H4:=(s1.but.trans s2).trans S4.but;refine ⟨_,rfl,?_⟩;refine eN (n:=n+62) T4 Dd Kk λx5 H5 a5 b5 T5 s5=>?_;have e5:=s5.at nN (S4 _ _ e2);have el5:=T4.t s5 _ _ e4;have B5:=B4.trans s5;refine ⟨_,rfl,_,rfl,_,rfl,Oo,Oo,yH (dQ.like (p:=p) (L:=L) λi=>n+62-12*i) T5 (λi y H'=>∃x:Str × Ak,cE H' (wD x) y/\DR F x.2/\(reprText x.1).length<=20) (λi y Ha Hb s ⟨x,h1,h2⟩=>⟨x,h1.flat s (JF x),h2⟩) Oo (λi H' Q' hi F' s' k'=>?_) (λD6 zs H6 hD6 e6 T6 s6 hz hr6=>?_)⟩
  ·refine ⟨_,rfl,_,rfl,_,rfl,_,_,rfl,rfl,IntMulOk.of_left Kk,_,_,rfl,rfl,_,_,rfl,rfl,(by show (0:Int)<8;decide),?_⟩;obtain ⟨t,ht20,ht⟩:=hpick (x5+5*(0+(i:Nat)));refine FR (s'.at nN e5) ht ⟨_,rfl,_,rfl,?_⟩;exact vU (n:=n+62-12*(i+1)) (F'.less Oo) Oo Oo λv fs H7 T7 s7 r7 sh7=>nZ (by show 2<=64;decide) λq8 H8 hq8 e8 s8=>k' _ H8 (T7.same s8) (s7.trans s8.but) ⟨(t,fs),cE.tup e8 (aQ.cons (cE.str _) (aQ.cons (r7.same s8) aQ.nil)),sh7,ht20⟩
  ·obtain ⟨ws,lw6,r6,sh6⟩:∃ws:List (Str × Ak),ws.length=zs.length/\aQ H6 (ws.map wD) zs/\∀x∈ws,DR F x.2/\(reprText x.1).length<=20:=by
    clear e6 hz
    induction zs with
    | nil=>exact ⟨[],rfl,aQ.nil,λx h=>by cases h⟩
    | cons z zs ih =>
     obtain ⟨x,h1,h2⟩:=hr6 0 z rfl;obtain ⟨ws,g1,g2,g3⟩:=ih λi y hy=>hr6 (i+1) y (by simpa using hy);refine ⟨x::ws,by rw [bT,bT,g1],aQ.cons h1 g2,λy hy=>?_⟩;rcases aZ.mp hy with rfl | hy
     ·exact h2
     ·exact g3 y hy
   refine ⟨D6,_,rfl,.inl ⟨fI.of e6,λl7 hl7=>?_⟩⟩;have s7:=aU.upd (o:=.tup zs) hl7;have e7:(upd H6 l7 (.tup zs)) l7=some (.tup zs):=bO;generalize upd H6 l7 (.tup zs)=H7 at s7 e7;refine nZ (by show 2<=64;decide) λq8 H8 hq8 e8 s8=>?_;have el8:=s8 _ _ (s7 _ _ (T5.t s6 _ _ el5));refine k _ ts ws H8 (((T6.same s7).same s8).less Oo) ((B5.trans s6).trans (s7.trans s8).but) ?_ ⟨Oo,Oo,λx hx=>(sh6 x hx).1,hts,λx hx=>(sh6 x hx).2⟩;refine cE.tup e8 (aQ.cons (cE.tup el8 (AY ts)) (aQ.cons (cE.tup (s8 _ _ e7) ((r6.same s7).same s8)) aQ.nil))
end
abbrev lV(M:Nat)(bs mix cs:Ak):PyData:=.tuple [.int (M:Int),pP bs,pP mix,pP cs]
def vM(M:Nat)(bs mix cs:Ak):fO (lV M bs mix cs)=true:=by
 show (fO (.int (M:Int))&&(fO (pP bs)&&(fO (pP mix)&&(fO (pP cs)&&true))))=true;rw [kF,kF,kF];rfl
def FnP(N B:Nat)(f:Fr):Prop:=Fn N B f/\0<=f.1
@[irreducible] def qE:Sp:=λvs H Q _=>∃(p L:Addr) (n:Nat),vs=[.ref p]/\dQ H p L (n+4)/\∀v f H',dQ H' p L n->aR p H H'->cE H' (gF f) v->FnP 27720 1 f->Q v H'
def HK(F:dQ H p L (n+4))(k:∀v f H',dQ H' p L n->aR p H H'->cE H' (gF f) v->FnP 27720 1 f->Q v H'):qE [.ref p] H Q E:=by
 unfold qE;exact ⟨p,L,n,rfl,F,k⟩
def ZM{n d:Int}(h:0<=n):0<=(lw n d).1:=Int.ediv_nonneg h (Int.natCast_nonneg _)
def smallz{d:Int}(h:d.natAbs<1024):d.natAbs<2^9000:=aN (show d.natAbs<2^10 from h) (aP Dd Dd)
section
def oQ3(F:jP K "_law_bound" "_law_bound" sQ3 f fd)(T:kX K mg c)
  (FQ6:gR dR P w K mg base 1 "_law_draw" ["_law_feed_here","_law_many"] lP) (FQ8:gR dR P w K mg base 1 "_law_frac" ["_law_n","_law_d"] jJ):eC P w K mg base dR 2 f fd ["_law_feed_here"] qE:=by
 refine F.oky cQ3 λvs H Q E h=>?_;unfold qE at h;obtain ⟨p,L,n,rfl,F,k⟩:=h;refine ⟨rfl,λcdv A outer s hr=>?_⟩;refine ⟨_,(aH (bN (i:=1) cQ3.nd rfl (Or.inl rfl) (bX eB aK (bV FQ6 (hr.mono Dd) (aJ (aD 0) (aJ aK aE)))))
  (aH (bN (i:=2) cQ3.nd rfl (Or.inl rfl) (bP bK (iD (aJ (bV FQ6 (hr.mono Dd) (aJ (aD 0) (aJ (bX eB (aD 1) aK) aE))) (aJ (bX fU (bV FQ6 (hr.mono Dd) (aJ (aD 0) (aJ (bX eB (aD 1) aK) aE))) aK) (aJ aK aE)))) (bV FQ6 (hr.mono Dd) (aJ (aD 0) (aJ aK aE))) (λ_ _=>rfl)))
  (bD (cH (bV FQ8 (hr.mono Dd) (aJ (aD 2) (aJ (aD 1) aE))))))),?_⟩
 refine ⟨_,rfl,?_⟩;refine eN (n:=n+3) F Dd Kk λx1 H1 a1 b1 F1 s1=>⟨_,_,rfl,rfl,?_⟩;have bW:bits (1+x1+1)<=64:=bitsle (bC (show (1+x1+1).natAbs<=13 by omega) Dd);refine ⟨_,rfl,_,rfl,_,_,rfl,rfl,?_⟩;refine eN (n:=n+2) F1 Oo bW λx2 H2 a2 b2 F2 s2=>⟨_,rfl,_,rfl,_,_,rfl,rfl,?_⟩;refine eN (n:=n+1) F2 Oo bW λx3 H3 a3 b3 F3 s3=>⟨_,_,rfl,rfl,⟨Dd,Kk⟩,?_⟩;refine CI (by show 3<=64;decide) λq4 H4 hq4 e4 s4=>⟨_,rfl,?_⟩;refine eN (n:=n) (F3.same s4) Dd Kk λx5 H5 a5 b5 F5 s5=>?_;have hW:∃y:Int,yT [V.int x2,V.int (x3/2),V.int 0] x5=some (.int y)/\0<=y/\y<=1+x1:=by
  have:x5=0\/x5=1\/x5=2:=Oo;rcases this with rfl | rfl | rfl
  ·exact ⟨_,rfl,Oo,Oo⟩
  ·exact ⟨_,rfl,Oo,Oo⟩
  ·exact ⟨_,rfl,Oo,Oo⟩
 obtain ⟨y,hat,y0,y1⟩:=hW;refine FR (s5.at (F3.ne hq4) e4) hat ⟨_,rfl,_,rfl,iR Oo (smallz Oo) ?_⟩;intro q6 H6 hq6 e6 s6;have hd:(1+x1).natAbs ∣ 27720:=by
  have:∀z:Nat,z<=12->1<=z->z ∣ 27720:=Dd;exact this _ Oo Oo
 exact k _ _ H6 (F5.same s6) (((((s1.trans s2).trans s3).trans s4.but).trans s5).trans s6.but) (dJ e6) ⟨(Fn.of Oo Oo).dvd hd,ZM y0⟩
end
theorem IJ{H:Hp}{P:Fr->Prop}:∀{ys:Al},(∀(i:Nat) (y:V),ys[i]?=some y->∃f,cE H (gF f) y/\P f)->∃fs:Ak,fs.length=ys.length/\aQ H (fs.map gF) ys/\∀f∈fs,P f
 | [],_=>⟨[],rfl,aQ.nil,λf h=>by cases h⟩
 | y::ys,h=>by
  obtain ⟨f,h1,h2⟩:=h 0 y rfl;obtain ⟨fs,g1,g2,g3⟩:=IJ (ys:=ys) λi z hz=>h (i+1) z (by simpa using hz);refine ⟨f::fs,by rw [bT,bT,g1],aQ.cons h1 g2,λy hy=>?_⟩;rcases aZ.mp hy with rfl | hy
  ·exact h2
  ·exact g3 y hy
@[irreducible] def rC:Sp:=λvs H Q _=>∃(p L:Addr) (n:Nat),vs=[.ref p]/\dQ H p L (n+3)/\∀v f H',dQ H' p L n->aR p H H'->cE H' (gF f) v->DX f->Q v H'
def uS(F:dQ H p L (n+3))(k:∀v f H',dQ H' p L n->aR p H H'->cE H' (gF f) v->DX f->Q v H'):rC [.ref p] H Q E:=by
 unfold rC;exact ⟨p,L,n,rfl,F,k⟩
def RM{n d:Int}(n0:0<=n)(n1:n<=999)(d0:0<d)(d1:d<=999):DX (lw n d):=by
 have h:=jD (n:=n) d0;have q:=KC (n:=n) d0;have a:=ZM (n:=n) (d:=d) n0;exact ⟨h,a,Oo,Oo⟩
@[irreducible] def tE:Sp:=λvs H Q _=>∃(p L:Addr) (n W M:Nat),vs=[.ref p,.int (W:Int),.int (M:Int)]/\dQ H p L (n+64)/\1<=W/\W<=4/\M<=6/\∀v bs mix cs H',dQ H' p L n->aR p H H'->cE H' (lV M bs mix cs) v->bs.length=W->(∀f∈bs,FnP 27720 1 f)->DR W mix->cs.length=M->(∀f∈cs,DX f)->Q v H'
def MD(T:dQ H p L (n+64))(h1:1<=W)(h2:W<=4)(h3:M<=6)(k:∀v bs mix cs H',dQ H' p L n->aR p H H'->cE H' (lV M bs mix cs) v->bs.length=W->(∀f∈bs,FnP 27720 1 f)->DR W mix->cs.length=M->(∀f∈cs,DX f)->Q v H'):tE [.ref p,.int (W:Int),.int (M:Int)] H Q E:=by
 unfold tE;exact ⟨p,L,n,W,M,rfl,T,h1,h2,h3,k⟩
section
def aEd(F:jP K "_law_some" "_law_some" aAL f fd)(T:kX K mg c)
  (FQ6:gR dR P w K mg base 1 "_law_draw" ["_law_feed_here","_law_many"] lP) (FQ8:gR dR P w K mg base 1 "_law_frac" ["_law_n","_law_d"] jJ):eC P w K mg base dR 2 f fd ["_law_feed_here"] rC:=by
 refine F.oky aC7 λvs H Q E h=>?_;unfold rC at h;obtain ⟨p,L,n,rfl,F,k⟩:=h;refine ⟨rfl,λcdv A outer s hr=>?_⟩;refine ⟨_,(aH (bN (i:=1) aC7.nd rfl (Or.inl rfl) (bV FQ6 (hr.mono Dd) (aJ (aD 0) (aJ aK aE))))
  (aH (jF (eO vX (aD 1) aK (nomark _)) (bD (cH (dI (aJ aK (aJ aK aE))))) fK)
  (aH (jF (eO vX (aD 1) aK (nomark _)) (bD (cH (bV FQ8 (hr.mono Dd) (aJ (bX eB aK (bV FQ6 (hr.mono Dd) (aJ (aD 0) (aJ aK aE)))) (aJ (bX eB aK (bV FQ6 (hr.mono Dd) (aJ (aD 0) (aJ aK aE)))) aE))))) fK)
  (bD (cH (bV FQ8 (hr.mono Dd) (aJ (bX eB aK (bV FQ6 (hr.mono Dd) (aJ (aD 0) (aJ aK aE)))) (aJ (bX eB aK (bV FQ6 (hr.mono Dd) (aJ (aD 0) (aJ aK aE)))) aE)))))))),?_⟩
 refine ⟨_,rfl,?_⟩;refine eN (n:=n+2) F Dd Kk λx1 H1 a1 b1 F1 s1=>⟨_,rfl,rfl,_,rfl,?_⟩;refine sI (λe=>?_) (λe=>?_)
 ·exact nZ (by show 2<=64;decide) λq2 H2 hq2 e2 s2=>k _ (0,1) H2 ((F1.same s2).less Oo) (s1.trans s2.but) (dJ e2) ⟨XD,Dd,Dd,Dd⟩
 refine ⟨_,rfl,rfl,_,rfl,sI (λe=>?_) (λe=>?_)⟩
 ·refine ⟨_,rfl,?_⟩;refine eN (n:=n+1) F1 Dd Kk λx2 H2 a2 b2 F2 s2=>⟨_,_,rfl,rfl,_,rfl,?_⟩;refine eN (n:=n) F2 Dd Kk λx3 H3 a3 b3 F3 s3=>⟨_,_,rfl,rfl,?_⟩;refine iR Oo (smallz Oo) ?_;intro q4 H4 hq4 e4 s4;exact k _ _ H4 (F3.same s4) (((s1.trans s2).trans s3).trans s4.but) (dJ e4) (RM Oo Oo Oo Oo)
 ·refine ⟨_,rfl,?_⟩;refine eN (n:=n+1) F1 Dd Kk λx2 H2 a2 b2 F2 s2=>⟨_,_,rfl,rfl,_,rfl,?_⟩;refine eN (n:=n) F2 Dd Kk λx3 H3 a3 b3 F3 s3=>⟨_,_,rfl,rfl,?_⟩;refine iR Oo (smallz Oo) ?_;intro q4 H4 hq4 e4 s4;exact k _ _ H4 (F3.same s4) (((s1.trans s2).trans s3).trans s4.but) (dJ e4) (RM Oo Oo Oo Oo)
def oQ1(F:jP K "_law_aim" "_law_aim" sQ1 f fd)(T:kX K mg c)
  (FQ3:gR dR P w K mg base 2 "_law_bound" ["_law_feed_here"] qE) (FQ17:gR dR P w K mg base 2 "_law_shares" ["_law_feed_here","_law_many"] mD) (FQ18:gR dR P w K mg base 2 "_law_some" ["_law_feed_here"] rC):eC P w K mg base dR 3 f fd ["_law_feed_here","_law_ways","_law_most"] tE:=by
 refine F.oky cQ1 λvs H Q E h=>?_;unfold tE at h;obtain ⟨p,L,n,W,M,rfl,T0,w1,w4,m6,k⟩:=h;refine ⟨rfl,λcdv A outer s hr=>?_⟩;refine ⟨_,(aH (bN (i:=3) cQ1.nd rfl (Or.inl rfl) (pK fL (by rfl) T.b_tuple Kk (aJ (gI (dP.of (psc:=aY sQ1) (N:=["_law_feed_here","_law_ways","_law_most","_law_bounds","_law_mix"]) (N':=["_law_k","_law_feed_here"]) (js:=[0]) Kk rfl rfl rfl) (cS rfl T.b_range (aJ (aD 1) aE)) (λ_ _ _ _=>dW) (λ_ _ _ _=>(bV FQ3 (hr.mono Dd) (aJ (aD 1) aE)))) aE)))
  (aH (bN (i:=4) cQ1.nd rfl (Or.inl rfl) (bV FQ17 (hr.mono Dd) (aJ (aD 0) (aJ (aD 1) aE))))
  (bD (cH (dI (aJ (aD 2) (aJ (aD 3) (aJ (aD 4) (aJ (pK fL (by rfl) T.b_tuple Kk (aJ (gI (dP.of (psc:=aY sQ1) (N:=["_law_feed_here","_law_ways","_law_most","_law_bounds","_law_mix"]) (N':=["_law_k","_law_feed_here"]) (js:=[0]) Kk rfl rfl rfl) (cS rfl T.b_range (aJ (aD 2) aE)) (λ_ _ _ _=>dW) (λ_ _ _ _=>(bV FQ18 (hr.mono Dd) (aJ (aD 1) aE)))) aE)) aE))))))))),?_⟩
 refine ⟨_,rfl,_,rfl,Oo,Oo,yH (dQ.like (p:=p) (L:=L) λi=>n+64-4*i) T0 (λi y H'=>∃f:Fr,cE H' (gF f) y/\FnP 27720 1 f) (λi y Ha Hb s ⟨x,h1,h2⟩=>⟨x,h1.flat s (cT x),h2⟩) Oo (λi H' Q' hi F' s' k'=>?_) (λD ys H1 hD e1 T1 s1 hy hr1=>?_)⟩
 ·refine ⟨_,rfl,?_⟩;exact HK (n:=n+64-4*(i+1)) (F'.less Oo) λv f H2 T2 s2 r2 f2=>k' _ H2 T2 s2 ⟨f,r2,f2⟩
 ·obtain ⟨bs,lb,rb,fb⟩:=IJ hr1;refine ⟨D,_,rfl,.inl ⟨fI.of e1,λl hl=>?_⟩⟩;have s2:=aU.upd (o:=.tup ys) hl;have e2:(upd H1 l (.tup ys)) l=some (.tup ys):=bO;generalize upd H1 l (.tup ys)=H2 at s2 e2;have T2:=T1.same s2;have r2:cE H2 (pP bs) (.ref l):=cE.tup e2 (rb.same s2);refine ⟨_,rfl,_,rfl,?_⟩;refine vU (n:=n+30) (T2.less Oo) Oo Oo λv3 mix H3 T3 s3 r3 sh3=>?_;have r2':=r2.flat (T2.t s3) (kF _);have B3:aR p H H3:=(s1.trans s2.but).trans s3;have lb':bs.length=W:=Oo;clear e1 hr1 rb hy s1 s2 e2 T1 r2;refine ⟨_,rfl,_,rfl,_,rfl,_,rfl,_,rfl,Oo,Oo,yH (dQ.like (p:=p) (L:=L) λi=>n+30-3*i) T3 (λi y H'=>∃f:Fr,cE H' (gF f) y/\DX f) (λi y Ha Hb s ⟨x,h1,h2⟩=>⟨x,h1.flat s (cT x),h2⟩) Oo (λi H' Q' hi F' s' k'=>?_) (λD zs H4 hD e4 T4 s4 hz hr4=>?_)⟩
  ·refine ⟨_,rfl,?_⟩;exact uS (n:=n+30-3*(i+1)) (F'.less Oo) λv f H2 T2 s2 r2 f2=>k' _ H2 T2 s2 ⟨f,r2,f2⟩
  ·obtain ⟨cs,lc,rc,fc⟩:=IJ hr4;refine ⟨D,_,rfl,.inl ⟨fI.of e4,λl5 hl5=>?_⟩⟩;have s5:=aU.upd (o:=.tup zs) hl5;have e5:(upd H4 l5 (.tup zs)) l5=some (.tup zs):=bO;generalize upd H4 l5 (.tup zs)=H5 at s5 e5;refine nZ (by show 4<=64;decide) λq6 H6 hq6 e6 s6=>?_;have S:=s5.trans s6;have t:=T3.t s4;refine k _ bs mix cs H6 ((T4.same S).less Oo) ((B3.trans s4).trans S.but) ?_ lb' fb sh3 Oo fc;exact cE.tup e6 (aQ.cons (cE.int _) (aQ.cons ((r2'.flat t (kF _)).same S) (aQ.cons ((r3.flat t (kF _)).same S) (aQ.cons (cE.tup (s6 _ _ e5) (rc.same S)) aQ.nil))))
end
abbrev aAE:Stmt:=(top 1)
def NR:bZ ["number","above_nought","divided","divisor","rest"] ["number","above_nought"] (aY aAE):=⟨rfl,rfl,rfl,Kk,rfl,Kk,Kk⟩
abbrev aAw:Stmt:=(top 3)
def NQ:bZ ["one","other","common","one_part","other_part","upper","left"] ["one","other"] (aY aAw):=⟨rfl,rfl,rfl,Kk,rfl,Kk,Kk⟩
abbrev aAu:Stmt:=(top 4)
def aBK:bZ ["one","other","first","second"] ["one","other"] (aY aAu):=⟨rfl,rfl,rfl,Kk,rfl,Kk,Kk⟩
abbrev aAs:Stmt:=(top 5)
def YA:bZ ["some","whole","one"] ["some"] (aY aAs):=⟨rfl,rfl,rfl,Kk,rfl,Kk,Kk⟩
abbrev aAA:Stmt:=(top 9)
def aEF:bZ ["trial"] ["trial"] (aY aAA):=⟨rfl,rfl,rfl,Kk,rfl,Kk,Kk⟩
abbrev aAq:Stmt:=(top 10)
def aEx:bZ ["trial"] ["trial"] (aY aAq):=⟨rfl,rfl,rfl,Kk,rfl,Kk,Kk⟩
abbrev aAr:Stmt:=(top 11)
def aEy:bZ ["trial","way"] ["trial","way"] (aY aAr):=⟨rfl,rfl,rfl,Kk,rfl,Kk,Kk⟩
abbrev aAp:Stmt:=(top 13)
def TB:bZ ["trial","way","counts","product","share","count"] ["trial","way","counts"] (aY aAp):=⟨rfl,rfl,rfl,Kk,rfl,Kk,Kk⟩
abbrev aAv:Stmt:=(top 14)
def NP:bZ ["share","count","upper","lower","step"] ["share","count"] (aY aAv):=⟨rfl,rfl,rfl,Kk,rfl,Kk,Kk⟩
abbrev aAG:Stmt:=(top 15)
def aBL:bZ ["faces","most","found","many"] ["faces","most"] (aY aAG):=⟨rfl,rfl,rfl,Kk,rfl,Kk,Kk⟩
abbrev QA:Stmt:=(top 16)
def YD:bZ ["faces","many","found","first"] ["faces","many"] (aY QA):=⟨rfl,rfl,rfl,Kk,rfl,Kk,Kk⟩
abbrev aAx:Stmt:=(top 18)
def aEC:bZ ["counts","face"] ["counts","face"] (aY aAx):=⟨rfl,rfl,rfl,Kk,rfl,Kk,Kk⟩
abbrev VG:Stmt:=(top 19)
def aEB:bZ ["counts"] ["counts"] (aY VG):=⟨rfl,rfl,rfl,Kk,rfl,Kk,Kk⟩
@[irreducible] def mL(K:Aa):Sp:=λvs H Q _=>∃x y f g,vs=[x,y]/\gU K H f x/\gU K H g y/\cY f/\cY g/\nG 4000 f/\nG 4000 g/\uH H Q (jC f g)
def oX{K:Aa}(h1:gU K H f x)(h2:gU K H g y)(l1:cY f)(l2:cY g)(z1:nG 4000 f)(z2:nG 4000 g)(q:uH H Q (jC f g)):mL K [x,y] H Q E:=by unfold mL;exact ⟨x,y,f,g,rfl,h1,h2,l1,l2,z1,z2,q⟩
def IA(f:Fr):Fr:=(-f.1,f.2)
def FF{f:Fr}(h:cY f):cY (IA f):=⟨h.pos,by show Int.gcd (-f.1) f.2=1;rw [Int.neg_gcd];exact h.low⟩
@[irreducible] def pZ(K:Aa):Sp:=λvs H Q _=>∃x y f g,vs=[x,y]/\gU K H f x/\gU K H g y/\cY f/\cY g/\nG 4000 f/\nG 4000 g/\uH H Q (qS f (IA g))
def HH{K:Aa}(h1:gU K H f x)(h2:gU K H g y)(l1:cY f)(l2:cY g)(z1:nG 4000 f)(z2:nG 4000 g)(q:uH H Q (qS f (IA g))):pZ K [x,y] H Q E:=by unfold pZ;exact ⟨x,y,f,g,rfl,h1,h2,l1,l2,z1,z2,q⟩
section
def aD2(F:jP K "common_divisor" "common_divisor" aAE f fd)(T:kX K mg c):eC P w K mg base dR 1 f fd ["number","above_nought"] xG:=by
 refine F.oky NR λvs H Q E h=>?_;unfold xG at h;obtain ⟨n,d,rfl,hd,q⟩:=h;refine ⟨rfl,λcdv A outer s hr=>?_⟩;refine ⟨_,(aH (bN (i:=2) NR.nd rfl (Or.inl rfl) (aD 0))
  (aH (bN (i:=3) NR.nd rfl (Or.inl rfl) (aD 1))
  (aH (sO PassesOwn.never (eO FD (aD 3) aK (nomark _)) (aH (bN (i:=4) NR.nd rfl (Or.inl rfl) (bX mX (aD 2) (aD 3)))
  (aH (bN (i:=2) NR.nd rfl (Or.inl rfl) (aD 3))
  (bD (bN (i:=3) NR.nd rfl (Or.inl rfl) (aD 4))))))
  (bD (cH (aD 2)))))),?_⟩
 refine ⟨_,rfl,_,rfl,?_⟩;refine wK (λm σ H'=>∃(a b:Int) (c:Am),σ=[some (.int n),some (.int d),some (.int a),some (.int b),c]/\0<=b/\Int.gcd a b=Int.gcd n d/\(b=0->0<a)/\H'=H/\m=b.toNat)
  (λσ H'=>∃(c:Am),σ=[some (.int n),some (.int d),some (.int (Int.gcd n d)),some (.int 0),c]/\H'=H)
  _ ⟨n,d,none,rfl,Oo,rfl,Oo,rfl,rfl⟩ ?_ ?_
 ·rintro m σ H2 ⟨a,b,c,rfl,hb,hg,h0,rfl,rfl⟩;refine ⟨_,rfl,rfl,_,rfl,aCV (λe=>?_) (λe=>?_)⟩
  ·have hb':0<b:=by
    rcases Int.lt_or_eq_of_le hb with h | h
    ·exact h
    ·exact absurd (congrArg V.int h.symm) e
   refine ⟨_,rfl,_,rfl,_,_,rfl,rfl,hb',_,rfl,_,rfl,?_⟩;have e1:=Int.emod_lt_of_pos a hb';have e2:=Int.emod_nonneg a (b:=b) Oo;exact ⟨_,Oo,b,a % b,_,rfl,e2,by rw [FU,hg],λ_=>hb',rfl,rfl⟩
  ·have hb0:b=0:=by injection e
   subst hb0;have ha:=h0 rfl;have e1:=KI ha;rw [hg] at e1;rw [e1];exact ⟨c,rfl,rfl⟩
 ·rintro σ H2 ⟨c,rfl,rfl⟩;exact ⟨_,rfl,q⟩
def aDO(F:jP K "plus" "plus" aAw f fd)(T:kX K mg c)
  (FQ29:gR dR P w K mg base 1 "common_divisor" ["number","above_nought"] xG):eC P w K mg base dR 2 f fd ["one","other"] (sW K):=by
 refine F.oky NQ λvs H Q E h=>?_;unfold sW at h;obtain ⟨x,y,⟨a,b⟩,⟨c,d⟩,rfl,h1,h2,l1,l2,z1,z2,q⟩:=h;refine ⟨rfl,λcdv A outer s hr=>?_⟩;obtain ⟨p1,rfl,e1⟩:=h1;obtain ⟨p2,rfl,e2⟩:=h2;have pb:0<b:=l1.pos;have pd:0<d:=l2.pos;obtain ⟨za,zb⟩:=z1;obtain ⟨zc,zd⟩:=z2;dsimp only at za zb zc zd e1 e2;have hG:=jT (n:=b) pd;have zG:=yC (n:=b) pd zd;have zb':=oV zb hG;have zd':=oV zd hG;have u1:=xB za zd';have u2:=xB zc zb';have hL:=jT (n:=a*(d/(Int.gcd b d:Int))+c*(b/(Int.gcd b d:Int))) hG;have zL:=yC (n:=a*(d/(Int.gcd b d:Int))+c*(b/(Int.gcd b d:Int))) hG zG;have eq:qS (a,b) (c,d)=_:=WK l1 l2;refine ⟨_,(aH (bN (i:=2) NQ.nd rfl (Or.inl rfl) (bV FQ29 (hr.mono Dd) (aJ (bP bK (aD 0) aK (λ_ _=>rfl)) (aJ (bP bK (aD 1) aK (λ_ _=>rfl)) aE))))
  (aH (bN (i:=3) NQ.nd rfl (Or.inl rfl) (bX fU (bP bK (aD 0) aK (λ_ _=>rfl)) (aD 2)))
  (aH (bN (i:=4) NQ.nd rfl (Or.inl rfl) (bX fU (bP bK (aD 1) aK (λ_ _=>rfl)) (aD 2)))
  (aH (bN (i:=5) NQ.nd rfl (Or.inl rfl) (bX eB (bX dU (bP bK (aD 0) aK (λ_ _=>rfl)) (aD 4)) (bX dU (bP bK (aD 1) aK (λ_ _=>rfl)) (aD 3))))
  (aH (bN (i:=6) NQ.nd rfl (Or.inl rfl) (bV FQ29 (hr.mono Dd) (aJ (aD 5) (aJ (aD 2) aE))))
  (bD (cH (dI (aJ (bX fU (aD 5) (aD 6)) (aJ (bX dU (aD 3) (bX fU (bP bK (aD 1) aK (λ_ _=>rfl)) (aD 6))) aE)))))))))),?_⟩
 refine ⟨_,rfl,nS e1 rfl ?_⟩;refine ⟨_,rfl,nS e2 rfl ?_⟩;refine tJ pd ⟨_,rfl,nS e1 rfl ?_⟩;refine ⟨_,rfl,_,_,rfl,rfl,qO hG (jR zG),⟨_,rfl,nS e2 rfl ?_⟩⟩;refine ⟨_,rfl,_,_,rfl,rfl,qO hG (jR zG),⟨_,rfl,nS e1 rfl ?_⟩⟩;refine ⟨_,rfl,_,_,rfl,rfl,nT za zd',⟨_,rfl,nS e2 rfl ?_⟩⟩;refine ⟨_,rfl,_,_,rfl,rfl,nT zc zb',_,_,rfl,rfl,⟨_,rfl,_,rfl,tJ hG ?_⟩⟩;refine ⟨_,rfl,_,rfl,_,_,rfl,rfl,qO hL (jR zL),⟨_,rfl,_,rfl,nS e2 rfl ?_⟩⟩;refine ⟨_,rfl,_,_,rfl,rfl,qO hL (jR zL),_,_,rfl,rfl,nT zb' (oV zd hL),?_⟩;refine nZ (by show 2<=64;decide) λp H3 hp e3 s3=>q p H3 hp ?_ s3;rw [eq];exact e3
def aDL(F:jP K "times" "times" aAu f fd)(T:kX K mg c)
  (FQ29:gR dR P w K mg base 1 "common_divisor" ["number","above_nought"] xG):eC P w K mg base dR 2 f fd ["one","other"] (mL K):=by
 refine F.oky aBK λvs H Q E h=>?_;unfold mL at h;obtain ⟨x,y,⟨a,b⟩,⟨m,d⟩,rfl,h1,h2,l1,l2,⟨za,zb⟩,⟨zc,zd⟩,q⟩:=h;refine ⟨rfl,λcdv A outer s hr=>?_⟩;obtain ⟨p1,rfl,e1⟩:=h1;obtain ⟨p2,rfl,e2⟩:=h2;have pb:0<b:=l1.pos;have pd:0<d:=l2.pos;dsimp only at za zb zc zd e1 e2;have g1:=jT (n:=a) pd;have g2:=jT (n:=m) pb;have y1:=yC (n:=a) pd zd;have y2:=yC (n:=m) pb zb;have eq:jC (a,b) (m,d)=_:=OW l1 l2;refine ⟨_,(aH (bN (i:=2) aBK.nd rfl (Or.inl rfl) (bV FQ29 (hr.mono Dd) (aJ (bP bK (aD 0) aK (λ_ _=>rfl)) (aJ (bP bK (aD 1) aK (λ_ _=>rfl)) aE))))
  (aH (bN (i:=3) aBK.nd rfl (Or.inl rfl) (bV FQ29 (hr.mono Dd) (aJ (bP bK (aD 1) aK (λ_ _=>rfl)) (aJ (bP bK (aD 0) aK (λ_ _=>rfl)) aE))))
  (bD (cH (dI (aJ (bX dU (bX fU (bP bK (aD 0) aK (λ_ _=>rfl)) (aD 2)) (bX fU (bP bK (aD 1) aK (λ_ _=>rfl)) (aD 3))) (aJ (bX dU (bX fU (bP bK (aD 0) aK (λ_ _=>rfl)) (aD 3)) (bX fU (bP bK (aD 1) aK (λ_ _=>rfl)) (aD 2))) aE))))))),?_⟩
 refine ⟨_,rfl,nS e1 rfl ?_⟩;refine ⟨_,rfl,nS e2 rfl ?_⟩;refine tJ pd ⟨_,rfl,nS e2 rfl ?_⟩;refine ⟨_,rfl,nS e1 rfl ?_⟩;refine tJ pb ⟨_,rfl,nS e1 rfl ?_⟩;refine ⟨_,rfl,_,_,rfl,rfl,qO g1 (jR y1),⟨_,rfl,nS e2 rfl ?_⟩⟩;refine ⟨_,rfl,_,_,rfl,rfl,qO g2 (jR y2),_,_,rfl,rfl,nT (oV za g1) (oV zc g2),⟨_,rfl,nS e1 rfl ?_⟩⟩;refine ⟨_,rfl,_,_,rfl,rfl,qO g2 (jR y2),⟨_,rfl,nS e2 rfl ?_⟩⟩;refine ⟨_,rfl,_,_,rfl,rfl,qO g1 (jR y1),_,_,rfl,rfl,nT (oV zb g2) (oV zd g1),?_⟩;refine nZ (by show 2<=64;decide) λp H3 hp e3 s3=>q p H3 hp ?_ s3;rw [eq];exact e3
end
def qV{N B:Nat}{f:Fr}(h:Fn N B f)(hN:0<N)(hz:N<2^3000)(hB:B<=2^500):nG 4000 f:=by
 obtain ⟨h1,h2⟩:=h.num hN;refine ⟨?_,bC h2 (aN hz (aP Dd Dd))⟩;have h3:B*N<=2^500*2^3000:=Nat.mul_le_mul hB (Nat.le_of_lt hz);have h4:(2:Nat)^500*2^3000<2^4000:=by rw [<-Nat.pow_add];exact Nat.pow_lt_pow_right Dd Dd
 omega
structure AX(fs:Ak):Prop where
 low:∀f∈fs,cY f
 sz:∀f∈fs,nG 4000 f
 part:∀i,cY (lD (fs.take i))/\nG 4000 (lD (fs.take i))
def yS{N B:Nat}{fs:Ak}(h:∀f∈fs,Fn N B f)(hN:0<N)(hz:N<2^3000)(hl:fs.length<=64)(hB:B<=2^490):AX fs:=by
 have h5:(2:Nat)^490<=2^500:=aP Dd Dd;have h6:64*(2:Nat)^490<=2^500:=by rw [show (64:Nat)=2^6 from rfl,<-Nat.pow_add];exact aP Dd Dd
 refine ⟨λf hf=>(h f hf).low,λf hf=>qV (h f hf) hN hz (aM hB h5),λi=>?_⟩;have t:=Fn.tot (fs.take i) λf hf=>h f (List.mem_of_mem_take hf);have l:(fs.take i).length<=64:=by rw [cK];exact Oo
 have:(fs.take i).length*B<=64*2^490:=Nat.mul_le_mul l hB;exact ⟨t.low,qV t hN hz (aM this h6)⟩
structure sM(K:Aa)(H:Hp)(fs:Ak)(xs:Al):Prop where
 len:xs.length=fs.length
 at_:∀(i:Nat) (x:V),xs[i]?=some x->∃f,fs[i]?=some f/\gU K H f x
theorem sM.of{K:Aa}{H:Hp}{fs:Ak}{xs:Al}(r:aQ H (fs.map gF) xs):sM K H fs xs:=⟨eP r,λi x e=>by
 obtain ⟨f,h1,h2⟩:=fC r e;exact ⟨f,h1,gU.of h2⟩⟩
@[irreducible] def pU(K:Aa):Sp:=λvs H Q _=>∃a xs fs,vs=[.ref a]/\H a=some (.lst xs)/\sM K H fs xs/\AX fs/\∀v H',aU H H'->cE H' (gF (lD fs)) v->Q v H'
def HD{K:Aa}{H:Hp}{Q:VK}{E:XK}{a:Addr}{xs:Al}{fs:Ak}(h:H a=some (.lst xs))(r:sM K H fs xs)(ok:AX fs)(q:∀v H',aU H H'->cE H' (gF (lD fs)) v->Q v H'):pU K [.ref a] H Q E:=by unfold pU;exact ⟨a,xs,fs,rfl,h,r,ok,q⟩
section
def aDJ(F:jP K "total" "total" aAs f fd)(T:kX K mg c)
  (FQ43:gR dR P w K mg base 2 "plus" ["one","other"] (sW K)):eC P w K mg base dR 3 f fd ["some"] (pU K):=by
 refine F.oky YA λvs H Q E h=>?_;unfold pU at h;obtain ⟨a,vs,fs,rfl,ha,hv,ok,q⟩:=h;refine ⟨rfl,λcdv A outer s hr=>?_⟩;have hlen:=hv.len;refine ⟨_,(aH (bN (i:=1) YA.nd rfl (Or.inl rfl) (dI (aJ aK (aJ aK aE))))
  (aH (eY PassesOwn.never rfl (eZ (aD 0)) (cX (i:=2) YA.nd rfl (Or.inl rfl)) (bD (bN (i:=1) YA.nd rfl (Or.inl rfl) (bV FQ43 (hr.mono Dd) (aJ (aD 1) (aJ (aD 2) aE))))))
  (bD (cH (aD 1))))),?_⟩
 refine nZ (by show 2<=64;decide) λp0 H0 hp0 e0 s0=>⟨_,rfl,a,rfl,⟨_,fI.of (s0 _ _ ha)⟩,kG (xs:=vs) (λi σ H'=>∃w o2,σ=[some (.ref a),some w,o2]/\aU H H'/\cE H' (gF (lD (fs.take i))) w) ⟨_,_,rfl,s0,dJ e0⟩ (λi σ H' _ p=>?_) ?_ ?_⟩
 ·obtain ⟨w,o2,rfl,s1,_⟩:=p;exact fI.of (s1 _ _ ha)
 ·rintro i x σ H1 hx ⟨w,o2,rfl,s1,r1⟩;obtain ⟨g,hg,rg⟩:=hv.at_ i x hx;have hm:=aG hg;obtain ⟨t1,t2⟩:=ok.part i;refine ⟨_,rfl,_,rfl,MA (gU.of r1) (gU.same s1 rg) t1 (ok.low _ hm) t2 (ok.sz _ hm) ?_⟩;intro p2 H2 hp2 e2 s2;refine ⟨_,_,rfl,s1.trans s2,?_⟩;rw [eM hg,oC];exact dJ e2
 ·rintro σ H1 ⟨w,o2,rfl,s1,r1⟩;refine ⟨_,rfl,?_⟩;rw [hlen,cP] at r1;exact q _ H1 s1 r1
end
abbrev kJ(cs:Ae):PyData:=.tuple (cs.map λ(n:Nat)=>PyData.int (n:Int))
theorem GC:∀cs:Ae,fY (cs.map λ(n:Nat)=>PyData.int (n:Int))=true
 | []=>rfl
 | f::fs=>by show (fO (.int f)&&fY (fs.map λ(n:Nat)=>PyData.int (n:Int)))=true;rw [GC fs];rfl
def kH(cs:Ae):fO (kJ cs)=true:=GC cs
def zJ(K:Aa)(H:Hp)(f:Fr)(x:V):Prop:=cE H (gF f) x\/∃a,x=.ref a/\sJ K a [f.1,f.2]=true
def zJ.v{K:Aa}{H:Hp}{f:Fr}{x:V}(h:zJ K H f x):gU K H f x:=by
 rcases h with h | ⟨a,e,h⟩
 ·exact gU.of h
 ·exact ⟨a,e,EL h⟩
def zJ.t{K:Aa}{H H':Hp}{f:Fr}{x:V}(s:dA H H')(h:zJ K H f x):zJ K H' f x:=by
 rcases h with h | h
 ·exact .inl (h.flat s (cT f))
 ·exact .inr h
def zJ.same{K:Aa}{H H':Hp}{f:Fr}{x:V}(s:aU H H')(h:zJ K H f x):zJ K H' f x:=h.t s.t
def vO{H:Hp}{fs:Ah}{ws:List (Str × Ak)}{v:V}(h:cE H (pL fs ws) v):∃a af aw xf xw,v=.ref a/\H a=some (.tup [.ref af,.ref aw])/\H af=some (.tup xf)/\H aw=some (.tup xw)/\aQ H (fs.map .str) xf/\aQ H (ws.map wD) xw:=by
 obtain ⟨a,xs,rfl,ha,hr⟩:=lJ h;obtain ⟨x,y,rfl,hx,hy⟩:=lI hr;obtain ⟨af,xf,rfl,h1,h2⟩:=lJ hx;obtain ⟨aw,xw,rfl,h3,h4⟩:=lJ hy;exact ⟨a,af,aw,xf,xw,rfl,ha,h1,h3,h2,h4⟩
@[irreducible] def mB:Sp:=λvs H Q _=>∃v fs ws,vs=[v]/\cE H (pL fs ws) v/\Q (.int (ws.length:Nat)) H
def vS(h:cE H (pL fs ws) v)(q:Q (.int (ws.length:Nat)) H):mB [v] H Q E:=by unfold mB;exact ⟨v,fs,ws,rfl,h,q⟩
@[irreducible] def xE:Sp:=λvs H Q _=>∃v fs ws w,∃i:Nat,vs=[v,.int (i:Int)]/\cE H (pL fs ws) v/\ws[i]?=some w/\∀x,cE H (pP w.2) x->Q x H
def PN{H:Hp}{Q:VK}{E:XK}{v:V}{fs:Ah}{ws:List (Str × Ak)}{w:Str × Ak}{i:Nat}(h:cE H (pL fs ws) v)(hw:ws[i]?=some w)(q:∀x,cE H (pP w.2) x->Q x H):xE [v,.int (i:Int)] H Q E:=by unfold xE;exact ⟨v,fs,ws,w,i,rfl,h,hw,q⟩
structure BOk(B:Nat)(fs:Ak):Prop where
 low:∀f∈fs,cY f
 up:∀f∈fs,f.1.natAbs<=2^B
 dn:∀f∈fs,f.2.natAbs<=2^B
@[irreducible] def pV(K:Aa):Sp:=λvs H Q _=>∃x f,∃c B:Nat,vs=[x,.int (c:Int)]/\gU K H f x/\f.1.natAbs<=2^B/\f.2.natAbs<=2^B/\B<=4000/\c<=4000/\B*c<=4000/\uH H Q (uX f c)
def HE{K:Aa}(h:gU K H f x)(h1:f.1.natAbs<=2^B)(h2:f.2.natAbs<=2^B)(h3:B<=4000)(h5:c<=4000)(h4:B*c<=4000)(q:uH H Q (uX f c)):pV K [x,.int (c:Int)] H Q E:=by unfold pV;exact ⟨x,f,c,B,rfl,h,h1,h2,h3,h5,h4,q⟩
def CL{x:Int}{n:Nat}(h:x.natAbs<=2^n)(hn:n<=4000):x.natAbs<2^4001:=bC h (Nat.pow_lt_pow_right Dd Oo)
def PD{f:Fr}{n:Nat}(h1:f.1.natAbs<=2^n)(h2:f.2.natAbs<=2^n){k:Nat}(hk:n<k):nG k f:=⟨bC h1 (Nat.pow_lt_pow_right Dd hk),bC h2 (Nat.pow_lt_pow_right Dd hk)⟩
@[irreducible] def lY(K:Aa):Sp:=λvs H Q _=>∃v cv fs ws w cs,∃i:Nat,vs=[v,.int (i:Int),cv]/\cE H (pL fs ws) v/\ws[i]?=some w/\cE H (kJ cs) cv/\BOk 10 w.2/\cs.sum<=390/\∀x H',aU H H'->zJ K H' (jW (w.2.zip cs)) x->Q x H'
def vR{K:Aa}{H:Hp}{Q:VK}{E:XK}{v cv:V}{fs:Ah}{ws:List (Str × Ak)}{w:Str × Ak}{cs:Ae}{i:Nat}(h:cE H (pL fs ws) v)(hw:ws[i]?=some w)(hc:cE H (kJ cs) cv)(ok:BOk 10 w.2)(hs:cs.sum<=390)(q:∀x H',aU H H'->zJ K H' (jW (w.2.zip cs)) x->Q x H'):lY K [v,.int (i:Int),cv] H Q E:=by unfold lY;exact ⟨v,cv,fs,ws,w,cs,i,rfl,h,hw,hc,ok,hs,q⟩
def JA{α β:Type}{l:List α}{m:List β}{i:Nat}{a:α}{b:β}(h1:l[i]?=some a)(h2:m[i]?=some b):(l.zip m)[i]?=some (a,b):=by rw [List.getElem?_zip_eq_some];exact ⟨h1,h2⟩
def UG{α:Type}(l:List α)(m:Ae)(i:Nat):(((l.zip m).take i).map (·.2)).sum<=m.sum:=by
 induction l generalizing m i with
 | nil=>simp
 | cons a l ih =>
  cases m with
  | nil=>simp
  | cons b m =>
   cases i with
   | zero=>simp
   | succ i =>
    have:=ih m i;simp only [List.zip_cons_cons,List.take_succ_cons,bI,List.sum_cons];exact Oo
def lS{α β:Type}{l:List α}{m:List β}{i:Nat}{z:α × β}(h:z∈(l.zip m).take i):z.1∈l:=(List.of_mem_zip (a:=z.1) (b:=z.2) (List.mem_of_mem_take h)).1
def JI{m:Ae}{i c:Nat}(h:m[i]?=some c):c<=m.sum:=by
 induction m generalizing i with
 | nil=>simp at h
 | cons a m ih =>
  rw [List.sum_cons];cases i with
  | zero=>cases (show a=c by simpa using h);exact Oo
  | succ i=>have:=ih (i:=i) (by simpa using h);exact Oo
section
def aDH(F:jP K "ways_of" "ways_of" aAq f fd)(T:kX K mg c):eC P w K mg base dR 1 f fd ["trial"] mB:=by
 refine F.oky aEx λvs H Q E h=>?_;unfold mB at h;obtain ⟨v,fs,ws,rfl,h,q⟩:=h;refine ⟨rfl,λcdv A outer s hr=>?_⟩;obtain ⟨a,af,aw,xf,xw,rfl,ha,hf,hw,rf,rw'⟩:=vO h;refine ⟨_,(bD (cH (dX gG (by rfl) T.b_len Kk (aJ (bP bK (aD 0) aK (λ_ _=>rfl)) aE)))),?_⟩;refine ⟨_,rfl,jS ha rfl ?_⟩;refine ML hw ?_;rw [eP rw'];exact q
def aDI(F:jP K "way_shares" "way_shares" aAr f fd)(T:kX K mg c):eC P w K mg base dR 1 f fd ["trial","way"] xE:=by
 refine F.oky aEy λvs H Q E h=>?_;unfold xE at h;obtain ⟨v,fs,ws,w,i,rfl,h,hw',q⟩:=h;refine ⟨rfl,λcdv A outer s hr=>?_⟩;obtain ⟨a,af,aw,xf,xw,rfl,ha,hf,hw,rf,rw'⟩:=vO h;obtain ⟨u,hu,ru⟩:=eG rw' hw';obtain ⟨b,xs,rfl,hb,hr'⟩:=lJ ru;obtain ⟨y,z,rfl,hy,hz⟩:=lI hr';refine ⟨_,(bD (cH (bP bK (bP bK (bP bK (aD 0) aK (λ_ _=>rfl)) (aD 1) (λ_ _=>rfl)) aK (λ_ _=>rfl)))),?_⟩;refine ⟨_,rfl,jS ha rfl ?_⟩;refine ⟨_,rfl,jS hw (cV (j:=i) hu) ?_⟩;exact jS hb rfl (q _ hz)
def aDN(F:jP K "power" "power" aAv f fd)(T:kX K mg c):eC P w K mg base dR 1 f fd ["share","count"] (pV K):=by
 refine F.oky NP λvs H Q E h=>?_;unfold pV at h;obtain ⟨x,f,n,B,rfl,⟨a,rfl,ha⟩,h1,h2,h3,h5,h4,q⟩:=h;refine ⟨rfl,λcdv A outer s hr=>?_⟩;refine ⟨_,(aH (bN (i:=2) NP.nd rfl (Or.inl rfl) aK)
  (aH (bN (i:=3) NP.nd rfl (Or.inl rfl) aK)
  (aH (eY PassesOwn.never rfl (cS rfl T.b_range (aJ (aD 1) aE)) (cX (i:=4) NP.nd rfl (Or.inl rfl)) (aH (bN (i:=2) NP.nd rfl (Or.inl rfl) (bX dU (aD 2) (bP bK (aD 0) aK (λ_ _=>rfl))))
  (bD (bN (i:=3) NP.nd rfl (Or.inl rfl) (bX dU (aD 3) (bP bK (aD 0) aK (λ_ _=>rfl)))))))
  (bD (cH (dI (aJ (aD 2) (aJ (aD 3) aE)))))))),?_⟩
 refine ⟨_,rfl,_,rfl,Oo,Oo,fS (λi σ H'=>∃o4,σ=[some (.ref a),some (.int (n:Int)),some (.int (f.1^i)),some (.int (f.2^i)),o4]/\H'=H) ⟨_,by rw [Int.pow_zero,Int.pow_zero];rfl,rfl⟩ ?_ ?_⟩
 ·rintro i σ H1 hi ⟨o4,rfl,rfl⟩;have hB:B*i<=4000:=aM (Nat.mul_le_mul_left _ Oo) h4;refine ⟨_,rfl,_,rfl,nS ha rfl ?_⟩;refine ⟨_,_,rfl,rfl,nT (CL (uW h1 i) hB) (CL h1 h3),⟨_,rfl,_,rfl,nS ha rfl ?_⟩⟩;exact ⟨_,_,rfl,rfl,nT (CL (uW h2 i) hB) (CL h2 h3),⟨_,by rw [Int.pow_succ,Int.pow_succ];rfl,rfl⟩⟩
 ·rintro σ H1 ⟨o4,rfl,rfl⟩;refine ⟨_,rfl,_,rfl,?_⟩;exact nZ (by show 2<=64;decide) λq3 H3 hq3 e3 s3=>q q3 H3 hq3 (by rw [e3];rfl) s3
def aDG(F:jP K "weight" "weight" aAp f fd)(T:kX K mg c)
  (FQ49:gR dR P w K mg base 1 "way_shares" ["trial","way"] xE) (FQ46:gR dR P w K mg base 2 "times" ["one","other"] (mL K)) (FQ44:gR dR P w K mg base 1 "power" ["share","count"] (pV K)):eC P w K mg base dR 3 f fd ["trial","way","counts"] (lY K):=by
 refine F.oky TB λvs H Q E h=>?_;unfold lY at h;obtain ⟨v,cv,fs,ws,w,cs,j,rfl,h,hw,hc,ok,hs,q⟩:=h;refine ⟨rfl,λcdv A outer s hr=>?_⟩;refine ⟨_,(aH (bN (i:=3) TB.nd rfl (Or.inl rfl) (sR (v:=.ref c.ONE) rfl T.g_ONE rfl))
  (aH (eY PassesOwn.never rfl (BE true true rfl T.b_zip (aJ (bV FQ49 (hr.mono Dd) (aJ (aD 0) (aJ (aD 1) aE))) (aJ (aD 2) aE))) (sC rfl (gL (cX (i:=4) TB.nd rfl (Or.inl rfl)) (gL (cX (i:=5) TB.nd rfl (Or.inl rfl)) oT))) (bD (bN (i:=3) TB.nd rfl (Or.inl rfl) (bV FQ46 (hr.mono Dd) (aJ (aD 3) (aJ (bV FQ44 (hr.mono Dd) (aJ (aD 4) (aJ (aD 5) aE))) aE))))))
  (bD (cH (aD 3))))),?_⟩
 refine ⟨_,rfl,_,rfl,?_⟩;refine PN h hw λx rx=>?_;obtain ⟨l1,xs,rfl,h1,r1⟩:=lJ rx;obtain ⟨l2,ys,rfl,h2,r2⟩:=lJ hc;refine ⟨_,rfl,l1,l2,xs,ys,rfl,h1,h2,?_⟩;have hl1:=eP r1;have hl2:=eP r2;have zl:∀i,∀z∈(w.2.zip cs).take i,cY z.1:=λi z hz=>ok.low _ (lS hz);have zb:∀i,∀z∈(w.2.zip cs).take i,z.1.1.natAbs<=2^10/\z.1.2.natAbs<=2^10:=λi z hz=>⟨ok.up _ (lS hz),ok.dn _ (lS hz)⟩;refine KK (λi σ H'=>∃x o4 o5,σ=[some v,some (.int (j:Int)),some (.ref l2),some x,o4,o5]/\aU H H'/\zJ K H' (jW ((w.2.zip cs).take i)) x) ⟨_,_,_,rfl,aU.refl _,.inr ⟨_,rfl,T.o_ONE⟩⟩ (λi σ H' ⟨x,o4,o5,_,s',_⟩=>⟨s' _ _ h1,s' _ _ h2⟩) ?_ ?_
 ·rintro i y z q3 σ H1 H2 hy hz ⟨x,o4,o5,rfl,s1,r⟩ hq3 e3 s3;obtain ⟨g,hg,rg⟩:=fC r1 hy;obtain ⟨n,hn,rn⟩:=fC r2 hz;cases (show z=V.int (n:Int) from rn);have gm:=aG hg;have nn:=JI hn;refine ⟨q3,_,rfl,iJ.of e3,rfl,_,_,rfl,_,_,rfl,rfl,⟨_,rfl,_,rfl,_,rfl,HE (B:=10) (gU.of (rg.same (s1.trans s3))) (ok.up _ gm) (ok.dn _ gm) Dd Oo Oo ?_⟩⟩;intro q4 H4 hq4 e4 s4;obtain ⟨b1,b2⟩:=UK ((w.2.zip cs).take i) (zl i) (zb i);have zs:=UG w.2 cs i;have c1:=uW (ok.up _ gm) n;have c2:=uW (ok.dn _ gm) n;refine oX (gU.same (s3.trans s4) r.v) (gU.new (f:=uX g n) e4) (oA _ (zl i)) (lG (ok.low _ gm) n) (PD b1 b2 Oo) (PD c1 c2 Oo) ?_;intro q5 H5 hq5 e5 s5;refine ⟨_,_,_,rfl,((s1.trans s3).trans s4).trans s5,?_⟩;rw [eM (JA hg hn),qY];exact .inl (dJ e5)
 ·rintro σ H1 ⟨x,o4,o5,rfl,s1,r⟩;refine ⟨_,rfl,q _ H1 s1 ?_⟩;have e:(w.2.zip cs).take (min xs.length ys.length)=w.2.zip cs:=List.take_of_length_le (by rw [List.length_zip];exact Oo)
  rwa [e] at r
end
@[irreducible] def kP:Sp:=λvs H Q _=>∃v fs ws,vs=[v]/\cE H (pL fs ws) v/\Q (.int (fs.length:Nat)) H
def tH(h:cE H (pL fs ws) v)(q:Q (.int (fs.length:Nat)) H):kP [v] H Q E:=by unfold kP;exact ⟨v,fs,ws,rfl,h,q⟩
section
def aDX(F:jP K "faces_of" "faces_of" aAA f fd)(T:kX K mg c):eC P w K mg base dR 1 f fd ["trial"] kP:=by
 refine F.oky aEF λvs H Q E h=>?_;unfold kP at h;obtain ⟨v,fs,ws,rfl,h,q⟩:=h;refine ⟨rfl,λcdv A outer s hr=>?_⟩;obtain ⟨a,af,aw,xf,xw,rfl,ha,hf,hw,rf,rw'⟩:=vO h;refine ⟨_,(bD (cH (dX gG (by rfl) T.b_len Kk (aJ (bP bK (aD 0) aK (λ_ _=>rfl)) aE)))),?_⟩;refine ⟨_,rfl,jS ha rfl ?_⟩;refine ML hf ?_;rw [eP rf];exact q
end
def iK(H:Hp)(a:Addr)(cs:Ab):Prop:=∃vs,H a=some (.lst vs)/\aQ H (cs.map kJ) vs
theorem jU:∀cs:Ab,fY (cs.map kJ)=true
 | []=>rfl
 | c::cs=>by show (fO (kJ c)&&fY (cs.map kJ))=true;rw [jU cs,kH];rfl
theorem iK.same{H H':Hp}{a:Addr}{cs:Ab}(h:iK H a cs)(s:aU H H'):iK H' a cs:=by
 obtain ⟨vs,h1,h2⟩:=h;exact ⟨vs,s _ _ h1,h2.same s⟩
def iK.len{H:Hp}{a:Addr}{cs:Ab}(h:iK H a cs):∃vs,H a=some (.lst vs)/\aQ H (cs.map kJ) vs/\vs.length=cs.length:=by
 obtain ⟨vs,h1,h2⟩:=h;exact ⟨vs,h1,h2,eP h2⟩
theorem aQ.app{H:Hp}:∀{ds es:List PyData}{xs ys:Al},aQ H ds xs->aQ H es ys->aQ H (ds++es) (xs++ys)
 | [],es,xs,ys,h1,h2=>by
  have:xs=[]:=h1;subst this;exact h2
 | d::ds,es,xs,ys,h1,h2=>by
  unfold aQ at h1;obtain ⟨x,xs',rfl,hx,hr⟩:=(show ∃x xs',xs=x::xs'/\cE H d x/\aQ H ds xs' from h1);exact aQ.cons hx (aQ.app hr h2)
def oN{α:Type}(g:Nat->List α)(i:Nat):(List.range (i+1)).flatMap g=(List.range i).flatMap g++g i:=by
 rw [List.range_succ,List.flatMap_append];simp
@[irreducible] def mV(n:Nat):Sp:=λvs H Q _=>∃F m:Nat,vs=[.int (F:Int),.int (m:Int)]/\1<=F/\F<=n/\F<=4/\m<=5/\∀a H',aU H H'->H a=none->iK H' a (cta F m)->Q (.ref a) H'
def PR(h1:1<=F)(h2:F<=n)(h4:F<=4)(h3:m<=5)(q:∀a H',aU H H'->H a=none->iK H' a (cta F m)->Q (.ref a) H'):mV n [.int (F:Int),.int (m:Int)] H Q E:=by unfold mV;exact ⟨F,m,rfl,h1,h2,h4,h3,q⟩
def ER{n:Nat}{H:Hp}{Q:VK}{E:XK}{F m:Nat}{x y:Int}(ex:x=(F:Int))(ey:y=(m:Int))(h1:1<=F)(h2:F<=n)(h4:F<=4)(h3:m<=5)(q:∀a H',aU H H'->H a=none->iK H' a (cta F m)->Q (.ref a) H'):mV n [.int x,.int y] H Q E:=by
 subst ex ey;exact PR h1 h2 h4 h3 q
@[irreducible] def tK:Sp:=λvs H Q _=>∃F m:Nat,vs=[.int (F:Int),.int (m:Int)]/\1<=F/\F<=4/\m<=5/\∀a H',aU H H'->H a=none->iK H' a ((List.range (m+1)).flatMap (cta F))->Q (.ref a) H'
def MF(h1:1<=F)(h4:F<=4)(h3:m<=5)(q:∀a H',aU H H'->H a=none->iK H' a ((List.range (m+1)).flatMap (cta F))->Q (.ref a) H'):tK [.int (F:Int),.int (m:Int)] H Q E:=by unfold tK;exact ⟨F,m,rfl,h1,h4,h3,q⟩
def oO:∀F,F<=4->∀m,m<=5->(cta F m).length<=56:=Kk
def HV:∀F,F<=3->∀m,m<=5->∀i,i<=6->((List.range i).flatMap λk=>(cta F (m-k)).map λc=>k::c).length<=400:=Kk
def rK:∀F,F<=4->∀i,i<=6->((List.range i).flatMap (cta F)).length<=400:=Kk
def SN{F m:Nat}{c:Ae}(h:c∈cta F m):c.length=F:=(gY h).1
section
def aDs(F:jP K "counts_that_are" "counts_that_are" QA f fd)(T:kX K mg c):eC P w K mg base dR 1 f fd ["faces","many"] (mV 0):=by
 refine F.okw YD (λvs H Q E h=>?_) (λcdv A outer s H vs Q E hr h=>?_)
 ·unfold mV at h;obtain ⟨F,m,_,h1,h2,_⟩:=h;exact Oo
 ·unfold mV at h;obtain ⟨F,m,_,h1,h2,_⟩:=h;exact Oo
def aDY(n:Nat)(F:jP K "counts_that_are" "counts_that_are" QA f fd)(T:kX K mg c)(FQ33:gR dR P w K mg base (1+n) "counts_that_are" ["faces","many"] (mV n)) :
  eC P w K mg base dR (1+n+1) f fd ["faces","many"] (mV (n+1)):=by
 refine F.oky YD λvs H Q E h=>?_;unfold mV at h;obtain ⟨F,m,rfl,h1,h2,h4,hm,q⟩:=h;refine ⟨rfl,λcdv A outer s hr=>?_⟩;refine ⟨_,(aH (jF (eO vX (aD 0) aK (nomark _)) (bD (cH (iD (aJ (dI (aJ (aD 1) aE)) aE)))) fK)
  (aH (bN (i:=2) YD.nd rfl (Or.inl rfl) (iD aE))
  (aH (eY PassesOwn.never rfl (cS rfl T.b_range (aJ (bX eB (aD 1) aK) aE)) (cX (i:=3) YD.nd rfl (Or.inr rfl)) (bD (jQ (nJ PySem.F.plainAttrs_list PySem.F.slot_list_extend PySem.F.type_list_extend IB (aD 2) (aJ (gI (dP.of (psc:=aY QA) (N:=["faces","many","found","first"]) (N':=["rest","first"]) (js:=[3]) Kk rfl rfl rfl) (eZ (bV FQ33 (hr.mono Oo) (aJ (bX vA (aD 0) aK) (aJ (bX vA (aD 1) (aD 3)) aE)))) (λ_ _ _ _=>dW) (λ_ _ _ _=>(bX (tO K) (dI (aJ (aD 1) aE)) (aD 0)))) aE)))))
  (bD (cH (aD 2)))))),?_⟩
 refine ⟨_,rfl,rfl,_,rfl,sI (λe=>?_) (λe=>?_)⟩
 ·have eF:F=1:=by injection e with e;exact Oo
  subst eF;refine ⟨_,rfl,?_⟩;refine nZ (by show 1<=64;decide) λp0 H0 hp0 e0 s0=>CI (by show 1<=64;decide) λp1 H1 hp1 e1 s1=>q p1 H1 (s0.trans s1) (s0.free hp1) ⟨_,e1,?_⟩;exact aQ.cons (cE.tup (s1 _ _ e0) (aQ.cons (cE.int _) aQ.nil)) aQ.nil
 ·have eF:F≠1:=λz=>e (by rw [z];rfl);obtain ⟨G,rfl⟩:∃G,F=G+2:=⟨F-2,Oo⟩;refine CI (by show 0<=64;decide) λL H1 hL e1 s1=>⟨_,rfl,_,_,rfl,rfl,_,rfl,Oo,Oo,?_⟩;rw [show ((m:Int)+1).toNat=m+1 by omega];refine fS (λi σ H'=>∃o3,σ=[some (.int ((G+2:Nat):Int)),some (.int (m:Int)),some (.ref L),o3]/\aU H H'/\iK H' L ((List.range i).flatMap λk=>(cta (G+1) (m-k)).map λc=>k::c)) ⟨_,rfl,s1,[],e1,aQ.nil⟩ ?_ ?_
  ·rintro i σ H2 hi ⟨o3,rfl,s2,vs,e2,r2⟩;have lv:=eP r2;have sml:=HV (G+1) Oo m hm i Oo;refine ⟨_,rfl,LW e2,⟨_,rfl,_,_,rfl,rfl,⟨_,rfl,_,rfl,_,_,rfl,rfl,?_⟩⟩⟩;refine ER (F:=G+1) (m:=m-i) Oo Oo Oo Oo Oo Oo λb H3 s3 hb l3=>?_;obtain ⟨ws,e3,r3,lw3⟩:=l3.len;have sm2:=oO (G+1) Oo (m-i) Oo;refine ⟨b,rfl,⟨_,fI.of e3⟩,hV (λj y H'=>∃c,(cta (G+1) (m-i))[j]?=some c/\cE H' (kJ (i::c)) y) (λj y H1 H2 s ⟨c,h1,h2⟩=>⟨c,h1,h2.flat s (kH _)⟩) Oo e3 (λj x H' Q' hx s' k'=>?_) (λD ys H4 hD hD4 s4 hy hr4=>?_)⟩
   ·obtain ⟨c,hc,rc⟩:=fC r3 hx;obtain ⟨ac,xc,rfl,hac,rxc⟩:=lJ (rc.same s');have lc:=eP rxc;have lc2:=SN (aG hc);refine ⟨_,rfl,?_⟩;refine nZ (by show 1<=64;decide) λp4 H5 hp4 e4 s5=>⟨_,rfl,?_⟩;refine SW e4 (s5 _ _ hac) (by simp only [bT,List.length_nil];exact Oo) λp5 H6 s6 e6=>k' _ H6 (s5.trans s6) ⟨c,hc,cE.tup e6 ?_⟩;rw [show (0:Int)+(i:Int)=(i:Int) by omega];exact aQ.cons (cE.int _) (rxc.same (s5.trans s6))
   ·have S4:=s3.trans s4;have nLD:D≠L:=λz=>by subst z;rw [s3 _ _ e2] at hD;cases hD
    refine aBE (S4 _ _ e2) hD4 Oo λH5 e5 s5=>?_;have t5:=s5.t (S4 _ _ e2);refine ⟨_,rfl,aU.thru hL (s2.trans S4) s5,vs++ys,e5,?_⟩;rw [oN,bF];refine aQ.app (aQ.flat t5 (jU _) (r2.same S4)) (aQ.flat t5 (jU _) ?_);refine aQ.ofIdx (by rw [hy,aA,aA];exact Oo) λj y hj=>?_;obtain ⟨c,hc,rc⟩:=hr4 j y hj;exact ⟨_,by rw [aL,aL,hc];rfl,rc⟩
  ·rintro σ H2 ⟨o3,rfl,s2,l2⟩;exact ⟨_,rfl,q L H2 s2 hL l2⟩
def aD6(F:jP K "all_counts" "all_counts" aAG f fd)(T:kX K mg c)(FQ33:gR dR P w K mg base 5 "counts_that_are" ["faces","many"] (mV 4)) :
  eC P w K mg base dR 6 f fd ["faces","most"] tK:=by
 refine F.oky aBL λvs H Q E h=>?_;unfold tK at h;obtain ⟨F,m,rfl,h1,h4,hm,q⟩:=h;refine ⟨rfl,λcdv A outer s hr=>?_⟩;refine ⟨_,(aH (bN (i:=2) aBL.nd rfl (Or.inl rfl) (iD aE))
  (aH (eY PassesOwn.never rfl (cS rfl T.b_range (aJ (bX eB (aD 1) aK) aE)) (cX (i:=3) aBL.nd rfl (Or.inl rfl)) (bD (jQ (nJ PySem.F.plainAttrs_list PySem.F.slot_list_extend PySem.F.type_list_extend IB (aD 2) (aJ (bV FQ33 (hr.mono Dd) (aJ (aD 0) (aJ (aD 3) aE))) aE)))))
  (bD (cH (aD 2))))),?_⟩
 refine CI (by show 0<=64;decide) λL H1 hL e1 s1=>⟨_,rfl,_,_,rfl,rfl,_,rfl,Oo,Oo,?_⟩;rw [show ((m:Int)+1).toNat=m+1 by omega];refine fS (λi σ H'=>∃o3,σ=[some (.int (F:Int)),some (.int (m:Int)),some (.ref L),o3]/\aU H H'/\iK H' L ((List.range i).flatMap (cta F))) ⟨_,rfl,s1,[],e1,aQ.nil⟩ ?_ ?_
 ·rintro i σ H2 hi ⟨o3,rfl,s2,vs,e2,r2⟩;have lv:=eP r2;have sml:=rK F h4 i Oo;refine ⟨_,rfl,LW e2,⟨_,rfl,_,rfl,?_⟩⟩;refine ER (F:=F) (m:=i) rfl Oo h1 h4 h4 Oo λb H3 s3 hb l3=>?_;obtain ⟨ws,e3,r3,lw3⟩:=l3.len;have sm2:=oO F h4 i Oo;refine aBE (s3 _ _ e2) e3 Oo λH5 e5 s5=>?_;have t5:=s5.t (s3 _ _ e2);refine ⟨_,rfl,aU.thru hL (s2.trans s3) s5,vs++ws,e5,?_⟩;rw [oN,bF];exact aQ.app (aQ.flat t5 (jU _) (r2.same s3)) (aQ.flat t5 (jU _) r3)
 ·rintro σ H2 ⟨o3,rfl,s2,l2⟩;exact ⟨_,rfl,q L H2 s2 hL l2⟩
end
abbrev AO(n:Nat):V:=.int (n:Int)
theorem GG{H:Hp}:∀cs:Ae,aQ H (cs.map λ(n:Nat)=>PyData.int (n:Int)) (cs.map AO)
 | []=>aQ.nil
 | n::cs=>aQ.cons (cE.int _) (GG cs)
theorem AZ{H:Hp}:∀{cs:Ae}{xs:Al},aQ H (cs.map λ(n:Nat)=>PyData.int (n:Int)) xs->xs=cs.map AO
 | [],xs,h=>h
 | n::cs,xs,h=>by
  unfold aQ at h;obtain ⟨x,xs',rfl,hx,hr⟩:=(show ∃x xs',xs=x::xs'/\cE H (PyData.int (n:Int)) x/\aQ H (cs.map λ(n:Nat)=>PyData.int (n:Int)) xs' from h);rw [AZ hr];cases (show x=V.int (n:Int) from hx)
  rfl
def gK{H:Hp}{cs:Ae}{v:V}(h:cE H (kJ cs) v):∃a,v=.ref a/\H a=some (.tup (cs.map AO)):=by
 obtain ⟨a,xs,rfl,ha,hr⟩:=lJ h;rw [AZ hr] at ha;exact ⟨a,rfl,ha⟩
def nU{H:Hp}{cs:Ae}{a:Addr}(h:H a=some (.tup (cs.map AO))):cE H (kJ cs) (.ref a):=cE.tup h (GG cs)
def GL{cs:Ae}{i:Nat}(h:i<cs.length):bQ cs i=cs.take i++[cs.getD i 0+1]++cs.drop (i+1):=by
 unfold bQ;rw [List.set_eq_take_append_cons_drop,if_pos h,List.append_assoc]
 rfl
def JL{K:Aa}{H:Hp}{a:Addr}{xs:Al}{k:Nat}{z:Int}{Q:VK}(hz:z=(k:Int))(h:H a=some (.tup xs))(q:∀c H',aU H H'->H' c=some (.tup (xs.drop k))->Q (.ref c) H'):HR K (.ref a) (some z) none H Q:=by
 subst hz;exact aAm h q
@[irreducible] def fM:Sp:=λvs H Q _=>∃(x:V) (cs:Ae) (i:Nat),vs=[x,.int (i:Int)]/\cE H (kJ cs) x/\i<cs.length/\cs.length<=64/\∀v H',aU H H'->cE H' (kJ (bQ cs i)) v->Q v H'
def jI(h1:cE H (kJ cs) x)(h2:i<cs.length)(h3:cs.length<=64)(k:∀v H',aU H H'->cE H' (kJ (bQ cs i)) v->Q v H'):fM [x,.int (i:Int)] H Q E:=by
 unfold fM;exact ⟨x,cs,i,rfl,h1,h2,h3,k⟩
@[irreducible] def iW:Sp:=λvs H Q _=>∃(x:V) (cs:Ae),vs=[x]/\cE H (kJ cs) x/\cs.length<=64/\∀D ys H',H D=none->H' D=some (.lst ys)->aQ H' (((List.range cs.length).map (bQ cs)).map kJ) ys->aU H H'->Q (.ref D) H'
def pW(h1:cE H (kJ cs) x)(h3:cs.length<=64)(k:∀D ys H',H D=none->H' D=some (.lst ys)->aQ H' (((List.range cs.length).map (bQ cs)).map kJ) ys->aU H H'->Q (.ref D) H'):iW [x] H Q E:=by
 unfold iW;exact ⟨x,cs,rfl,h1,h3,k⟩
section
def aDR(F:jP K "one_more" "one_more" aAx f fd)(T:kX K mg c):eC P w K mg base dR 1 f fd ["counts","face"] fM:=by
 refine F.oky aEC λvs H Q E h=>?_;unfold fM at h;obtain ⟨x,cs,i,rfl,rx,hi,hl,k⟩:=h;refine ⟨rfl,λcdv A outer s hr=>?_⟩;obtain ⟨a,rfl,ha⟩:=gK rx;refine ⟨_,(bD (cH (bX (tO K) (bX (tO K) (jG (wN K) (aD 0) lA (kZ (aD 1))) (dI (aJ (bX eB (bP bK (aD 0) (aD 1) (λ_ _=>rfl)) aK) aE))) (jG (wN K) (aD 0) (kZ (bX eB (aD 1) aK)) lA)))),?_⟩;refine ⟨_,rfl,_,rfl,_,rfl,?_⟩;refine PY ha λc2 H2 s2 e2=>⟨_,rfl,_,rfl,?_⟩;have hat:yT (cs.map AO) (i:Int)=some (AO (cs.getD i 0)):=cV (by rw [aL,bH,aB hi];rfl);refine jS (s2 _ _ ha) hat ⟨_,_,rfl,rfl,?_⟩;refine nZ (by show 1<=64;decide) λc3 H3 hc3 e3 s3=>SW (s3 _ _ e2) e3 (by rw [cK,aA];show min i cs.length+1<=1000;exact Oo) λc4 H4 s4 e4=>⟨_,rfl,_,rfl,_,_,rfl,rfl,?_⟩;refine ⟨_,rfl,?_⟩;refine JL (k:=i+1) Oo (s4 _ _ (s3 _ _ (s2 _ _ ha))) λc5 H5 s5 e5=>SW (s5 _ _ e4) e5 (by rw [bE,cK,List.length_drop,aA];show min i cs.length+1+(cs.length-(i+1))<=1000;exact Oo) λc6 H6 s6 e6=>k _ H6 ((((s2.trans s3).trans s4).trans s5).trans s6) (nU ?_);rw [e6,GL hi,bF,bF,List.map_take,List.map_drop]
 rfl
def aDQ(F:jP K "ones_more" "ones_more" VG f fd)(T:kX K mg c)(FQ40:gR dR P w K mg base 1 "one_more" ["counts","face"] fM):eC P w K mg base dR 2 f fd ["counts"] iW:=by
 refine F.oky aEB λvs H Q E h=>?_;unfold iW at h;obtain ⟨x,cs,rfl,rx,hl,k⟩:=h;refine ⟨rfl,λcdv A outer s hr=>?_⟩;obtain ⟨a,rfl,ha⟩:=gK rx;refine ⟨_,(bD (cH (gI (dP.of (psc:=aY VG) (N:=["counts"]) (N':=["face","counts"]) (js:=[0]) Kk rfl rfl rfl) (cS rfl T.b_range (aJ (dX gG (by rfl) T.b_len Kk (aJ (aD 0) aE)) aE)) (λ_ _ _ _=>dW) (λ_ _ _ _=>(bV FQ40 (hr.mono Dd) (aJ (aD 1) (aJ (aD 0) aE))))))),?_⟩;refine ⟨_,rfl,ML ha ?_⟩;rw [aA];refine ⟨_,rfl,Oo,Oo,hJ (λi y H'=>i<cs.length/\cE H' (kJ (bQ cs i)) y) (λi y H1 H2 s ⟨h1,h2⟩=>⟨h1,h2.flat s (kH _)⟩) Oo (λi H' Q' hi s' k'=>?_) (λD ys H4 hD hD4 s4 hy4 hr4=>?_)⟩
 ·rw [Int.zero_add];refine ⟨_,rfl,_,rfl,?_⟩;exact jI (rx.same s') Oo hl λv H5 s5 r5=>k' _ H5 s5 ⟨Oo,r5⟩
 ·refine k D ys H4 hD hD4 ?_ s4;refine aQ.ofIdx (by rw [hy4,aA,aA,bA];exact Oo) λi y hi=>?_;obtain ⟨h1,h2⟩:=hr4 i y hi;exact ⟨kJ (bQ cs i),by rw [aL,aL,cN h1];rfl,h2⟩
end
abbrev aAD:Stmt:=(top 28)
def YG:bZ ["some","lower","one"] ["some"] (aY aAD):=⟨rfl,rfl,rfl,Kk,rfl,Kk,Kk⟩
abbrev aAt:Stmt:=(top 29)
def aEz:bZ ["one","unit"] ["one","unit"] (aY aAt):=⟨rfl,rfl,rfl,Kk,rfl,Kk,Kk⟩
@[irreducible] def mF(K:Aa):Sp:=λvs H Q _=>∃(a:Addr) (xs:Al) (fs:Ak) (N:Nat),vs=[.ref a]/\H a=some (.lst xs)/\sM K H fs xs/\0<N/\N<2^3000/\(∀f∈fs,cY f/\f.2.natAbs ∣ N)/\∀L:Nat,0<L->L ∣ N->(∀f∈fs,f.2.natAbs ∣ L)->Q (.int (L:Int)) H
def qC{K:Aa}(h1:H a=some (.lst xs))(h2:sM K H fs xs)(h3:0<N)(h4:N<2^3000)(h5:∀f∈fs,cY f/\f.2.natAbs ∣ N)(k:∀L:Nat,0<L->L ∣ N->(∀f∈fs,f.2.natAbs ∣ L)->Q (.int (L:Int)) H):mF K [.ref a] H Q E:=by
 unfold mF;exact ⟨a,xs,fs,N,rfl,h1,h2,h3,h4,h5,k⟩
section
def aD1(F:jP K "common_lower" "common_lower" aAD f fd)(T:kX K mg c)(FQ29:gR dR P w K mg base 1 "common_divisor" ["number","above_nought"] xG):eC P w K mg base dR 2 f fd ["some"] (mF K):=by
 refine F.oky YG λvs H Q E h=>?_;unfold mF at h;obtain ⟨a,xs,fs,N,rfl,ha,rx,n0,nz,hf,k⟩:=h;refine ⟨rfl,λcdv A outer s hr=>?_⟩;refine ⟨_,(aH (bN (i:=1) YG.nd rfl (Or.inl rfl) aK)
  (aH (eY PassesOwn.never rfl (eZ (aD 0)) (cX (i:=2) YG.nd rfl (Or.inl rfl)) (bD (bN (i:=1) YG.nd rfl (Or.inl rfl) (bX dU (aD 1) (bX fU (bP bK (aD 2) aK (λ_ _=>rfl)) (bV FQ29 (hr.mono Dd) (aJ (aD 1) (aJ (bP bK (aD 2) aK (λ_ _=>rfl)) aE))))))))
  (bD (cH (aD 1))))),?_⟩
 refine ⟨_,rfl,a,rfl,⟨_,fI.of ha⟩,kG (xs:=xs) (λi σ H'=>∃(L:Nat) (o2:Am),σ=[some (.ref a),some (.int (L:Int)),o2]/\H'=H/\0<L/\L ∣ N/\∀f∈fs.take i,f.2.natAbs ∣ L) ⟨1,_,rfl,rfl,Dd,Nat.one_dvd _,λf hf=>by simp at hf⟩ (λi σ H' _ q=>?_) ?_ ?_⟩
 ·obtain ⟨_,_,_,rfl,_⟩:=q;exact fI.of ha
 ·rintro i x σ H2 hx ⟨L,o2,rfl,rfl,l0,lN,lf⟩;obtain ⟨g,hg,p1,rfl,e1⟩:=rx.at_ i x hx;obtain ⟨lg,gN⟩:=hf g (aG hg);have gp:=lg.pos;obtain ⟨d,hd⟩:∃d:Nat,g.2=(d:Int):=⟨g.2.toNat,Oo⟩;have hd':g.2.natAbs=d:=Oo;have d0:0<d:=Oo;rw [hd'] at gN;have lZ:L<2^3000:=bC (kC n0 lN) nz;have dZ:d<2^3000:=bC (kC n0 gN) nz;have eg:Int.gcd (L:Int) g.2=Nat.gcd L d:=by rw [hd];rfl
  have g0:0<Nat.gcd L d:=Nat.gcd_pos_of_pos_left _ l0;have gl:Nat.gcd L d<=d:=Nat.gcd_le_right _ d0;refine ⟨_,rfl,_,rfl,nS e1 rfl ?_⟩;refine ⟨_,rfl,_,rfl,nS e1 rfl ?_⟩;refine tJ gp ?_;rw [eg];have z3:(2:Nat)^3000<=2^4000:=aP Dd Dd;have z9:(2:Nat)^3000<=2^9000:=aP Dd Dd;have zq:(g.2/((Nat.gcd L d:Nat):Int)).natAbs<2^4000:=oV (by rw [hd'];exact aN dZ z3) Oo;refine ⟨_,_,rfl,rfl,qO Oo (by show (Nat.gcd L d)<_;exact bC gl (aN dZ z9)),_,_,rfl,rfl,nT (show (L:Int).natAbs<2^4000 from aN lZ z3) zq,?_⟩;have el:(L:Int)*(g.2/((Nat.gcd L d:Nat):Int))=((Nat.lcm L d:Nat):Int):=by
   rw [hd,<-Int.natCast_ediv,<-Int.natCast_mul];congr 1;unfold Nat.lcm;rw [Nat.mul_div_assoc _ (Nat.gcd_dvd_right L d)]
  refine ⟨Nat.lcm L d,_,by rw [<-el];rfl,rfl,Nat.lcm_pos l0 d0,Nat.lcm_dvd lN gN,λf' hf'=>?_⟩;rw [eM hg] at hf';rcases cB.mp hf' with h | h
  ·exact lW (lf f' h) (Nat.dvd_lcm_left _ _)
  ·rw [bJ.mp h,hd'];exact Nat.dvd_lcm_right _ _
 ·rintro σ H2 ⟨L,o2,rfl,rfl,l0,lN,lf⟩;have lx:xs.length=fs.length:=rx.len;rw [lx,cP] at lf;exact ⟨_,rfl,k L l0 lN lf⟩
end
@[irreducible] def mC(K:Aa):Sp:=λvs H Q _=>∃(x:V) (f:Fr) (U:Nat),vs=[x,.int (U:Int)]/\gU K H f x/\cY f/\nG 4000 f/\U<2^3000/\f.2.natAbs ∣ U/\∀n:Int,(n:Rat)=rv f*(U:Rat)->Q (.int n) H
def vT{K:Aa}(h1:gU K H f x)(h2:cY f)(h3:nG 4000 f)(h4:U<2^3000)(h5:f.2.natAbs ∣ U)(k:∀n:Int,(n:Rat)=rv f*(U:Rat)->Q (.int n) H):mC K [x,.int (U:Int)] H Q E:=by
 unfold mC;exact ⟨x,f,U,rfl,h1,h2,h3,h4,h5,k⟩
section
def aDK(F:jP K "times_whole" "times_whole" aAt f fd)(T:kX K mg c):eC P w K mg base dR 1 f fd ["one","unit"] (mC K):=by
 refine F.oky aEz λvs H Q E h=>?_;unfold mC at h;obtain ⟨x,f,U,rfl,⟨p1,rfl,e1⟩,lf,zf,uz,hd,k⟩:=h;refine ⟨rfl,λcdv A outer s hr=>?_⟩;have fp:=lf.pos;obtain ⟨r,hr'⟩:=hd;have z3:(2:Nat)^3000<=2^4000:=aP Dd Dd;have eU:(U:Int)=f.2*(r:Int):=by
  rw [hr',Int.natCast_mul];congr 1;exact Oo
 refine ⟨_,(bD (cH (bX dU (bP bK (aD 0) aK (λ_ _=>rfl)) (bX fU (aD 1) (bP bK (aD 0) aK (λ_ _=>rfl)))))),?_⟩;refine ⟨_,rfl,nS e1 rfl ?_⟩;refine ⟨_,rfl,_,rfl,nS e1 rfl ?_⟩;refine ⟨_,_,rfl,rfl,qO fp (jR zf.2),_,_,rfl,rfl,nT zf.1 (oV (show (U:Int).natAbs<2^4000 from aN uz z3) fp),k _ ?_⟩;rw [eU,Int.mul_ediv_cancel_left _ Oo];have h1:=rT fp;have h2:=kM fp;have h3:(U:Rat)=(f.2:Rat)*((r:Int):Rat):=by
  rw [<-Rat.intCast_mul,<-eU];rfl
 rw [h3,Rat.intCast_mul];grind
end
abbrev aAz:Stmt:=(top 30)
def YC:bZ ["rising","some","unit","table","counts","one"] ["rising","some","unit"] (aY aAz):=⟨rfl,rfl,rfl,Kk,rfl,Kk,Kk⟩
abbrev eT(ws:List (Str × Ak)):Aj:=ws.map λx=>x.2
def ci(c:Ae):Af:=c.map λ(n:Nat)=>(n:Int)
def eJ(c:Ae):(ci c).map V.int=c.map AO:=by unfold ci;rw [List.map_map];rfl
def vJ(c:Ae):(ci c).sum=(c.sum:Nat):=by
 induction c with
 | nil=>rfl
 | cons a c ih =>
  have e:ci (a::c)=(a:Int)::ci c:=rfl;rw [e,List.sum_cons,List.sum_cons,ih];exact Oo
theorem kU:∀{a b:Ae},ci a=ci b->a=b
 | [],[],_=>rfl
 | [],b::bs,h=>by cases h
 | a::as,[],h=>by cases h
 | a::as,b::bs,h=>by
  have h:(a:Int)::ci as=(b:Int)::ci bs:=h;injection h with h1 h2;rw [kU h2,show a=b by omega]
structure DW(H:Hp)(kvs:List (List fE × V))(S:Ab)(val:Ae->Fr):Prop where
 yes:∀c∈S,∃v,fQ kvs (kT (ci c))=some v/\cE H (gF (val c)) v
 len:kvs.length<=S.length
def aR.tT{H H':Hp}{p:Addr}(s:aR p H H'){kvs:List (List fE × V)}(hp:H p=some (.dT kvs)):dA H H':=λb ys h=>s.at (pN h hp (by intro z;cases z)) h
def smQ(W F:Nat)(q:Nat->Ae->Rat)(mix ps cs:Nat->Rat):Nat->Ae->List Rat
 | 0,c=>jM W λv=>ps v*q v c
 | n+1,c=>jM W (λv=>ps v*q v c)++[cs c.sum*cM W (λv=>mix v*q v c)+cM F (λj=>EC W F q mix ps cs n (bQ c j))]
def OJ{W F:Nat}{q:Nat->Ae->Rat}{mix ps cs:Nat->Rat}(n:Nat)(c:Ae):EC W F q mix ps cs n c=iY (smQ W F q mix ps cs n c):=by cases n <;> rfl
abbrev lX(M Ns Nm Np Nc:Nat):Nat:=Np*Nc*Nm*Ns^M
section
variable{F W M:Nat}{ss:Aj}{mix ps cs:Ak}{Ns Nm Np Nc B:Nat}
def iM(I:iU F W M ss mix ps cs Ns Nm Np Nc B){C:Nat}{f:Fr}(h:Fn (lX M Ns Nm Np Nc) C f)(hC:C<=2^490):nG 4000 f:=qV h I.pos I.sz (aM hC (aP Dd Dd))
def yO(I:iU F W M ss mix ps cs Ns Nm Np Nc B){C:Nat}{fs:Ak}(h:∀f∈fs,Fn (lX M Ns Nm Np Nc) C f)(hl:fs.length<=64)(hC:C<=2^490):AX fs:=yS h I.pos I.sz hl hC
def kW:1000000000000<=2^490:=aM (show 1000000000000<=2^40 by decide) (aP Dd Dd)
def LI(I:iU F W M ss mix ps cs Ns Nm Np Nc B){n:Nat}(hn:n<=5):8^(n+1)*B<=1000000000000:=by
 have h1:8^(n+1)<=8^6:=aP Dd Oo;have:=Nat.mul_le_mul h1 I.b;have e:8^6*1000000=262144000000:=Dd;exact Oo
def kK(ss:Aj)(ps:Ak)(c:Ae)(i:Nat):Fr:=jC (ps.getD i (0,1)) (jW ((ss.getD i []).zip c))
def rM(I:iU F W M ss mix ps cs Ns Nm Np Nc B){i:Nat}(hi:i<W)(c:Ae):cY (jW ((ss.getD i []).zip c)) :=
 oA _ λz hz=>((I.sh _ (eV (by rw [I.sl];exact hi))).2 z.1 (List.of_mem_zip (a:=z.1) (b:=z.2) hz).1).low
def wX(I:iU F W M ss mix ps cs Ns Nm Np Nc B){i:Nat}(hi:i<W){c:Ae}(hc:c.sum<=M):Fn (lX M Ns Nm Np Nc) 1 (jW ((ss.getD i []).zip c)) :=
 Qn.f (rM I hi c) ((I.qn hi hc).dvd ⟨Np*Nc*Nm,by unfold lX;ac_rfl⟩)
def DM(I:iU F W M ss mix ps cs Ns Nm Np Nc B){i:Nat}(hi:i<W):Fn (lX M Ns Nm Np Nc) B (ps.getD i (0,1)) :=
 (I.pr _ (eV (by rw [I.pl];exact hi))).dvd ⟨Nc*Nm*Ns^M,by unfold lX;ac_rfl⟩
def DN(I:iU F W M ss mix ps cs Ns Nm Np Nc B){i:Nat}(hi:i<W):Fn (lX M Ns Nm Np Nc) 1 (mix.getD i (0,1)) :=
 (I.mx _ (eV (by rw [I.ml];exact hi))).dvd ⟨Np*Nc*Ns^M,by unfold lX;ac_rfl⟩
def LH(I:iU F W M ss mix ps cs Ns Nm Np Nc B){i:Nat}(hi:i<M):Fn (lX M Ns Nm Np Nc) B (cs.getD i (0,1)) :=
 (I.co _ (eV (by rw [I.cl];exact hi))).dvd ⟨Np*Nm*Ns^M,by unfold lX;ac_rfl⟩
def uF(I:iU F W M ss mix ps cs Ns Nm Np Nc B){i:Nat}(hi:i<W)(c:Ae):cY (kK ss ps c i)/\rv (kK ss ps c i)=dG ps i*dM ss i c:=by
 have h1:=(DM I hi).low;have h2:=rM I hi c;exact ⟨gO h1 h2,iH h1.pos h2.pos⟩
def YM(I:iU F W M ss mix ps cs Ns Nm Np Nc B){i:Nat}(hi:i<W){c:Ae}(hc:c.sum<=M):Fn (lX M Ns Nm Np Nc) B (kK ss ps c i) :=
 Qn.f (uF I hi c).1 (by rw [(uF I hi c).2];exact I.due hi hc)
def oR(I:iU F W M ss mix ps cs Ns Nm Np Nc B){i:Nat}(hi:i<W)(c:Ae):cY (kK ss mix c i)/\rv (kK ss mix c i)=dG mix i*dM ss i c:=by
 have h1:=(DN I hi).low;have h2:=rM I hi c;exact ⟨gO h1 h2,iH h1.pos h2.pos⟩
def GP(I:iU F W M ss mix ps cs Ns Nm Np Nc B){i:Nat}(hi:i<W){c:Ae}(hc:c.sum<=M):Fn (lX M Ns Nm Np Nc) 1 (kK ss mix c i) :=
 Qn.f (oR I hi c).1 (by rw [(oR I hi c).2];exact (I.met hi hc).dvd ⟨Np*Nc,by unfold lX;ac_rfl⟩)
end
def JN{n:Nat}{g:Nat->Fr}(h:∀i,i<n->cY (g i)):cY (lD ((List.range n).map g))/\rv (lD ((List.range n).map g))=cM n λi=>rv (g i):=by
 have hl:∀f∈(List.range n).map g,cY f:=λf hf=>by
  obtain ⟨i,hi,rfl⟩:=aX.mp hf;exact h i (bU.mp hi)
 refine ⟨sT _ hl,?_⟩;rw [BW _ hl,List.map_map];rfl
abbrev zM(F W M:Nat)(ss:Aj)(mix ps cs:Ak)(c:Ae):Fr:=iI (wor F W M ss mix ps cs c)
structure aBU(N:Nat)(qs:List Rat)(gs:Ak):Prop where
 v:gs.map rv=qs
 n:∀g∈gs,Fn N 1000000000000 g
 l0:0<gs.length
 l1:gs.length<=5
def aQ.ofRange{H:Hp}{n:Nat}{g:Nat->Fr}{ys:Al}(hl:ys.length=n)(h:∀(i:Nat) (y:V),ys[i]?=some y->i<n/\cE H (gF (g i)) y):aQ H (((List.range n).map g).map gF) ys:=by
 refine aQ.ofIdx (by rw [aA,aA,bA,hl]) λi y hi=>?_;obtain ⟨h1,h2⟩:=h i y hi;exact ⟨_,by rw [aL,aL,cN h1];rfl,h2⟩
def vL{H:Hp}{M:Nat}{bs mix cs:Ak}{v:V}(h:cE H (lV M bs mix cs) v):∃a x1 x2 x3,v=.ref a/\H a=some (.tup [.int (M:Int),x1,x2,x3])/\cE H (pP bs) x1/\cE H (pP mix) x2/\cE H (pP cs) x3:=by
 obtain ⟨a,xs,rfl,ha,hr⟩:=lJ h;unfold aQ aQ aQ aQ aQ at hr;obtain ⟨x0,_,rfl,r0,x1,_,rfl,r1,x2,_,rfl,r2,x3,_,rfl,r3,rfl⟩:=hr;cases (show x0=V.int (M:Int) from r0);exact ⟨a,x1,x2,x3,rfl,ha,r1,r2,r3⟩
def gJ{α:Type}{l:List α}{i:Nat}{a d:α}(h:l[i]?=some a):l.getD i d=a:=by rw [bH,h];rfl
structure qU(K:Aa)(H:Hp)(fs:Ak)(xs:Al):Prop where
 len:xs.length=fs.length
 at_:∀(i:Nat) (x:V),xs[i]?=some x->∃f,fs[i]?=some f/\zJ K H f x
theorem qU.t{K:Aa}{H H':Hp}{fs:Ak}{xs:Al}(s:dA H H')(h:qU K H fs xs):qU K H' fs xs:=⟨h.len,λi x e=>by
 obtain ⟨f,h1,h2⟩:=h.at_ i x e;exact ⟨f,h1,h2.t s⟩⟩
theorem qU.v{K:Aa}{H:Hp}{fs:Ak}{xs:Al}(h:qU K H fs xs):sM K H fs xs:=⟨h.len,λi x e=>by
 obtain ⟨f,h1,h2⟩:=h.at_ i x e;exact ⟨f,h1,h2.v⟩⟩
structure DI(kvs:List (List fE × V))(rs:Ab)(h:Ae->Rat):Prop where
 yes:∀c∈rs,∃n:Int,fQ kvs (kT (ci c))=some (.int n)/\(n:Rat)=h c
 no:∀c,c ∉ rs->fQ kvs (kT (ci c))=none
 len:kvs.length<=rs.length
def DI.put{kvs:List (List fE × V)}{rs:Ab}{h:Ae->Rat}(D:DI kvs rs h){c:Ae}{n:Int}(e:(n:Rat)=h c):DI (iX kvs (kT (ci c)) (.int n)) (rs++[c]) h:=by
 refine ⟨λd hd=>?_,λd hd=>?_,?_⟩
 ·rw [iG];by_cases q:d=c
  ·subst q;rw [if_pos rfl];exact ⟨n,rfl,e⟩
  ·rw [if_neg λz=>q (kU (nB z))];rcases cB.mp hd with hd | hd
   ·exact D.yes d hd
   ·exact absurd (bJ.mp hd) q
 ·rw [iG,if_neg λz=>hd (aO _ (bJ.mpr (kU (nB z))))];exact D.no d λz=>hd (bY _ z)
 ·have:=fD kvs (kT (ci c)) (V.int n);have:=D.len;rw [bE,List.length_singleton];exact Oo
@[irreducible] def mU(K:Aa):Sp:=λvs H Q _=>∃(a b:Addr) (rs:Ab) (ys:Al) (g:Ae->Fr) (U:Nat),vs=[.ref a,.ref b,.int (U:Int)]/\iK H a rs/\H b=some (.lst ys)/\qU K H (rs.map g) ys/\rs.length<=400/\U<2^3000/\(∀c∈rs,cY (g c)/\nG 4000 (g c)/\(g c).2.natAbs ∣ U)/\∀p kvs H',aU H H'->H p=none->H' p=some (.dT kvs)->DI kvs rs (λc=>rv (g c)*(U:Rat))->Q (.ref p) H'
def tF{K:Aa}{H:Hp}{Q:VK}{E:XK}{a b:Addr}{rs:Ab}{ys:Al}{g:Ae->Fr}{U:Nat}(h1:iK H a rs)(h2:H b=some (.lst ys))(h3:qU K H (rs.map g) ys)(h4:rs.length<=400)(h5:U<2^3000)(h6:∀c∈rs,cY (g c)/\nG 4000 (g c)/\(g c).2.natAbs ∣ U)
  (k:∀p kvs H',aU H H'->H p=none->H' p=some (.dT kvs)->DI kvs rs (λc=>rv (g c)*(U:Rat))->Q (.ref p) H'):mU K [.ref a,.ref b,.int (U:Int)] H Q E:=by
 unfold mU;exact ⟨a,b,rs,ys,g,U,rfl,h1,h2,h3,h4,h5,h6,k⟩
section
def aDW(F:jP K "in_units" "in_units" aAz f fd)(T:kX K mg c)(FQ47:gR dR P w K mg base 1 "times_whole" ["one","unit"] (mC K)):eC P w K mg base dR 2 f fd ["rising","some","unit"] (mU K):=by
 refine F.oky YC λvs H Q E h=>?_;unfold mU at h;obtain ⟨a,b,rs,ys,g,U,rfl,LS,hb,rb,l4,uz,hg,k⟩:=h;refine ⟨rfl,λcdv A outer s hr=>?_⟩;obtain ⟨xs,ha,rx,lx⟩:=LS.len;refine ⟨_,(aH (bN (i:=3) YC.nd rfl (Or.inl rfl) mJ)
  (aH (eY PassesOwn.never rfl (BE false false rfl T.b_zip (aJ (aD 0) (aJ (aD 1) aE))) (sC rfl (gL (cX (i:=4) YC.nd rfl (Or.inl rfl)) (gL (cX (i:=5) YC.nd rfl (Or.inl rfl)) oT))) (bD (iL hr.u1 (aD 3) (aD 4) (bV FQ47 (hr.mono Dd) (aJ (aD 5) (aJ (aD 2) aE))))))
  (bD (cH (aD 3))))),?_⟩
 intro p hp;have s1:=aU.upd (o:=.dT []) hp;have e1:(upd H p (.dT [])) p=some (.dT []):=bO;generalize upd H p (.dT [])=H1 at s1 e1;have nap:a≠p:=λz=>by rw [z,hp] at ha;cases ha
 have nbp:b≠p:=λz=>by rw [z,hp] at hb;cases hb
 refine ⟨_,rfl,_,rfl,⟨a,b,xs,ys,rfl,s1 _ _ ha,s1 _ _ hb,KK (xs:=xs) (ys:=ys) (λi σ H'=>∃(o4 o5:Am) (kvs:List (List fE × V)),σ=[some (.ref a),some (.ref b),some (.int (U:Int)),some (.ref p),o4,o5]/\aR p H1 H'/\H' p=some (.dT kvs)/\DI kvs (rs.take i) (λc=>rv (g c)*(U:Rat))) ⟨_,_,[],rfl,(aU.refl _).but,e1,⟨λc hc=>by simp at hc,λc _=>rfl,cG _⟩⟩ (λi σ H' ⟨_,_,_,_,b',_⟩=>?_) ?_ ?_⟩⟩
 ·exact ⟨b'.at nap (s1 _ _ ha),b'.at nbp (s1 _ _ hb)⟩
 ·rintro i y z q3 σ H3 H4 hy hz ⟨o4,o5,kvs,rfl,b3,e3,D3⟩ hq3 e4 s4;obtain ⟨cc,hc,rc⟩:=fC rx hy;obtain ⟨f',hf',fw⟩:=rb.at_ i z hz;have ef:f'=g cc:=by rw [aL,hc] at hf';simpa using hf'.symm
  subst ef;obtain ⟨lg,zg,dg⟩:=hg cc (aG hc);have t3:dA H1 H3:=aR.tT b3 e1;have t04:dA H H4:=(s1.t.trans t3).trans s4.t;obtain ⟨ac,rfl,hac⟩:=gK (rc.flat t04 (kH _));refine ⟨q3,_,rfl,iJ.of e4,rfl,_,_,rfl,_,_,rfl,rfl,⟨_,rfl,_,rfl,?_⟩⟩;refine vT (fw.t t04).v lg zg uz dg λn hn=>⟨_,rfl,_,rfl,?_⟩;have l3:=D3.len;rw [cK] at l3;refine SG (s4 _ _ e3) (c:=ci cc) (by rw [eJ];exact hac) Oo λH5 e5 b5=>⟨_,_,_,rfl,(b3.trans s4.but).trans b5,e5,?_⟩;rw [eM hc];exact D3.put hn
 ·rintro σ H3 ⟨o4,o5,kvs,rfl,b3,e3,D3⟩;have ly:ys.length=rs.length:=by rw [rb.len,aA]
  rw [show min xs.length ys.length=rs.length by omega,cP] at D3;exact ⟨_,rfl,k p kvs H3 (aU.thru hp s1 b3) hp e3 D3⟩
end
abbrev VI:Stmt:=(top 31)
def aC6:bZ ["trial","aim","counts","met"] ["trial","aim","counts"] (aY VI):=⟨rfl,rfl,rfl,Kk,rfl,Kk,Kk⟩
def GS(W:Nat)(ss:Aj)(mix cs:Ak)(c:Ae):Rat:=dG cs c.sum*cM W λw=>dG mix w*dM ss w c
def LG{F W M:Nat}{ss:Aj}{mix ps cs:Ak}{Ns Nm Np Nc B:Nat}(I:iU F W M ss mix ps cs Ns Nm Np Nc B){c:Ae}(hc:c.sum<M):Fn (lX M Ns Nm Np Nc) (B*4) (iI (GS W ss mix cs c)):=by
 have h1:=(I.co _ (eV (a:=(0,1)) (show c.sum<cs.length by rw [I.cl];exact hc))).q;have h2:=Qn.sumR (n:=W) λw hw=>I.met hw (Nat.le_of_lt hc);have h3:=(h1.mul h2).le (Nat.mul_le_mul_left B (show W*1<=4 by have:=I.w4;exact Oo));exact (h3.dvd ⟨Np,by unfold lX;ac_rfl⟩).fq
@[irreducible] def lE:Sp:=λvs H Q _=>∃(tv av cv:V) (fs:Ah) (ws:List (Str × Ak)) (bs mix ps cs:Ak) (c:Ae) (F W M Ns Nm Np Nc B:Nat),vs=[tv,av,cv]/\cE H (pL fs ws) tv/\cE H (lV M bs mix cs) av/\cE H (kJ c) cv/\iU F W M (eT ws) mix ps cs Ns Nm Np Nc B/\(∀x∈ws,BOk 10 x.2)/\c.sum<M/\∀v H',aU H H'->cE H' (gF (iI (GS W (eT ws) mix cs c))) v->Q v H'
def yX(h1:cE H (pL fs ws) tv)(h2:cE H (lV M bs mix cs) av)(h3:cE H (kJ c) cv)(I:iU F W M (eT ws) mix ps cs Ns Nm Np Nc B)(b:∀x∈ws,BOk 10 x.2)(hc:c.sum<M)(k:∀v H',aU H H'->cE H' (gF (iI (GS W (eT ws) mix cs c))) v->Q v H'):lE [tv,av,cv] H Q E:=by
 unfold lE;exact ⟨tv,av,cv,fs,ws,bs,mix,ps,cs,c,F,W,M,Ns,Nm,Np,Nc,B,rfl,h1,h2,h3,I,b,hc,k⟩
section
def aDU(F:jP K "look_cost" "look_cost" VI f fd)(T:kX K mg c)(FQ46:gR dR P w K mg base 2 "times" ["one","other"] (mL K))(FQ51:gR dR P w K mg base 3 "weight" ["trial","way","counts"] (lY K))(FQ50:gR dR P w K mg base 1 "ways_of" ["trial"] mB)(FQ48:gR dR P w K mg base 3 "total" ["some"] (pU K)):eC P w K mg base dR 4 f fd ["trial","aim","counts"] lE:=by
 refine F.oky aC6 λvs H Q E h=>?_;unfold lE at h;obtain ⟨tv,av,cv,fs,ws,bs,mix,ps,cs,cc,F,W,M,Ns,Nm,Np,Nc,B,rfl,rt,ra,rc,I,hbo,hc,k⟩:=h;refine ⟨rfl,λcdv A outer s hr=>?_⟩;obtain ⟨aa,xb,xm,xc,rfl,haa,rxb,rxm,rxc⟩:=vL ra;obtain ⟨am,vm,rfl,ham,rvm⟩:=kQ rxm;obtain ⟨ac,vc,rfl,hac,rvc⟩:=kQ rxc;obtain ⟨cu,rfl,hcu⟩:=gK rc;have wl:ws.length=W:=by have:=I.sl;rw [aA] at this;exact this
 have w4:=I.w4;have m5:=I.m5;refine ⟨_,(aH (iB (i:=3) (dP.of (psc:=aY VI) (N:=["trial","aim","counts","met"]) (N':=["way","trial","aim","counts"]) (js:=[0,1,2]) Kk rfl rfl rfl) aC6.nd rfl rfl (cS rfl T.b_range (aJ (bV FQ50 (hr.mono Dd) (aJ (aD 0) aE)) aE)) (λ_ _ _ _=>dW) (λ_ _ _ _=>(bV FQ46 (hr.mono Dd) (aJ (bP (iZ K) (bP (iZ K) (aD 2) aK (λ_ _=>rfl)) (aD 0) (λ_ _=>rfl)) (aJ (bV FQ51 (hr.mono Dd) (aJ (aD 1) (aJ (aD 0) (aJ (aD 3) aE)))) aE)))))
  (bD (cH (bV FQ46 (hr.mono Dd) (aJ (bP bK (bP bK (aD 1) aK (λ_ _=>rfl)) (dX (pJ K rfl) (by rfl) T.b_sum Kk (aJ (aD 2) aE)) (λ_ _=>rfl)) (aJ (bV FQ48 (hr.mono Dd) (aJ (aD 3) aE)) aE)))))),?_⟩
 refine ⟨_,rfl,vS rt ?_⟩;rw [wl];refine ⟨_,rfl,Oo,Oo,hJ (λi y H'=>i<W/\cE H' (gF (kK (eT ws) mix cc i)) y) (λi y H1 H2 s ⟨h1,h2⟩=>⟨h1,h2.flat s (cT _)⟩) Oo (λi H' Q' hi s' k'=>?_) (λD ys H1 hD e1 s1 hy hr1=>?_)⟩
 ·have hi:i<W:=Oo;obtain ⟨x,hx⟩:∃x,ws[i]?=some x:=⟨_,aB (by rw [wl];exact hi)⟩;have hxm:=aG hx;obtain ⟨g,hg⟩:∃g,mix[i]?=some g:=⟨_,aB (by rw [I.ml];exact hi)⟩;obtain ⟨vg,hvg,rvg⟩:=eG rvm hg;rw [Int.zero_add];refine ⟨_,rfl,jS (s' _ _ haa) rfl ?_⟩;refine ⟨_,rfl,jS (s' _ _ ham) (cV hvg) ?_⟩;refine ⟨_,rfl,_,rfl,_,rfl,?_⟩;refine vR (rt.same s') hx (rc.same s') (hbo x hxm) Oo λxw H2 s2 fw=>?_;have eg:mix.getD i (0,1)=g:=gJ hg;have ex:(eT ws).getD i []=x.2:=gJ (by rw [aL,hx];rfl);have n1:=DN I hi;have n2:=wX I hi (Nat.le_of_lt hc);rw [eg] at n1;rw [ex] at n2;refine oX (gU.of ((rvg.same s').same s2)) fw.v n1.low n2.low (iM I n1 (aM (show 1<=1000000000000 by decide) kW)) (iM I n2 (aM (show 1<=1000000000000 by decide) kW)) λq3 H3 hq3 e3 s3=>k' _ H3 (s2.trans s3) ⟨hi,dJ ?_⟩;unfold kK;rw [e3,eg,ex]
 have r1:aQ H1 (((List.range W).map (kK (eT ws) mix cc)).map gF) ys:=aQ.ofRange Oo hr1;have fl:∀f∈(List.range W).map (kK (eT ws) mix cc),Fn (lX M Ns Nm Np Nc) 1 f:=λf hf=>by
  obtain ⟨i,hi,rfl⟩:=aX.mp hf;exact GP I (bU.mp hi) (Nat.le_of_lt hc)
 obtain ⟨tl,tvq⟩:=JN (n:=W) (g:=kK (eT ws) mix cc) λi hi=>(oR I hi cc).1;have tn:Fn (lX M Ns Nm Np Nc) 4 (lD ((List.range W).map (kK (eT ws) mix cc))):=by
  have:=Fn.tot _ fl;rw [aA,bA] at this;exact this.le Oo
 obtain ⟨gc,hgc⟩:∃g,cs[cc.sum]?=some g:=⟨_,aB (by rw [I.cl];exact hc)⟩;obtain ⟨vgc,hvgc,rvgc⟩:=eG rvc hgc;have egc:cs.getD cc.sum (0,1)=gc:=gJ hgc;have n5:=LH I hc;rw [egc] at n5;refine ⟨_,rfl,jS (s1 _ _ haa) rfl ?_⟩;refine ⟨_,rfl,rsT (ns:=ci cc) (by rw [eJ];exact iJ.of (s1 _ _ hcu)) ?_⟩;rw [vJ];refine jS (s1 _ _ hac) (cV hvgc) ⟨_,rfl,?_⟩;refine HD e1 (sM.of r1) (yS fl I.pos I.sz (by rw [aA,bA];exact Oo) (aM (show 1<=1000000000000 by decide) kW)) λv2 H2 s2 r2=>?_;have hB:=I.b;refine oX (gU.of ((rvgc.same s1).same s2)) (gU.of r2) n5.low tl (iM I n5 (aM (show B<=1000000000000 by omega) kW)) (iM I tn (aM (show 4<=1000000000000 by decide) kW)) λq3 H3 hq3 e3 s3=>k _ H3 ((s1.trans s2).trans s3) (dJ ?_);rw [e3];have em:jC gc (lD ((List.range W).map (kK (eT ws) mix cc)))=iI (GS W (eT ws) mix cs cc):=iS (gO n5.low tl) (cF _) (by
  rw [iH n5.low.pos tl.pos,eW,tvq];unfold GS;rw [show dG cs cc.sum=rv gc by unfold dG;rw [egc]];congr 1;exact dH λi hi=>(oR I hi cc).2)
 rw [em]
end
abbrev aAO:Stmt:=(top 43)
def aEK:bZ ["_law_one","_law_other"] ["_law_one","_law_other"] (aY aAO):=⟨rfl,rfl,rfl,Kk,rfl,Kk,Kk⟩
abbrev aAR:Stmt:=(top 44)
def aEM:bZ ["_law_one","_law_other"] ["_law_one","_law_other"] (aY aAR):=⟨rfl,rfl,rfl,Kk,rfl,Kk,Kk⟩
abbrev aAK:Stmt:=(top 45)
def aEI:bZ ["_law_one","_law_other"] ["_law_one","_law_other"] (aY aAK):=⟨rfl,rfl,rfl,Kk,rfl,Kk,Kk⟩
abbrev aAP:Stmt:=(top 42)
def aEL:bZ ["_law_counts_here","_law_face"] ["_law_counts_here","_law_face"] (aY aAP):=⟨rfl,rfl,rfl,Kk,rfl,Kk,Kk⟩
abbrev sQ2:Stmt:=(top 46)
def cQ2:bZ ["_law_one","_law_other"] ["_law_one","_law_other"] (aY sQ2):=⟨rfl,rfl,rfl,Kk,rfl,Kk,Kk⟩
abbrev aAJ:Stmt:=(top 47)
def YH:bZ ["_law_some_here","_law_found","_law_one"] ["_law_some_here"] (aY aAJ):=⟨rfl,rfl,rfl,Kk,rfl,Kk,Kk⟩
abbrev aAI:Stmt:=(top 53)
def TD:bZ ["_law_trial_here","_law_way","_law_counts_here","_law_found","_law_face","_law_k"] ["_law_trial_here","_law_way","_law_counts_here"] (aY aAI):=⟨rfl,rfl,rfl,Kk,rfl,Kk,Kk⟩
abbrev sQ5:Stmt:=(top 54)
def XZ:bZ ["_law_faces","_law_most","_law_found","_law_level","_law_k","_law_more_here","_law_counts_here","_law_face"] ["_law_faces","_law_most"] (aY sQ5):=⟨rfl,rfl,rfl,Kk,rfl,Kk,Kk⟩
@[irreducible] def mR(K:Aa):Sp:=λvs H Q _=>∃x y f g,vs=[x,y]/\gU K H f x/\gU K H g y/\cY f/\cY g/\nG 4000 f/\nG 4000 g/\uH H Q (qS f g)
def mQ{K:Aa}(h1:gU K H f x)(h2:gU K H g y)(l1:cY f)(l2:cY g)(z1:nG 4000 f)(z2:nG 4000 g)(q:uH H Q (qS f g)):mR K [x,y] H Q E:=by unfold mR;exact ⟨x,y,f,g,rfl,h1,h2,l1,l2,z1,z2,q⟩
@[irreducible] def kA(K:Aa):Sp:=λvs H Q _=>∃x y f g,vs=[x,y]/\gU K H f x/\gU K H g y/\cY f/\cY g/\nG 4000 f/\nG 4000 g/\uH H Q (jC f g)
def fN{K:Aa}(h1:gU K H f x)(h2:gU K H g y)(l1:cY f)(l2:cY g)(z1:nG 4000 f)(z2:nG 4000 g)(q:uH H Q (jC f g)):kA K [x,y] H Q E:=by unfold kA;exact ⟨x,y,f,g,rfl,h1,h2,l1,l2,z1,z2,q⟩
section
def aEh(F:jP K "_law_plus" "_law_plus" aAO f fd)(T:kX K mg c)(FQ8:gR dR P w K mg base 1 "_law_frac" ["_law_n","_law_d"] jJ):eC P w K mg base dR 2 f fd ["_law_one","_law_other"] (mR K):=by
 refine F.oky aEK λvs H Q E h=>?_;unfold mR at h;obtain ⟨x,y,f,g,rfl,h1,h2,l1,l2,z1,z2,q⟩:=h;refine ⟨rfl,λcdv A outer s hr=>?_⟩;obtain ⟨p1,rfl,e1⟩:=h1;obtain ⟨p2,rfl,e2⟩:=h2;refine ⟨_,(bD (cH (bV FQ8 (hr.mono Dd) (aJ (bX eB (bX dU (bP bK (aD 0) aK (λ_ _=>rfl)) (bP bK (aD 1) aK (λ_ _=>rfl))) (bX dU (bP bK (aD 1) aK (λ_ _=>rfl)) (bP bK (aD 0) aK (λ_ _=>rfl)))) (aJ (bX dU (bP bK (aD 0) aK (λ_ _=>rfl)) (bP bK (aD 1) aK (λ_ _=>rfl))) aE))))),?_⟩;refine ⟨_,rfl,nS e1 rfl ?_⟩;refine ⟨_,rfl,nS e2 rfl ?_⟩;refine ⟨_,_,rfl,rfl,nT z1.1 z2.2,⟨_,rfl,nS e2 rfl ?_⟩⟩;refine ⟨_,rfl,nS e1 rfl ?_⟩;refine ⟨_,_,rfl,rfl,nT z2.1 z1.2,_,_,rfl,rfl,⟨_,rfl,nS e1 rfl ?_⟩⟩;refine ⟨_,rfl,nS e2 rfl ?_⟩;refine ⟨_,_,rfl,rfl,nT z1.2 z2.2,iR (Int.mul_pos l1.pos l2.pos) (jR (xB z1.2 z2.2)) ?_⟩;exact q
def aEb(F:jP K "_law_times" "_law_times" aAK f fd)(T:kX K mg c)(FQ8:gR dR P w K mg base 1 "_law_frac" ["_law_n","_law_d"] jJ):eC P w K mg base dR 2 f fd ["_law_one","_law_other"] (kA K):=by
 refine F.oky aEI λvs H Q E h=>?_;unfold kA at h;obtain ⟨x,y,f,g,rfl,h1,h2,l1,l2,z1,z2,q⟩:=h;refine ⟨rfl,λcdv A outer s hr=>?_⟩;obtain ⟨p1,rfl,e1⟩:=h1;obtain ⟨p2,rfl,e2⟩:=h2;refine ⟨_,(bD (cH (bV FQ8 (hr.mono Dd) (aJ (bX dU (bP bK (aD 0) aK (λ_ _=>rfl)) (bP bK (aD 1) aK (λ_ _=>rfl))) (aJ (bX dU (bP bK (aD 0) aK (λ_ _=>rfl)) (bP bK (aD 1) aK (λ_ _=>rfl))) aE))))),?_⟩;refine ⟨_,rfl,nS e1 rfl ?_⟩;refine ⟨_,rfl,nS e2 rfl ?_⟩;refine ⟨_,_,rfl,rfl,nT z1.1 z2.1,⟨_,rfl,nS e1 rfl ?_⟩⟩;refine ⟨_,rfl,nS e2 rfl ?_⟩;refine ⟨_,_,rfl,rfl,nT z1.2 z2.2,iR (Int.mul_pos l1.pos l2.pos) (jR (xB z1.2 z2.2)) ?_⟩;exact q
end
@[irreducible] def mE(K:Aa):Sp:=λvs H Q _=>∃a xs fs,vs=[.ref a]/\H a=some (.lst xs)/\sM K H fs xs/\AX fs/\∀v H',aU H H'->cE H' (gF (lD fs)) v->Q v H'
def nK{K:Aa}(h:H a=some (.lst xs))(r:sM K H fs xs)(ok:AX fs)(q:∀v H',aU H H'->cE H' (gF (lD fs)) v->Q v H'):mE K [.ref a] H Q E:=by unfold mE;exact ⟨a,xs,fs,rfl,h,r,ok,q⟩
section
def aEa(F:jP K "_law_total" "_law_total" aAJ f fd)(T:kX K mg c)
  (FQ14:gR dR P w K mg base 2 "_law_plus" ["_law_one","_law_other"] (mR K)):eC P w K mg base dR 3 f fd ["_law_some_here"] (mE K):=by
 refine F.oky YH λvs H Q E h=>?_;unfold mE at h;obtain ⟨a,vs,fs,rfl,ha,hv,ok,q⟩:=h;refine ⟨rfl,λcdv A outer s hr=>?_⟩;have hlen:=hv.len;refine ⟨_,(aH (bN (i:=1) YH.nd rfl (Or.inl rfl) (dI (aJ aK (aJ aK aE))))
  (aH (eY PassesOwn.never rfl (eZ (aD 0)) (cX (i:=2) YH.nd rfl (Or.inl rfl)) (bD (bN (i:=1) YH.nd rfl (Or.inl rfl) (bV FQ14 (hr.mono Dd) (aJ (aD 1) (aJ (aD 2) aE))))))
  (bD (cH (aD 1))))),?_⟩
 refine nZ (by show 2<=64;decide) λp0 H0 hp0 e0 s0=>⟨_,rfl,a,rfl,⟨_,fI.of (s0 _ _ ha)⟩,kG (xs:=vs) (λi σ H'=>∃w o2,σ=[some (.ref a),some w,o2]/\aU H H'/\cE H' (gF (lD (fs.take i))) w) ⟨_,_,rfl,s0,dJ e0⟩ (λi σ H' _ p=>?_) ?_ ?_⟩
 ·obtain ⟨w,o2,rfl,s1,_⟩:=p;exact fI.of (s1 _ _ ha)
 ·rintro i x σ H1 hx ⟨w,o2,rfl,s1,r1⟩;obtain ⟨g,hg,rg⟩:=hv.at_ i x hx;have hm:=aG hg;obtain ⟨t1,t2⟩:=ok.part i;refine ⟨_,rfl,_,rfl,mQ (gU.of r1) (gU.same s1 rg) t1 (ok.low _ hm) t2 (ok.sz _ hm) ?_⟩;intro p2 H2 hp2 e2 s2;refine ⟨_,_,rfl,s1.trans s2,?_⟩;rw [eM hg,oC];exact dJ e2
 ·rintro σ H1 ⟨w,o2,rfl,s1,r1⟩;refine ⟨_,rfl,?_⟩;rw [hlen,cP] at r1;exact q _ H1 s1 r1
end
section
def oQ2(F:jP K "_law_below" "_law_below" sQ2 f fd)(T:kX K mg c):eC P w K mg base dR 1 f fd ["_law_one","_law_other"] (rD K):=by
 refine F.oky cQ2 λvs H Q E h=>?_;unfold rD at h;obtain ⟨x,y,f,g,rfl,⟨p1,rfl,e1⟩,⟨p2,rfl,e2⟩,z1,z2,q⟩:=h;refine ⟨rfl,λcdv A outer s hr=>?_⟩;refine ⟨_,(bD (cH (BF xR (bX dU (bP bK (aD 0) aK (λ_ _=>rfl)) (bP bK (aD 1) aK (λ_ _=>rfl))) (bX dU (bP bK (aD 1) aK (λ_ _=>rfl)) (bP bK (aD 0) aK (λ_ _=>rfl))) (nomark _)))),?_⟩;refine ⟨_,rfl,nS e1 rfl ?_⟩;refine ⟨_,rfl,nS e2 rfl ?_⟩;refine ⟨_,_,rfl,rfl,nT z1.1 z2.2,⟨_,rfl,nS e2 rfl ?_⟩⟩;refine ⟨_,rfl,nS e1 rfl ?_⟩;exact ⟨_,_,rfl,rfl,nT z2.1 z1.2,_,_,rfl,rfl,q⟩
end
section
def aEj(F:jP K "_law_more" "_law_more" aAP f fd)(T:kX K mg c):eC P w K mg base dR 1 f fd ["_law_counts_here","_law_face"] fM:=by
 refine F.oky aEL λvs H Q E h=>?_;unfold fM at h;obtain ⟨x,cs,i,rfl,rx,hi,hl,k⟩:=h;refine ⟨rfl,λcdv A outer s hr=>?_⟩;obtain ⟨a,rfl,ha⟩:=gK rx;refine ⟨_,(bD (cH (bX (tO K) (bX (tO K) (jG (wN K) (aD 0) lA (kZ (aD 1))) (dI (aJ (bX eB (bP bK (aD 0) (aD 1) (λ_ _=>rfl)) aK) aE))) (jG (wN K) (aD 0) (kZ (bX eB (aD 1) aK)) lA)))),?_⟩;refine ⟨_,rfl,_,rfl,_,rfl,?_⟩;refine PY ha λc2 H2 s2 e2=>⟨_,rfl,_,rfl,?_⟩;have hat:yT (cs.map AO) (i:Int)=some (AO (cs.getD i 0)):=cV (by rw [aL,bH,aB hi];rfl);refine jS (s2 _ _ ha) hat ⟨_,_,rfl,rfl,?_⟩;refine nZ (by show 1<=64;decide) λc3 H3 hc3 e3 s3=>SW (s3 _ _ e2) e3 (by rw [cK,aA];show min i cs.length+1<=1000;exact Oo) λc4 H4 s4 e4=>⟨_,rfl,_,rfl,_,_,rfl,rfl,?_⟩;refine ⟨_,rfl,?_⟩;refine JL (k:=i+1) Oo (s4 _ _ (s3 _ _ (s2 _ _ ha))) λc5 H5 s5 e5=>SW (s5 _ _ e4) e5 (by rw [bE,cK,List.length_drop,aA];show min i cs.length+1+(cs.length-(i+1))<=1000;exact Oo) λc6 H6 s6 e6=>k _ H6 ((((s2.trans s3).trans s4).trans s5).trans s6) (nU ?_);rw [e6,GL hi,bF,bF,List.map_take,List.map_drop]
 rfl
end
theorem mG{α:Type}[DecidableEq α]:∀{l m:List α},l.Nodup->(∀x∈l,x∈m)->l.length<=m.length
 | [],m,_,_=>cG _
 | x::l,m,h,hs=>by
  rw [List.nodup_cons] at h;have hx:=hs x (aS ..);have h1:=mG (l:=l) (m:=m.erase x) h.2 λy hy=>(List.mem_erase_of_ne (λe=>by subst e;exact h.1 hy)).mpr (hs y (aT _ hy));rw [List.length_erase_of_mem hx] at h1;have:0<m.length:=List.length_pos_of_mem hx;rw [bT];exact Oo
def RV{kvs:List (List fE × V)}{ks:Ac}{v:V}(c:Af)(hk:kvs.map (·.1)=ks.map kT)(nd:ks.Nodup):∃ks2:Ac,(iX kvs (kT c) v).map (·.1)=ks2.map kT/\ks2.Nodup/\∀x,x∈ks2↔x∈ks\/x=c:=by
 cases e:fQ kvs (kT c) with
 | some u =>
  refine ⟨ks,by rw [rW (by rw [e];rfl),hk],nd,λx=>⟨.inl,λh=>?_⟩⟩;rcases h with h | rfl
  ·exact h
  ·have:kT x∈kvs.map (·.1):=UP e;rw [hk] at this;obtain ⟨y,hy,ey⟩:=aX.mp this;rw [<-nB ey];exact hy
 | none =>
  have hn:c ∉ ks:=λh=>by
   have:kT c∈kvs.map (·.1):=by rw [hk];exact List.mem_map_of_mem h
   exact OS e this
  refine ⟨ks++[c],by rw [QS v e,bF,bF,hk];rfl,List.nodup_append.mpr ⟨nd,by simp,λa ha b hb e=>by cases bJ.mp hb;subst e;exact hn ha⟩,λx=>by rw [cB,bJ]⟩
def KW:∀F,F<=4->∀m,m<=5->((cta F m).map ci).Pairwise (λa b=>jX a b=true):=Kk
def QJ:∀F,F<=4->∀M,M<=5->(rise F M).length<=400:=λF hF M hM=>rK F hF (M+1) Oo
@[irreducible] def kO:Sp:=λvs H Q _=>∃(tv cv:V) (fs:Ah) (ws:List (Str × Ak)) (x:Str × Ak) (cs:Ae) (i N:Nat),vs=[tv,.int (i:Int),cv]/\cE H (pL fs ws) tv/\ws[i]?=some x/\cE H (kJ cs) cv/\x.2.length=cs.length/\(∀f∈x.2,Fn N 1 f)/\0<N/\N^cs.sum<2^3000/\cs.length<=4/\cs.sum<=100/\∀v H',aU H H'->cE H' (gF (jW (x.2.zip cs))) v->Q v H'
def sY{H:Hp}{Q:VK}{E:XK}{tv cv:V}{fs:Ah}{ws:List (Str × Ak)}{x:Str × Ak}{cs:Ae}{i N:Nat}(h1:cE H (pL fs ws) tv)(h2:ws[i]?=some x)(h3:cE H (kJ cs) cv)(h4:x.2.length=cs.length)(h5:∀f∈x.2,Fn N 1 f)(h6:0<N)(h7:N^cs.sum<2^3000)(h8:cs.length<=4)(h9:cs.sum<=100)(k:∀v H',aU H H'->cE H' (gF (jW (x.2.zip cs))) v->Q v H'):kO [tv,.int (i:Int),cv] H Q E:=by
 unfold kO;exact ⟨tv,cv,fs,ws,x,cs,i,N,rfl,h1,h2,h3,h4,h5,h6,h7,h8,h9,k⟩
def OX{cs:Ae}{i n:Nat}(h:cs[i]?=some n):(cs.take i).sum+n<=cs.sum:=by
 have e:cs.take (i+1)=cs.take i++[n]:=eM h;have:=List.take_append_drop (i+1) cs;have h2:=congrArg List.sum this;rw [e,List.sum_append,List.sum_append,List.sum_singleton] at h2;exact Oo
@[irreducible] def mT:Sp:=λvs H Q _=>∃F M:Nat,vs=[.int (F:Int),.int (M:Int)]/\2<=F/\F<=4/\M<=5/\∀a H',aU H H'->H a=none->iK H' a (rise F M)->Q (.ref a) H'
def BR(h1:2<=F)(h2:F<=4)(h3:M<=5)(k:∀a H',aU H H'->H a=none->iK H' a (rise F M)->Q (.ref a) H'):mT [.int (F:Int),.int (M:Int)] H Q E:=by
 unfold mT;exact ⟨F,M,rfl,h1,h2,h3,k⟩
def ctI(c:Ae):PyData.tuple ((ci c).map .int)=kJ c:=by unfold ci;rw [List.map_map];rfl
section
def aD8(F:jP K "_law_weight" "_law_weight" aAI f fd)(T:kX K mg c)(FQ20:gR dR P w K mg base 2 "_law_times" ["_law_one","_law_other"] (kA K)):eC P w K mg base dR 3 f fd ["_law_trial_here","_law_way","_law_counts_here"] kO:=by
 refine F.oky TD λvs H Q E h=>?_;unfold kO at h;obtain ⟨tv,cv,fs,ws,x,cs,iw,N,rfl,rt,hx,rc,hl,hN,N0,Nz,c4,c100,k⟩:=h;refine ⟨rfl,λcdv A outer s hr=>?_⟩;obtain ⟨at_,af,aw,xf,xw,rfl,hat,hf,hw,rf,rw'⟩:=vO rt;obtain ⟨u,hu,ru⟩:=eG rw' hx;obtain ⟨b,us,rfl,hb,rus⟩:=lJ ru;obtain ⟨y,z,rfl,hy,hz⟩:=lI rus;obtain ⟨as_,xs,rfl,has,rxs⟩:=kQ hz;obtain ⟨ac,rfl,hac⟩:=gK rc;refine ⟨_,(aH (bN (i:=3) TD.nd rfl (Or.inl rfl) (dI (aJ aK (aJ aK aE))))
  (aH (eY PassesOwn.never rfl (cS rfl T.b_range (aJ (dX gG (by rfl) T.b_len Kk (aJ (aD 2) aE)) aE)) (cX (i:=4) TD.nd rfl (Or.inl rfl)) (bD (eY PassesOwn.never rfl (cS rfl T.b_range (aJ (bP bK (aD 2) (aD 4) (λ_ _=>rfl)) aE)) (cX (i:=5) TD.nd rfl (Or.inl rfl)) (bD (bN (i:=3) TD.nd rfl (Or.inl rfl) (bV FQ20 (hr.mono Dd) (aJ (aD 3) (aJ (bP bK (bP bK (bP bK (bP bK (aD 0) aK (λ_ _=>rfl)) (aD 1) (λ_ _=>rfl)) aK (λ_ _=>rfl)) (aD 4) (λ_ _=>rfl)) aE))))))))
  (bD (cH (aD 3))))),?_⟩
 refine nZ (by show 2<=64;decide) λq0 H0 hq0 e0 s0=>⟨_,rfl,?_⟩;refine ML (s0 _ _ hac) ?_;rw [aA];refine ⟨_,rfl,Oo,Oo,?_⟩;rw [Int.toNat_natCast];have low:∀i,∀z∈(x.2.zip cs).take i,cY z.1:=λi z hz=>(hN _ (lS hz)).low;refine fS (λi σ H'=>∃(v:V) (f:Fr) (o4 o5:Am),σ=[some (.ref at_),some (.int (iw:Int)),some (.ref ac),some v,o4,o5]/\aU H H'/\cE H' (gF f) v/\cY f/\Qn (N^(cs.take i).sum) 1 (rv f)/\rv f=rv (jW ((x.2.zip cs).take i))) ⟨_,(1,1),_,_,rfl,s0,dJ e0,RP,?_,rfl⟩ ?_ ?_
 ·rw [List.take_zero];exact ⟨1,by rw [sD];simp,by simp⟩
 ·rintro i σ H1 hi ⟨v,f,o4,o5,rfl,S1,r1,l1,q1,e1⟩;obtain ⟨n,hn⟩:∃n,cs[i]?=some n:=⟨_,aB hi⟩;obtain ⟨g,hg⟩:∃g,x.2[i]?=some g:=⟨_,aB Oo⟩;have fg:=hN g (aG hg);obtain ⟨vg,hvg,rvg⟩:=eG rxs hg;have ts:=OX hn;rw [show (0:Int)+(i:Int)=(i:Int) by omega];refine ⟨_,rfl,_,rfl,?_⟩;have hat':yT (cs.map AO) (i:Int)=some (AO n):=cV (by rw [aL,hn];rfl);refine jS (S1 _ _ hac) hat' ⟨_,rfl,Oo,Oo,?_⟩;rw [Int.toNat_natCast];refine fS (λj σ H'=>∃(v:V) (f:Fr) (o5:Am),σ=[some (.ref at_),some (.int (iw:Int)),some (.ref ac),some v,some (.int (i:Int)),o5]/\aU H H'/\cE H' (gF f) v/\cY f/\Qn (N^((cs.take i).sum+j)) 1 (rv f)/\rv f=rv (jW ((x.2.zip cs).take i))*rv g^j) ⟨v,f,_,rfl,S1,r1,l1,q1,by rw [e1,Rat.pow_zero];grind⟩ ?_ ?_
  ·rintro j σ H2 hj ⟨v2,f2,o5',rfl,S2,r2,l2,q2,e2⟩;refine ⟨_,rfl,_,rfl,jS (S2 _ _ hat) rfl ?_⟩;refine ⟨_,rfl,jS (S2 _ _ hw) (cV hu) ?_⟩;refine jS (S2 _ _ hb) rfl ⟨_,rfl,jS (S2 _ _ has) (cV hvg) ?_⟩;have nz:∀{m:Nat},m<=cs.sum->0<N^m/\N^m<2^3000:=λhm=>⟨Nat.pow_pos N0,bC (aP N0 hm) Nz⟩;have z1:nG 4000 f2:=qV (Qn.f l2 q2) (nz Oo).1 (nz Oo).2 (Nat.one_le_two_pow);have z2:nG 4000 g:=by
    have h1:=nz (m:=1) Oo;rw [Nat.pow_one] at h1;exact qV fg h1.1 h1.2 (Nat.one_le_two_pow)
   refine fN (gU.of r2) (gU.of (rvg.same S2)) l2 fg.low z1 z2 ?_;intro q3 H3 hq3 e3 s3;refine ⟨_,jC f2 g,_,rfl,S2.trans s3,dJ e3,gO l2 fg.low,?_,?_⟩
   ·rw [iH l2.pos fg.low.pos,<-Nat.add_assoc,Nat.pow_succ];exact q2.mul fg.q
   ·rw [iH l2.pos fg.low.pos,e2,Rat.pow_succ];grind
  ·rintro σ H2 ⟨v2,f2,o5',rfl,S2,r2,l2,q2,e2⟩;refine ⟨v2,f2,_,_,rfl,S2,r2,l2,?_,?_⟩
   ·rw [eM hn,List.sum_append,List.sum_singleton];exact q2
   ·rw [eM (JA hg hn),qY,iH (oA _ (low i)).pos (lG fg.low n).pos,HP fg.low,e2]
 ·rintro σ H1 ⟨v,f,o4,o5,rfl,S1,r1,l1,q1,e1⟩;refine ⟨_,rfl,?_⟩;rw [List.take_of_length_le (by rw [List.length_zip];exact Oo)] at e1;have:f=jW (x.2.zip cs):=iS l1 (oA _ λz hz=>(hN z.1 (List.of_mem_zip (a:=z.1) (b:=z.2) hz).1).low) e1;rw [this] at r1;exact k v H1 S1 r1
def oQ5(F:jP K "_law_counts" "_law_counts" sQ5 f fd)(T:kX K mg c)(FQ12:gR dR P w K mg base 1 "_law_more" ["_law_counts_here","_law_face"] fM):eC P w K mg base dR 2 f fd ["_law_faces","_law_most"] mT:=by
 refine F.oky XZ λvs H Q E h=>?_;unfold mT at h;obtain ⟨F,M,rfl,f2,f4,m5,k⟩:=h;refine ⟨rfl,λcdv A outer s hr=>?_⟩;refine ⟨_,(aH (bN (i:=2) XZ.nd rfl (Or.inl rfl) (iD (aJ (bX CG (dI (aJ aK aE)) (aD 0)) aE)))
  (aH (bN (i:=3) XZ.nd rfl (Or.inl rfl) (pK uA (by rfl) T.b_list Kk (aJ (aD 2) aE)))
  (aH (eY PassesOwn.never rfl (cS rfl T.b_range (aJ (aD 1) aE)) (cX (i:=4) XZ.nd rfl (Or.inl rfl)) (aH (bN (i:=5) XZ.nd rfl (Or.inl rfl) mJ)
  (aH (eY PassesOwn.never rfl (eZ (aD 3)) (cX (i:=6) XZ.nd rfl (Or.inl rfl)) (bD (eY PassesOwn.never rfl (cS rfl T.b_range (aJ (aD 0) aE)) (cX (i:=7) XZ.nd rfl (Or.inl rfl)) (bD (iL hr.u1 (aD 5) (bV FQ12 (hr.mono Dd) (aJ (aD 6) (aJ (aD 7) aE))) rQ)))))
  (aH (bN (i:=3) XZ.nd rfl (Or.inl rfl) (dX (LB rfl) (by rfl) T.b_sorted Kk (aJ (aD 5) aE)))
  (bD (bN (i:=2) XZ.nd rfl (Or.inl rfl) (bX xS (aD 2) (aD 3))))))))
  (bD (cH (aD 2)))))),?_⟩
 refine nZ (by show 1<=64;decide) λq1 H1 hq1 e1 s1=>⟨_,rfl,?_⟩;refine aBn (k:=F) e1 f2 Oo λq2 H2 s2 e2=>CI (by show 1<=64;decide) λq3 H3 hq3 e3 s3=>?_;have r3:aQ H3 ((cta F 0).map kJ) [.ref q2]:=by
  rw [yG F Oo];refine aQ.cons (nU ?_) aQ.nil;rw [s3 _ _ e2,List.map_replicate];rfl
 have S3:=(s1.trans s2).trans s3;refine ⟨_,rfl,q3,_,rfl,.inl (fI.of e3),λq4 hq4=>?_⟩;have s4:=aU.upd (o:=.lst [V.ref q2]) hq4;have e4:(upd H3 q4 (.lst [V.ref q2])) q4=some (.lst [V.ref q2]):=bO;generalize upd H3 q4 (.lst [V.ref q2])=H4 at s4 e4;refine ⟨_,rfl,_,rfl,Oo,Oo,?_⟩;rw [Int.toNat_natCast];refine fS (λi σ H'=>∃(a b:Addr) (xs ys:Al) (o4 o5 o6 o7:Am),σ=[some (.int (F:Int)),some (.int (M:Int)),some (.ref a),some (.ref b),o4,o5,o6,o7]/\aU H H'/\H a=none/\H' a=some (.lst xs)/\aQ H' ((rise F i).map kJ) xs/\H' b=some (.lst ys)/\aQ H' ((cta F i).map kJ) ys)
  ⟨q3,q4,_,_,_,_,_,_,rfl,S3.trans s4,(s1.trans s2).free hq3,s4 _ _ e3,by rw [MM];exact r3.same s4,e4,r3.same s4⟩ ?_ ?_
 ·rintro i σ H5 hi ⟨a,b,xs,ys,o4,o5,o6,o7,rfl,S5,ha0,ea,ra,eb,rb⟩;have cs1:=oO F f4 i Oo;have cs2:=oO F f4 (i+1) Oo;have lys:ys.length=(cta F i).length:=eP rb;intro p hp;have s6:=aU.upd (o:=.dT []) hp;have e6:(upd H5 p (.dT [])) p=some (.dT []):=bO;generalize upd H5 p (.dT [])=H6 at s6 e6;have nap:a≠p:=λz=>by rw [z,hp] at ea;cases ea
  have nbp:b≠p:=λz=>by rw [z,hp] at eb;cases eb
  refine ⟨_,rfl,b,rfl,⟨_,fI.of (s6 _ _ eb)⟩,?_⟩;have key:∀(j:Nat) (d:Af),(∃c∈(cta F i).take j,∃f,f<F/\d=ci (bQ c f))->d∈(cta F (i+1)).map ci:=λj d ⟨c,hc,f,hf,e⟩=>aX.mpr ⟨bQ c f,(tY Oo).mpr ⟨c,List.mem_of_mem_take hc,f,hf,rfl⟩,e.symm⟩;refine kG (xs:=ys) (λj σ H'=>∃(o6 o7:Am) (kvs:List (List fE × V)) (ks:Ac),σ=[some (.int (F:Int)),some (.int (M:Int)),some (.ref a),some (.ref b),some (.int (0+(i:Nat))),some (.ref p),o6,o7]/\aR p H6 H'/\H' p=some (.dT kvs)/\kvs.map (·.1)=ks.map kT/\ks.Nodup/\∀d,d∈ks ↔ ∃c∈(cta F i).take j,∃f,f<F/\d=ci (bQ c f))
   ⟨_,_,[],[],rfl,(aU.refl _).but,e6,rfl,List.nodup_nil,λd=>⟨(λh=>by cases h),λ⟨c,hc,_⟩=>by rw [List.take_zero] at hc;cases hc⟩⟩ (λj σ H' _ q=>?_) ?_ ?_
  ·obtain ⟨_,_,_,_,_,b',_⟩:=q;exact fI.of (b'.at nbp (s6 _ _ eb))
  ·rintro j x σ H7 hx ⟨o6',o7',kvs,ks,rfl,b7,e7,hk,nd,hm⟩;obtain ⟨cc,hc,rc⟩:=fC rb hx;have t7:dA H6 H7:=aR.tT b7 e6;have rc7:cE H7 (kJ cc) x:=(rc.same s6).flat t7 (kH _);obtain ⟨lc,_⟩:=gY (aG hc);refine ⟨_,rfl,_,rfl,Oo,Oo,?_⟩;rw [Int.toNat_natCast];refine fS (λg σ H'=>∃(o7:Am) (kvs:List (List fE × V)) (ks:Ac),σ=[some (.int (F:Int)),some (.int (M:Int)),some (.ref a),some (.ref b),some (.int (0+(i:Nat))),some (.ref p),some x,o7]/\aR p H7 H'/\H' p=some (.dT kvs)/\kvs.map (·.1)=ks.map kT/\ks.Nodup/\∀d,d∈ks↔(∃c∈(cta F i).take j,∃f,f<F/\d=ci (bQ c f))\/∃f,f<g/\d=ci (bQ cc f))
    ⟨_,kvs,ks,rfl,(aU.refl _).but,e7,hk,nd,λd=>by rw [hm];exact ⟨.inl,λh=>by rcases h with h | ⟨f,hf,_⟩;exact h;omega⟩⟩ ?_ ?_
   ·rintro g σ H8 hg ⟨o7'',kvs8,ks8,rfl,b8,e8,hk8,nd8,hm8⟩;have t8:dA H7 H8:=aR.tT b8 e7;rw [show (0:Int)+(g:Int)=(g:Int) by omega];refine ⟨_,rfl,_,rfl,_,rfl,?_⟩;refine jI (i:=g) (rc7.flat t8 (kH _)) Oo Oo λv9 H9 s9 r9=>?_;obtain ⟨a9,rfl,h9⟩:=gK r9;have lk:ks8.length<=56:=by
     have:=mG nd8 (m:=(cta F (i+1)).map ci) λd hd=>by
      rcases (hm8 d).mp hd with h | ⟨f,hf,e⟩
      ·exact key j d h
      ·exact key (j+1) d ⟨cc,by rw [eM hc];exact aO _ (bJ.mpr rfl),f,Oo,e⟩
     rw [aA] at this;exact Oo
    have lkv:kvs8.length=ks8.length:=by have:=congrArg List.length hk8;simpa using this
    have e9p:=s9 _ _ e8;refine SG e9p (c:=ci (bQ cc g)) (by rw [eJ];exact h9) Oo λH10 e10 b10=>?_;obtain ⟨ks2,k1,k2,k3⟩:=RV (v:=.bl true) (ci (bQ cc g)) hk8 nd8;refine ⟨_,_,ks2,rfl,(b8.trans s9.but).trans b10,e10,k1,k2,λd=>?_⟩;rw [k3,hm8];constructor
    ·rintro ((h | ⟨f,hf,e⟩) | h)
     ·exact .inl h
     ·exact .inr ⟨f,Oo,e⟩
     ·exact .inr ⟨g,Oo,h⟩
    ·rintro (h | ⟨f,hf,e⟩)
     ·exact .inl (.inl h)
     ·by_cases q:f=g
      ·subst q;exact .inr e
      ·exact .inl (.inr ⟨f,Oo,e⟩)
   ·rintro σ H8 ⟨o7'',kvs8,ks8,rfl,b8,e8,hk8,nd8,hm8⟩;refine ⟨_,_,kvs8,ks8,rfl,b7.trans b8,e8,hk8,nd8,λd=>?_⟩;rw [hm8,eM hc];constructor
    ·rintro (⟨c,hc',f,hf,e⟩ | ⟨f,hf,e⟩)
     ·exact ⟨c,bY _ hc',f,hf,e⟩
     ·exact ⟨cc,aO _ (bJ.mpr rfl),f,hf,e⟩
    ·rintro ⟨c,hc',f,hf,e⟩;rcases cB.mp hc' with h | h
     ·exact .inl ⟨c,h,f,hf,e⟩
     ·rw [bJ.mp h] at e;exact .inr ⟨f,hf,e⟩
  ·rintro σ H7 ⟨o6',o7',kvs,ks,rfl,b7,e7,hk,nd,hm⟩;rw [lys,cP] at hm;have hmem:∀d,d∈ks↔d∈(cta F (i+1)).map ci:=λd=>by
    rw [hm,aX];constructor
    ·rintro ⟨c,hc,f,hf,e⟩;exact ⟨bQ c f,(tY Oo).mpr ⟨c,hc,f,hf,rfl⟩,e.symm⟩
    ·rintro ⟨d',hd',rfl⟩;obtain ⟨c,hc,f,hf,rfl⟩:=(tY Oo).mp hd';exact ⟨c,hc,f,hf,rfl⟩
   have lk:ks.length<=56:=by
    have:=mG nd (m:=(cta F (i+1)).map ci) λd hd=>(hmem d).mp hd;rw [aA] at this;exact Oo
   refine ⟨_,rfl,?_⟩;refine rsrd (cs:=ks) e7 hk (λc hc=>?_) Oo λq8 ys8 ds H8 pm pw hq8 e8 r8 s8=>?_
   ·obtain ⟨d,hd,rfl⟩:=aX.mp ((hmem c).mp hc);obtain ⟨l1,_⟩:=gY hd;intro z;have e:(ci d).length=d.length:=by unfold ci;rw [aA]
    rw [z,List.length_nil] at e;exact Oo
   have eds:ds=(cta F (i+1)).map ci:=tS pw (KW F f4 (i+1) Oo) λd=>by rw [pm.mem_iff];exact hmem d
   rw [eds,List.map_map,show (cta F (i+1)).map ((λc:Af=>PyData.tuple (c.map .int)) ∘ ci)=(cta F (i+1)).map kJ from eI λc _=>ctI c] at r8;have t7:dA H5 H7:=s6.t.trans (aR.tT b7 e6);have S7:aU H H7:=aU.thru (S5.free hp) (S5.trans s6) b7;have ea8:H8 a=some (.lst xs):=s8 _ _ (b7.at nap (s6 _ _ ea));have ra8:=(aQ.flat t7 (jU _) ra).same s8;have l8:ys8.length<=56:=by rw [eP r8];exact cs2
   have lxs:xs.length<=400:=by rw [eP ra];exact QJ F f4 i Oo
   refine ⟨_,rfl,_,rfl,?_⟩;refine SX ea8 e8 Oo λq9 H9 hq9 e9 s9=>⟨q9,q8,_,_,_,_,_,_,rfl,(S7.trans s8).trans s9,(S7.trans s8).free hq9,e9,?_,s9 _ _ e8,r8.same s9⟩;rw [MN,bF];exact aQ.app (ra8.same s9) (r8.same s9)
 ·rintro σ H5 ⟨a,b,xs,ys,o4,o5,o6,o7,rfl,S5,ha0,ea,ra,eb,rb⟩;exact ⟨_,rfl,k a H5 S5 ha0 ⟨xs,ea,ra⟩⟩
end
abbrev MK:Stmt:=(top 55)
def DD:bZ ["_law_trial_here","_law_aim_here","_law_prices","_law_known","_law_counts_here","_law_weights","_law_found","_law_say","_law_parts","_law_k","_law_share","_law_some_here","_law_face"] ["_law_trial_here","_law_aim_here","_law_prices","_law_known","_law_counts_here"] (aY MK):=⟨rfl,rfl,rfl,Kk,rfl,Kk,Kk⟩
abbrev aAH:Stmt:=(top 56)
def TC:bZ ["_law_trial_here","_law_aim_here","_law_prices","_law_known","_law_counts_here","_law_some_here","_law_one"] ["_law_trial_here","_law_aim_here","_law_prices"] (aY aAH):=⟨rfl,rfl,rfl,Kk,rfl,Kk,Kk⟩
def sE:∀F,F<=4->∀M,M<=5->(rise F M).length<=400:=λF hF M hM=>rK F hF (M+1) Oo
@[irreducible] def pX:Sp:=λvs H Q _=>∃(tv av pv cv:V) (p:Addr) (fs:Ah) (ws:List (Str × Ak)) (bs mix ps cs:Ak) (c:Ae) (kvs:List (List fE × V)) (F W M Ns Nm Np Nc B:Nat),vs=[tv,av,pv,.ref p,cv]/\cE H (pL fs ws) tv/\cE H (lV M bs mix cs) av/\cE H (pP ps) pv/\cE H (kJ c) cv/\H p=some (.dT kvs) /\
 iU F W M (eT ws) mix ps cs Ns Nm Np Nc B/\0<Ns/\c.length=F/\c.sum<=M/\(c.sum<M->∀j,j<F->∃v,fQ kvs (kT (ci (bQ c j)))=some v/\cE H (gF (zM F W M (eT ws) mix ps cs (bQ c j))) v) /\
 ∀D xs gs H',aU H H'->H D=none->H' D=some (.lst xs)->aQ H' (gs.map gF) xs->aBU (lX M Ns Nm Np Nc) (smQ W F (dM (eT ws)) (dG mix) (dG ps) (dG cs) (M-c.sum) c) gs->Q (.ref D) H'
def HF{H:Hp}{Q:VK}{E:XK}{tv av pv cv:V}{p:Addr}{fs:Ah}{ws:List (Str × Ak)}{bs mix ps cs:Ak}{c:Ae}{kvs:List (List fE × V)}{F W M Ns Nm Np Nc B:Nat}(h1:cE H (pL fs ws) tv)(h2:cE H (lV M bs mix cs) av)(h3:cE H (pP ps) pv)(h4:cE H (kJ c) cv)(h5:H p=some (.dT kvs))
  (I:iU F W M (eT ws) mix ps cs Ns Nm Np Nc B) (b:0<Ns) (cl:c.length=F) (cm:c.sum<=M) (kn:c.sum<M->∀j,j<F->∃v,fQ kvs (kT (ci (bQ c j)))=some v/\cE H (gF (zM F W M (eT ws) mix ps cs (bQ c j))) v)
  (k:∀D xs gs H',aU H H'->H D=none->H' D=some (.lst xs)->aQ H' (gs.map gF) xs->aBU (lX M Ns Nm Np Nc) (smQ W F (dM (eT ws)) (dG mix) (dG ps) (dG cs) (M-c.sum) c) gs->Q (.ref D) H'):pX [tv,av,pv,.ref p,cv] H Q E:=by
 unfold pX;exact ⟨tv,av,pv,cv,p,fs,ws,bs,mix,ps,cs,c,kvs,F,W,M,Ns,Nm,Np,Nc,B,rfl,h1,h2,h3,h4,h5,I,b,cl,cm,kn,k⟩
def VN{l:Ae}{g:Nat->Fr}(h:∀i∈l,cY (g i)):cY (lD (l.map g))/\rv (lD (l.map g))=oW (l.map λi=>rv (g i)):=by
 have hl:∀f∈l.map g,cY f:=λf hf=>by
  obtain ⟨i,hi,rfl⟩:=aX.mp hf;exact h i hi
 refine ⟨sT _ hl,?_⟩;rw [BW _ hl,List.map_map];rfl
def HW{H:Hp}{g:Nat->Fr}:∀{as:Ae}{ys:Al},Paired (λi y=>cE H (gF (g i)) y) as ys->aQ H ((as.map g).map gF) ys:=λpr=>by
 rw [List.map_map];exact Paired.toRepL pr
@[irreducible] def mO:Sp:=λvs H Q _=>∃(tv av pv:V) (fs:Ah) (ws:List (Str × Ak)) (bs mix ps cs:Ak) (F W M Ns Nm Np Nc B:Nat),vs=[tv,av,pv]/\cE H (pL fs ws) tv/\fs.length=F/\cE H (lV M bs mix cs) av/\cE H (pP ps) pv /\
 iU F W M (eT ws) mix ps cs Ns Nm Np Nc B/\0<Ns/\2<=F/\∀p kvs H',aU H H'->H p=none->H' p=some (.dT kvs)->DW H' kvs (rise F M) (zM F W M (eT ws) mix ps cs)->Q (.ref p) H'
def BO{H:Hp}{Q:VK}{E:XK}{tv av pv:V}{fs:Ah}{ws:List (Str × Ak)}{bs mix ps cs:Ak}{F W M Ns Nm Np Nc B:Nat}(h1:cE H (pL fs ws) tv)(h0:fs.length=F)(h2:cE H (lV M bs mix cs) av)(h3:cE H (pP ps) pv)
  (I:iU F W M (eT ws) mix ps cs Ns Nm Np Nc B) (b:0<Ns) (f2:2<=F) (k:∀p kvs H',aU H H'->H p=none->H' p=some (.dT kvs)->DW H' kvs (rise F M) (zM F W M (eT ws) mix ps cs)->Q (.ref p) H'):mO [tv,av,pv] H Q E:=by
 unfold mO;exact ⟨tv,av,pv,fs,ws,bs,mix,ps,cs,F,W,M,Ns,Nm,Np,Nc,B,rfl,h1,h0,h2,h3,I,b,f2,k⟩
section
def aEc(F:jP K "_law_sums" "_law_sums" MK f fd)(T:kX K mg c)
  (FQ23:gR dR P w K mg base 3 "_law_weight" ["_law_trial_here","_law_way","_law_counts_here"] kO) (FQ20:gR dR P w K mg base 2 "_law_times" ["_law_one","_law_other"] (kA K)) (FQ21:gR dR P w K mg base 3 "_law_total" ["_law_some_here"] (mE K)) (FQ12:gR dR P w K mg base 1 "_law_more" ["_law_counts_here","_law_face"] fM):eC P w K mg base dR 4 f fd ["_law_trial_here","_law_aim_here","_law_prices","_law_known","_law_counts_here"] pX:=by
 refine F.oky DD λvs H Q E h=>?_;unfold pX at h;obtain ⟨tv,av,pv,cv,p,fs,ws,bs,mix,ps,cs,c,kvs,F,W,M,Ns,Nm,Np,Nc,B,rfl,rt,ra,rp,rc,hp,I,hNs,hcl,hcm,kn,k⟩:=h;refine ⟨rfl,λcdv A outer s hr=>?_⟩;generalize hss:eT ws=ss at I kn k;have lws:ws.length=W:=by have:=I.sl;rw [<-hss,aA] at this;exact this
 have hbB:=I.b;have w4:=I.w4;have w1:=I.w1;have f4:=I.f4;have b40:B<=2^490:=aM Oo kW;have one40:1<=2^490:=Nat.one_le_two_pow;obtain ⟨ap,vp,rfl,hap,rvp⟩:=kQ rp;obtain ⟨ac,rfl,hac⟩:=gK rc;obtain ⟨aa,xb,xm,xc,rfl,haa,rxb,rxm,rxc⟩:=vL ra;obtain ⟨am,vm,rfl,ham,rvm⟩:=kQ rxm;obtain ⟨ak,vk,rfl,hak,rvk⟩:=kQ rxc;obtain ⟨at_,af,aw,xf,xw,rfl,hat,hf,hw,rf,rw'⟩:=vO rt;have lxw:xw.length=W:=by rw [eP rw',lws]
 have lvp:vp.length=W:=by rw [eP rvp,I.pl]
 have lvm:vm.length=W:=by rw [eP rvm,I.ml]
 refine ⟨_,(aH (bN (i:=5) DD.nd rfl (Or.inr rfl) (gI (dP.of (psc:=aY MK) (N:=["_law_trial_here","_law_aim_here","_law_prices","_law_known","_law_counts_here","_law_weights","_law_found","_law_say","_law_parts","_law_k","_law_share","_law_some_here","_law_face"]) (N':=["_law_way","_law_trial_here","_law_counts_here"]) (js:=[0,4]) Kk rfl rfl rfl) (cS rfl T.b_range (aJ (dX gG (by rfl) T.b_len Kk (aJ (bP bK (aD 0) aK (λ_ _=>rfl)) aE)) aE)) (λ_ _ _ _=>dW) (λ_ _ _ _=>(bV FQ23 (hr.mono Dd) (aJ (aD 1) (aJ (aD 0) (aJ (aD 2) aE)))))))
  (aH (bN (i:=6) DD.nd rfl (Or.inl rfl) (iD aE))
  (aH (eY PassesOwn.never rfl (cS rfl T.b_range (aJ (dX gG (by rfl) T.b_len Kk (aJ (aD 5) aE)) aE)) (cX (i:=7) DD.nd rfl (Or.inr rfl)) (aH (iB (i:=8) (dP.of (psc:=aY MK) (N:=["_law_trial_here","_law_aim_here","_law_prices","_law_known","_law_counts_here","_law_weights","_law_found","_law_say","_law_parts","_law_k","_law_share","_law_some_here","_law_face"]) (N':=["_law_way","_law_prices","_law_weights","_law_say"]) (js:=[2,5,7]) Kk rfl rfl rfl) DD.nd rfl rfl (cS rfl T.b_range (aJ (dX gG (by rfl) T.b_len Kk (aJ (aD 5) aE)) aE)) (λ_ _ _ _=>BC (eO FD (aD 0) (aD 3) (nomark _))) (λ_ _ _ _=>(bV FQ20 (hr.mono Dd) (aJ (bP (iZ K) (aD 1) (aD 0) (λ_ _=>rfl)) (aJ (bP (iZ K) (aD 2) (aD 0) (λ_ _=>rfl)) aE)))))
  (bD (jQ (nJ PySem.F.plainAttrs_list PySem.F.slot_list_append PySem.F.type_list_append pB (aD 6) (aJ (bV FQ21 (hr.mono Dd) (aJ (aD 8) aE)) aE))))))
  (aH (bN (i:=9) DD.nd rfl (Or.inl rfl) (dX (pJ K rfl) (by rfl) T.b_sum Kk (aJ (aD 4) aE)))
  (aH (GU (jF (eO xR (aD 9) (bP bK (aD 1) aK (λ_ _=>rfl)) (nomark _)) (aH (bN (i:=10) DD.nd rfl (Or.inl rfl) (bV FQ21 (hr.mono Dd) (aJ (gI (dP.of (psc:=aY MK) (N:=["_law_trial_here","_law_aim_here","_law_prices","_law_known","_law_counts_here","_law_weights","_law_found","_law_say","_law_parts","_law_k","_law_share","_law_some_here","_law_face"]) (N':=["_law_way","_law_aim_here","_law_weights"]) (js:=[1,5]) Kk rfl rfl rfl) (cS rfl T.b_range (aJ (dX gG (by rfl) T.b_len Kk (aJ (aD 5) aE)) aE)) (λ_ _ _ _=>dW) (λ_ _ _ _=>(bV FQ20 (hr.mono Dd) (aJ (bP (iZ K) (bP (iZ K) (aD 1) aK (λ_ _=>rfl)) (aD 0) (λ_ _=>rfl)) (aJ (bP (iZ K) (aD 2) (aD 0) (λ_ _=>rfl)) aE))))) aE)))
  (aH (bN (i:=11) DD.nd rfl (Or.inl rfl) (iD (aJ (bV FQ20 (hr.mono Dd) (aJ (aD 10) (aJ (bP bK (bP bK (aD 1) aK (λ_ _=>rfl)) (aD 9) (λ_ _=>rfl)) aE))) aE)))
  (aH (eY PassesOwn.never rfl (cS rfl T.b_range (aJ (dX gG (by rfl) T.b_len Kk (aJ (aD 4) aE)) aE)) (cX (i:=12) DD.nd rfl (Or.inl rfl)) (bD (jQ (nJ PySem.F.plainAttrs_list PySem.F.slot_list_append PySem.F.type_list_append pB (aD 11) (aJ (gH hr.u1 (aD 3) (bV FQ12 (hr.mono Dd) (aJ (aD 4) (aJ (aD 12) aE)))) aE)))))
  (bD (jQ (nJ PySem.F.plainAttrs_list PySem.F.slot_list_append PySem.F.type_list_append pB (aD 6) (aJ (bV FQ21 (hr.mono Dd) (aJ (aD 11) aE)) aE))))))) fK))
  (bD (cH (aD 6)))))))),?_⟩
 refine ⟨_,rfl,jS hat rfl ?_⟩;refine ML hw ?_;rw [lxw];refine ⟨_,rfl,Oo,Oo,?_⟩;have Nz:Ns^c.sum<2^3000:=by
  have h1:Ns^c.sum<=Ns^M:=aP hNs hcm;have h2:Ns^M<=Np*Nc*Nm*Ns^M:=Nat.le_mul_of_pos_left _ (Nat.pos_of_ne_zero λz=>by have:=I.pos;rw [z] at this;simp at this);have:=I.sz;exact Oo
 refine hJ (λi y H'=>i<W/\cE H' (gF (jW ((ss.getD i []).zip c))) y) (λi y H1 H2 s ⟨h1,h2⟩=>⟨h1,h2.flat s (cT _)⟩) Oo (λi H' Q' hi s' k'=>?_) (λD5 zs H5 hD5 e5 s5 hz5 hr5=>?_)
 ·rw [Int.zero_add];have hi:i<W:=Oo;obtain ⟨x,hx⟩:∃x,ws[i]?=some x:=⟨_,aB Oo⟩;have e:ss.getD i []=x.2:=gJ (by rw [<-hss,aL,hx];rfl);have hxs:=I.sh x.2 (by rw [<-hss];exact aX.mpr ⟨x,aG hx,rfl⟩);refine ⟨_,rfl,_,rfl,_,rfl,?_⟩;refine sY (rt.same s') hx (rc.same s') (by rw [hxs.1,hcl]) hxs.2 hNs Nz Oo (by have:=I.m5;exact Oo) λy H6 s6 r6=>k' _ H6 s6 ⟨hi,?_⟩;rw [e];exact r6
 have lz:zs.length=W:=Oo;refine CI (by show 0<=64;decide) λD H6 hD e6 s6=>?_;have S6:=s5.trans s6;have hD0:H D=none:=s5.free hD;have e5':=s6 _ _ e5;refine ⟨_,rfl,QH e5' ?_⟩;rw [lz];refine ⟨_,rfl,Oo,Oo,?_⟩;rw [Int.toNat_natCast];have nD5:D5≠D:=λz=>by rw [<-z,e5] at hD;cases hD
 have duefn:∀i,i<W->Fn (lX M Ns Nm Np Nc) B (kK ss ps c i):=λi hi=>YM I hi hcm;have wB:W*B<=4*B:=bS _ w4
 let sayF:Nat->Fr:=λs=>lD (((List.range W).filter λi=>i != s).map (kK ss ps c))
 have say:∀s,s<W->cY (sayF s)/\rv (sayF s)=cM W (λv=>dG ps v*dM ss v c)-dG ps s*dM ss s c/\Fn (lX M Ns Nm Np Nc) (4*B) (sayF s):=λs hs=>by
  have hlow:∀i∈(List.range W).filter λi=>i != s,cY (kK ss ps c i):=λi hi=>(uF I (bU.mp (cR.mp hi).1) c).1;obtain ⟨t1,t2⟩:=VN hlow;refine ⟨t1,?_,?_⟩
  ·show rv (lD _)=_;rw [t2];have:((List.range W).filter λi=>i != s).map (λi=>rv (kK ss ps c i))=((List.range W).filter λi=>i != s).map λi=>dG ps i*dM ss i c:=eI λi hi=>(uF I (bU.mp (cR.mp hi).1) c).2;rw [this];exact PH _ hs
  ·have:=Fn.tot (((List.range W).filter λi=>i != s).map (kK ss ps c)) (N:=lX M Ns Nm Np Nc) (B:=B) λf hf=>by
    obtain ⟨i,hi,rfl⟩:=aX.mp hf;exact duefn i (bU.mp (cR.mp hi).1)
   refine this.le ?_;rw [aA];have h1:=List.length_filter_le (λi=>i != s) (List.range W);rw [bA] at h1;exact bS _ Oo
 refine fS (λi σ H'=>∃(o7 o8:Am) (us:Al),σ=[some (.ref at_),some (.ref aa),some (.ref ap),some (.ref p),some (.ref ac),some (.ref D5),some (.ref D),o7,o8,none,none,none,none]/\aR D H6 H'/\H' D=some (.lst us)/\aQ H' (((List.range i).map sayF).map gF) us) ⟨_,_,[],rfl,(aU.refl _).but,e6,aQ.nil⟩ ?_ ?_
 ·rintro i σ H7 hi ⟨o7,o8,us,rfl,b7,e7,r7⟩;have t7:dA H6 H7:=b7.t e6;have e5a:H7 D5=some (.lst zs):=b7.at nD5 e5';refine ⟨_,rfl,QH e5a ?_⟩;rw [lz];refine ⟨_,rfl,Oo,Oo,?_⟩;rw [Int.toNat_natCast];refine SR (λj=>j != i) (λj y H'=>cE H' (gF (kK ss ps c j)) y) (λj y Ha Hb s r=>r.flat s (cT _)) Oo (λj H' Q' hj s' k'=>?_) (λj H' Q' hj hp s' k'=>?_) (λD8 ys H8 hD8 e8 s8 pr8=>?_)
  ·refine ⟨_,rfl,_,rfl,rfl,_,rfl,?_⟩;have e:(!decide (V.int (0+(j:Nat))=V.int (0+(i:Nat))))=(j != i):=by
    by_cases q:j=i
    ·subst q;simp
    ·have:¬V.int (0+(j:Nat))=V.int (0+(i:Nat)):=λz=>q (by injection z with z;exact Oo);rw [cJ this];simp [q]
   rw [e];exact k' H' (aU.refl _)
  ·obtain ⟨f1,hf1⟩:∃f,ps[j]?=some f:=⟨_,aB (by rw [I.pl];exact hj)⟩;obtain ⟨v1,hv1,rv1⟩:=eG rvp hf1;obtain ⟨v2,hv2⟩:∃v,zs[j]?=some v:=⟨_,aB Oo⟩;obtain ⟨_,rv2⟩:=hr5 j v2 hv2;have e1:ps.getD j (0,1)=f1:=gJ hf1;have n1:=DM I hj;rw [e1] at n1;rw [show (0:Int)+(j:Int)=(j:Int) by omega];refine ⟨_,rfl,_,rfl,jS (s' _ _ (t7 _ _ (S6 _ _ hap))) (cV hv1) ?_⟩;refine ⟨_,rfl,_,rfl,FR (s' _ _ e5a) (cV hv2) ?_⟩;refine fN (gU.of (((rv1.same S6).flat t7 (cT _)).same s')) (gU.of (((rv2.same s6).flat t7 (cT _)).same s')) n1.low (rM I hj c) (iM I n1 b40) (iM I (wX I hj hcm) one40) ?_;intro q9 H9 hq9 e9 s9;refine k' _ H9 s9 (dJ ?_);rw [e9];unfold kK;rw [e1]
  have r8:=HW pr8;have fl:∀f∈((List.range W).filter λj=>j != i).map (kK ss ps c),Fn (lX M Ns Nm Np Nc) B f:=λf hf=>by
   obtain ⟨j,hj,rfl⟩:=aX.mp hf;exact duefn j (bU.mp (cR.mp hj).1)
  have ll:(((List.range W).filter λj=>j != i).map (kK ss ps c)).length<=64:=by
   rw [aA];have h1:=List.length_filter_le (λj=>j != i) (List.range W);rw [bA] at h1;exact Oo
  have e8D:=s8 _ _ e7;refine ⟨_,rfl,LW e8D,_,rfl,?_⟩;refine nK e8 (sM.of r8) (yO I fl ll b40) λv9 H9 s9 r9=>?_;have e9D:=s9 _ _ e8D;have lus:us.length=i:=by rw [r7.len,aA,aA,bA]
  refine DH e9D Oo λH10 e10 b10=>?_;have t10:=b10.t e9D;refine ⟨_,_,us++[v9],rfl,(b7.trans (s8.trans s9).but).trans b10,e10,?_⟩;rw [List.range_succ,bF,bF];exact aQ.snoc (aQ.flat ((s8.trans s9).t.trans t10) (lH _) r7) (cE.flat t10 (cT _) r9)
 ·rintro σ H7 ⟨o7,o8,us,rfl,b7,e7,r7⟩;have t7:dA H6 H7:=b7.t e6;have e5a:H7 D5=some (.lst zs):=b7.at nD5 e5';have S7:aU H H7:=aU.thru hD0 S6 b7;have lus:us.length=W:=by rw [r7.len,aA,aA,bA]
  have sv:((List.range W).map sayF).map rv=jM W λv=>dG ps v*dM ss v c:=by
   unfold jM;rw [List.map_map];exact eI λi hi=>(say i (bU.mp hi)).2.1
  have sn:∀g∈(List.range W).map sayF,Fn (lX M Ns Nm Np Nc) (4*B) g:=λg hg=>by
   obtain ⟨i,hi,rfl⟩:=aX.mp hg;exact (say i (bU.mp hi)).2.2
  refine ⟨_,rfl,rsT (ns:=ci c) (by rw [eJ];exact iJ.of (S7 _ _ hac)) ?_⟩;rw [vJ];refine ⟨λσ H'=>∃(o10 o11 o12:Am) (xs:Al) (gs:Ak),σ=[some (.ref at_),some (.ref aa),some (.ref ap),some (.ref p),some (.ref ac),some (.ref D5),some (.ref D),o7,o8,some (.int ((c.sum:Nat):Int)),o10,o11,o12]/\aU H H'/\H' D=some (.lst xs)/\aQ H' (gs.map gF) xs/\aBU (lX M Ns Nm Np Nc) (smQ W F (dM ss) (dG mix) (dG ps) (dG cs) (M-c.sum) c) gs,?_,?_⟩
  ·rintro σ H9 ⟨o10,o11,o12,xs,gs,rfl,S9,e9,r9,ok9⟩;exact ⟨_,rfl,k D xs gs H9 S9 hD0 e9 r9 ok9⟩
  refine ⟨_,rfl,_,rfl,jS (S7 _ _ haa) rfl ?_⟩;refine ⟨_,_,rfl,rfl,_,rfl,sI (λon=>?_) (λon=>?_)⟩
  ·have hlt:c.sum<M:=Oo;refine ⟨_,rfl,QH e5a ?_⟩;rw [lz];refine ⟨_,rfl,Oo,Oo,hJ (λi y H'=>i<W/\cE H' (gF (kK ss mix c i)) y) (λi y H1 H2 s ⟨h1,h2⟩=>⟨h1,h2.flat s (cT _)⟩) Oo (λi H' Q' hi s' k'=>?_) (λD9 us9 H9 hD9 e9 s9 hu9 hr9=>?_)⟩
   ·have hj:i<W:=Oo;obtain ⟨f1,hf1⟩:∃f,mix[i]?=some f:=⟨_,aB (by rw [I.ml];exact hj)⟩;obtain ⟨v1,hv1,rv1⟩:=eG rvm hf1;obtain ⟨v2,hv2⟩:∃v,zs[i]?=some v:=⟨_,aB Oo⟩;obtain ⟨_,rv2⟩:=hr5 i v2 hv2;have e1:mix.getD i (0,1)=f1:=gJ hf1;have n1:=DN I hj;rw [e1] at n1;rw [show (0:Int)+(i:Int)=(i:Int) by omega];refine ⟨_,rfl,jS (s' _ _ (S7 _ _ haa)) rfl ?_⟩;refine ⟨_,rfl,jS (s' _ _ (S7 _ _ ham)) (cV hv1) ?_⟩;refine ⟨_,rfl,_,rfl,FR (s' _ _ e5a) (cV hv2) ?_⟩;refine fN (gU.of ((rv1.same S7).same s')) (gU.of (((rv2.same s6).flat t7 (cT _)).same s')) n1.low (rM I hj c) (iM I n1 one40) (iM I (wX I hj hcm) one40) ?_;intro q9 H9 hq9 e9 s9;refine k' _ H9 s9 ⟨hj,dJ ?_⟩;rw [e9];unfold kK;rw [e1]
   have r9:aQ H9 (((List.range W).map (kK ss mix c)).map gF) us9:=aQ.ofRange Oo hr9;obtain ⟨ml,mv⟩:=JN (n:=W) (g:=kK ss mix c) λi hi=>(oR I hi c).1;have mn:∀g∈(List.range W).map (kK ss mix c),Fn (lX M Ns Nm Np Nc) 1 g:=λg hg=>by
    obtain ⟨i,hi,rfl⟩:=aX.mp hg;exact GP I (bU.mp hi) hcm
   refine nK e9 (sM.of r9) (yO I mn (by rw [aA,bA];exact Oo) one40) λv10 H10 s10 r10=>?_;have mtn:=Fn.tot _ mn;rw [aA,bA] at mtn;generalize hmet:lD ((List.range W).map (kK ss mix c))=met at r10 ml mv mtn;have S10:aU H7 H10:=s9.trans s10;obtain ⟨vkk,hvk,rvkk⟩:=eG rvk (i:=c.sum) (f:=cs.getD c.sum (0,1)) (by rw [bH,aB (by rw [I.cl];exact hlt)];rfl);have cn:=LH I hlt;have hp14:=I.paid hlt;have em:rv met=cM W λv=>dG mix v*dM ss v c:=by rw [mv];exact dH λj hj=>(oR I hj c).2
   have vpd:rv (jC met (cs.getD c.sum (0,1)))=dG cs c.sum*cM W λv=>dG mix v*dM ss v c:=by
    rw [iH ml.pos cn.low.pos,em,Rat.mul_comm];rfl
   have pdn:Fn (lX M Ns Nm Np Nc) (4*B) (jC met (cs.getD c.sum (0,1))):=Qn.f (gO ml cn.low) (by rw [vpd];exact hp14);refine ⟨_,rfl,_,rfl,jS (S10 _ _ (S7 _ _ haa)) rfl ?_⟩;refine ⟨_,rfl,jS (S10 _ _ (S7 _ _ hak)) (cV hvk) ?_⟩;refine fN (gU.of r10) (gU.of ((rvkk.same S7).same S10)) ml cn.low (iM I mtn (aM Oo kW)) (iM I cn b40) ?_;intro q11 H11 hq11 e11 s11;refine CI (by show 1<=64;decide) λD12 H12 hD12 e12 s12=>?_;have S12:aU H7 H12:=(S10.trans s11).trans s12;refine ⟨_,rfl,ML (S12 _ _ (S7 _ _ hac)) ?_⟩;rw [aA,hcl];refine ⟨_,rfl,Oo,Oo,?_⟩;rw [Int.toNat_natCast];have hD12':H7 D12=none:=(S10.trans s11).free hD12;have nDD:D≠D12:=λz=>by rw [z] at e7;rw [e7] at hD12';cases hD12'
   have hp12:H12 p=some (.dT kvs):=S12 _ _ (S7 _ _ hp);have npD:p≠D12:=λz=>by rw [<-z,S7 _ _ hp] at hD12';cases hD12'
   refine fS (λi σ H'=>∃(o12:Am) (xs:Al),σ=[some (.ref at_),some (.ref aa),some (.ref ap),some (.ref p),some (.ref ac),some (.ref D5),some (.ref D),o7,o8,some (.int ((c.sum:Nat):Int)),some v10,some (.ref D12),o12]/\aR D12 H12 H'/\H' D12=some (.lst xs)/\aQ H' (((jC met (cs.getD c.sum (0,1)))::(List.range i).map λj=>zM F W M ss mix ps cs (bQ c j)).map gF) xs) ⟨_,_,rfl,(aU.refl _).but,e12,aQ.cons (dJ (s12 _ _ e11)) aQ.nil⟩ ?_ ?_
   ·rintro i σ H13 hi ⟨o12,xs,rfl,b13,e13,r13⟩;have t13:dA H12 H13:=b13.t e12;rw [show (0:Int)+(i:Int)=(i:Int) by omega];refine ⟨_,rfl,LW e13,_,rfl,_,rfl,_,rfl,?_⟩;refine jI (i:=i) (cs:=c) ((rc.same (S7.trans S12)).flat t13 (kH _)) Oo Oo λv14 H14 s14 r14=>?_;obtain ⟨a14,rfl,h14⟩:=gK r14;obtain ⟨v,hv,rvv⟩:=kn hlt i hi;refine NH (s14 _ _ (b13.at npD hp12)) (c:=ci (bQ c i)) (by rw [eJ];exact h14) hv ?_;have e14:=s14 _ _ e13;have lxs:xs.length=i+1:=by rw [r13.len,aA,bT,aA,bA]
    refine DH e14 Oo λH15 e15 b15=>?_;have t15:=b15.t e14;refine ⟨_,_,rfl,(b13.trans s14.but).trans b15,e15,?_⟩;rw [List.range_succ,bF,<-List.cons_append,bF];exact aQ.snoc (aQ.flat (s14.t.trans t15) (lH _) r13) (cE.flat ((t13.trans s14.t).trans t15) (cT _) (rvv.same (S7.trans S12)))
   ·rintro σ H13 ⟨o12,xs,rfl,b13,e13,r13⟩;have t13:dA H12 H13:=b13.t e12;have wn:∀g∈(List.range F).map (λi=>zM F W M ss mix ps cs (bQ c i)),Fn (lX M Ns Nm Np Nc) (8^(M-c.sum)*B) g:=λg hg=>by
     obtain ⟨i,hi,rfl⟩:=aX.mp hg;have hi:=bU.mp hi;refine Qn.fq ?_;have bs:=hZ (c:=c) (j:=i) Oo;have:=I.worn (M-(bQ c i).sum) (bQ c i) (by rw [qR];exact hcl) Oo;rw [show M-(bQ c i).sum+1=M-c.sum by omega] at this;exact this
    have b8:8^(M-c.sum)*B<=1000000000000:=by
     have:=LI I (n:=M-c.sum-1) (by have:=I.m5;exact Oo)
     rwa [show M-c.sum-1+1=M-c.sum by omega] at this
    have h1:8<=8^(M-c.sum):=by
     have:=aP (n:=8) Dd (show 1<=M-c.sum by omega);simpa using this
    have hB:8*B<=8^(M-c.sum)*B:=bS _ h1;have an:∀g∈(jC met (cs.getD c.sum (0,1)))::(List.range F).map (λi=>zM F W M ss mix ps cs (bQ c i)),Fn (lX M Ns Nm Np Nc) (8^(M-c.sum)*B) g:=λg hg=>by
     rcases aZ.mp hg with rfl | hg
     ·exact pdn.le Oo
     ·exact wn g hg
    have e13D:H13 D=some (.lst us):=b13.at nDD (S12 _ _ e7);refine ⟨_,rfl,LW e13D,_,rfl,?_⟩;refine nK e13 (sM.of r13) (yO I an (by rw [bT,aA,bA];exact Oo) (aM b8 kW)) λv16 H16 s16 r16=>?_;have e16D:=s16 _ _ e13D;refine DH e16D Oo λH17 e17 b17=>?_;have t17:=b17.t e16D;have al:∀g∈(jC met (cs.getD c.sum (0,1)))::(List.range F).map (λi=>zM F W M ss mix ps cs (bQ c i)),cY g:=λg hg=>(an g hg).low;have S13:aU H H13:=aU.thru ((S7).free hD12') (S7.trans S12) b13;have tA:dA H7 H13:=S12.t.trans t13;refine ⟨_,_,_,us++[v16],(List.range W).map sayF++[lD ((jC met (cs.getD c.sum (0,1)))::(List.range F).map λi=>zM F W M ss mix ps cs (bQ c i))],rfl,aU.thru hD0 (S13.trans s16) b17,e17,?_,?_,?_,?_,?_⟩
    ·rw [bF];exact aQ.snoc (aQ.flat ((tA.trans s16.t).trans t17) (lH _) r7) (cE.flat t17 (cT _) r16)
    ·obtain ⟨n,hn⟩:∃n,M-c.sum=n+1:=⟨M-c.sum-1,Oo⟩;rw [bF,sv,hn];show _=jM W (λv=>dG ps v*dM ss v c)++[_];congr 1;rw [bI,List.map_nil];congr 1;rw [BW _ al,bI,kN,vpd,List.map_map];congr 1;refine (dH (n:=F) (f:=λi=>rv (zM F W M ss mix ps cs (bQ c i))) λj hj=>?_);rw [eW];unfold wor;rw [hZ Oo,show M-(c.sum+1)=n by omega]
    ·intro g hg;rcases cB.mp hg with hg | hg
     ·exact (sn g hg).le Oo
     ·rw [bJ.mp hg];refine (Fn.tot _ an).le ?_;rw [bT,aA,bA];have b9:=LI I (n:=M-c.sum) (by have:=I.m5;exact Oo);rw [Nat.pow_succ,Nat.mul_comm (8^_) 8,Nat.mul_assoc] at b9;have fB:(F+1)*(8^(M-c.sum)*B)<=8*(8^(M-c.sum)*B):=bS _ Oo;exact Oo
    ·simp
    ·rw [bE,aA,bA];show W+1<=5;exact Oo
  ·have e0:M-c.sum=0:=Oo;refine ⟨_,_,_,us,(List.range W).map sayF,rfl,S7,e7,r7,?_,λg hg=>(sn g hg).le Oo,by rw [aA,bA];omega,by rw [aA,bA];omega⟩;rw [e0,sv];rfl
end
section
def aD7(F:jP K "_law_worths" "_law_worths" aAH f fd)(T:kX K mg c)
  (FQ5:gR dR P w K mg base 2 "_law_counts" ["_law_faces","_law_most"] mT) (FQ19:gR dR P w K mg base 4 "_law_sums" ["_law_trial_here","_law_aim_here","_law_prices","_law_known","_law_counts_here"] pX) (FQ2:gR dR P w K mg base 1 "_law_below" ["_law_one","_law_other"] (rD K)):eC P w K mg base dR 5 f fd ["_law_trial_here","_law_aim_here","_law_prices"] mO:=by
 refine F.oky TC λvs H Q E h=>?_;unfold mO at h;obtain ⟨tv,av,pv,fs,ws,bs,mix,ps,cs,F,W,M,Ns,Nm,Np,Nc,B,rfl,rt,hF,ra,rp,I,hNs,f2,k⟩:=h;refine ⟨rfl,λcdv A outer s hr=>?_⟩;have f1:=I.f1;have f4:=I.f4;have m5:=I.m5;obtain ⟨aa,xb,xm,xc,rfl,haa,rxb,rxm,rxc⟩:=vL ra;obtain ⟨at_,af,aw,xf,xw,rfl,hat,hf,hw,rf,rw'⟩:=vO rt;have small:=sE F f4 M m5;refine ⟨_,(aH (bN (i:=3) TC.nd rfl (Or.inl rfl) mJ)
  (aH (eY PassesOwn.never rfl (OM rfl T.b_reversed (aJ (bV FQ5 (hr.mono Dd) (aJ (dX gG (by rfl) T.b_len Kk (aJ (bP bK (aD 0) aK (λ_ _=>rfl)) aE)) (aJ (bP bK (aD 1) aK (λ_ _=>rfl)) aE))) aE)) (cX (i:=4) TC.nd rfl (Or.inl rfl)) (aH (bN (i:=5) TC.nd rfl (Or.inl rfl) (bV FQ19 (hr.mono Dd) (aJ (aD 0) (aJ (aD 1) (aJ (aD 2) (aJ (aD 3) (aJ (aD 4) aE)))))))
  (aH (iL hr.u1 (aD 3) (aD 4) (bP bK (aD 5) aK (λ_ _=>rfl)))
  (bD (eY PassesOwn.never rfl (eZ (aD 5)) (cX (i:=6) TC.nd rfl (Or.inl rfl)) (bD (jF (sB (bV FQ2 (hr.mono Dd) (aJ (aD 6) (aJ (gH hr.u1 (aD 3) (aD 4)) aE)))) (bD (iL hr.u1 (aD 3) (aD 4) (aD 6))) fK)))))))
  (bD (cH (aD 3))))),?_⟩
 intro p hp;have s1:=aU.upd (o:=.dT []) hp;have e1:(upd H p (.dT [])) p=some (.dT []):=bO;generalize upd H p (.dT [])=H1 at s1 e1;refine ⟨_,rfl,jS (s1 _ _ hat) rfl ?_⟩;refine ML (s1 _ _ hf) ?_;rw [eP rf,hF];refine ⟨_,rfl,jS (s1 _ _ haa) rfl ?_⟩;refine BR f2 f4 m5 λR H2 s2 hR LR=>?_;obtain ⟨vs,eR,rR,lR⟩:=LR.len;have S2:=s1.trans s2;have nRp:R≠p:=λz=>by rw [z,e1] at hR;cases hR
 refine ⟨R,vs,rfl,fI.of eR,?_⟩;have nd:=wO F f4 M m5;refine KM (xs:=vs) (λi σ H'=>∃(o4 o5 o6:Am) (kvs:List (List fE × V)),σ=[some (.ref at_),some (.ref aa),some pv,some (.ref p),o4,o5,o6]/\aU H H'/\H' R=some (.lst vs)/\aQ H' ((rise F M).map kJ) vs/\H' p=some (.dT kvs)/\DW H' kvs ((rise F M).drop (vs.length-i)) (zM F W M (eT ws) mix ps cs)) ⟨_,_,_,[],rfl,S2,eR,rR,s2 _ _ e1,?_⟩ (λi σ H' _ q=>?_) ?_ ?_
 ·rw [Nat.sub_zero,lR,List.drop_length];exact ⟨λc hc=>(by cases hc),by simp⟩
 ·obtain ⟨_,_,_,_,_,_,h,_⟩:=q;exact fI.of h
 ·rintro i x σ H3 hi hx ⟨o4,o5,o6,kvs,rfl,S3,eR3,rR3,e3,D3⟩;obtain ⟨c,hc,rc⟩:=fC rR3 hx;have hcm:=(gP f1).mp (aG hc);have dl:=D3.len;rw [List.length_drop] at dl;have hd:(rise F M).drop (vs.length-(i+1))=c::(rise F M).drop (vs.length-i):=by
   obtain ⟨hc1,hc2⟩:=aF.mp hc;rw [show vs.length-(i+1)=vs.length-1-i by omega,List.drop_eq_getElem_cons hc1,hc2,show vs.length-1-i+1=vs.length-i by omega]
  have hcS:c ∉ (rise F M).drop (vs.length-i):=λq=>by
   have h1:((rise F M).drop (vs.length-(i+1))).Nodup:=List.Sublist.nodup (List.drop_sublist _ _) nd;rw [hd,List.nodup_cons] at h1;exact h1.1 q
  refine ⟨_,rfl,_,rfl,_,rfl,_,rfl,_,rfl,?_⟩;refine HF (rt.same S3) (ra.same S3) (rp.same S3) rc e3 I hNs hcm.1 hcm.2 (λhlt j hj=>?_) λD xs gs H4 s4 hD e4 r4 ok4=>?_
  ·have bs:=hZ (c:=c) (j:=j) Oo;have hin:bQ c j∈rise F M:=(gP f1).mpr ⟨by rw [qR];exact hcm.1,Oo⟩;have:=vV hc hin Oo;rw [show vs.length-1-i+1=vs.length-i by omega] at this;exact D3.yes _ this
  have lg:∀g∈gs,cY g/\nG 4000 g:=λg hg=>⟨(ok4.n g hg).low,iM I (ok4.n g hg) kW⟩;obtain ⟨g0,hg0⟩:∃g,gs[0]?=some g:=⟨_,aB ok4.l0⟩;obtain ⟨v0,hv0,rv0⟩:=eG r4 hg0;refine ⟨_,rfl,FR e4 (cV (j:=0) hv0) ?_⟩;obtain ⟨ac,rfl,hac⟩:=gK (rc.same s4);refine ⟨_,rfl,_,rfl,?_⟩;have e4p:=s4 _ _ e3;refine SG e4p (c:=ci c) (by rw [eJ];exact hac) Oo λH5 e5 b5=>?_;have t5:=aR.tT b5 e4p;have nDp:D≠p:=λz=>by rw [z,e3] at hD;cases hD
  have S5:aU H H5:=aU.thru hp (S3.trans s4) b5;have hac5:H5 ac=some (.tup (c.map AO)):=t5 _ _ hac;have lxs:xs.length=gs.length:=by rw [eP r4]
  refine ⟨_,rfl,D,rfl,⟨_,fI.of (b5.at nDp e4)⟩,?_⟩;have put:∀{Ha:Hp} {kv:List (List fE × V)} {v:V},(∀d∈(rise F M).drop (vs.length-i),∃v,fQ kv (kT (ci d))=some v/\cE Ha (gF (zM F W M (eT ws) mix ps cs d)) v)->∀d∈(rise F M).drop (vs.length-i),∃u,fQ (iX kv (kT (ci c)) v) (kT (ci d))=some u/\cE Ha (gF (zM F W M (eT ws) mix ps cs d)) u:=λh d hd=>by
   rw [iG,if_neg λq=>hcS (by rw [<-kU (nB q)];exact hd)];exact h d hd
  have self:∀{kv:List (List fE × V)} {v:V},fQ (iX kv (kT (ci c)) v) (kT (ci c))=some v:=by
   intro kv v;rw [iG,if_pos rfl]
  have keep:∀{Ha Hb:Hp} {kv:List (List fE × V)},dA Ha Hb->(∀d∈(rise F M).drop (vs.length-i),∃v,fQ kv (kT (ci d))=some v/\cE Ha (gF (zM F W M (eT ws) mix ps cs d)) v)->∀d∈(rise F M).drop (vs.length-i),∃v,fQ kv (kT (ci d))=some v/\cE Hb (gF (zM F W M (eT ws) mix ps cs d)) v:=λt h d hd=>by
   obtain ⟨v,h1,h2⟩:=h d hd;exact ⟨v,h1,h2.flat t (cT _)⟩
  have len1:=fD kvs (kT (ci c)) v0;refine kG (xs:=xs) (λj σ H'=>∃(o6:Am) (kv:List (List fE × V)) (v:V) (y:Fr),σ=[some (.ref at_),some (.ref aa),some pv,some (.ref p),some (.ref ac),some (.ref D),o6]/\aR p H5 H'/\H' p=some (.dT kv)/\kv.length<=((rise F M).drop (vs.length-i)).length+1/\(∀d∈(rise F M).drop (vs.length-i),∃v,fQ kv (kT (ci d))=some v/\cE H' (gF (zM F W M (eT ws) mix ps cs d)) v)/\fQ kv (kT (ci c))=some v/\cE H' (gF y) v/\y∈gs/\∀g∈gs.take j,rv y<=rv g)
   ⟨_,_,v0,g0,rfl,(aU.refl _).but,e5,by rw [List.length_drop];omega,put (keep (s4.t.trans t5) D3.yes),self,rv0.flat t5 (cT _),aG hg0,λg hg=>by rw [List.take_zero] at hg;cases hg⟩ (λj σ H' _ q=>?_) ?_ ?_
  ·obtain ⟨_,_,_,_,_,b',_⟩:=q;exact fI.of (b'.at nDp (b5.at nDp e4))
  ·rintro j x2 σ H6 hx2 ⟨o6',kv,v,y,rfl,b6,e6,l6,d6,vv6,ry6,hy6,hm6⟩;obtain ⟨g,hg,rg⟩:=fC r4 hx2;have t6:dA H5 H6:=aR.tT b6 e5;have hgm:=aG hg;have hac6:H6 ac=some (.tup (c.map AO)):=t6 _ _ hac5;have rg6:cE H6 (gF g) x2:=rg.flat (t5.trans t6) (cT _);refine ⟨_,rfl,_,rfl,_,rfl,NH e6 (c:=ci c) (by rw [eJ];exact hac6) vv6 ?_⟩;refine zS (gU.of rg6) (gU.of ry6) (lg g hgm).2 (lg y hy6).2 ⟨_,rfl,?_⟩;have lts:=ZJ (lg g hgm).1.pos (lg y hy6).1.pos;refine sI (λlt=>?_) (λlt=>?_)
   ·have lt':=lts.mp lt;refine ⟨_,rfl,_,rfl,_,rfl,?_⟩;rw [List.length_drop] at l6;refine SG e6 (c:=ci c) (by rw [eJ];exact hac6) Oo λH7 e7 b7=>?_;have t7:=aR.tT b7 e6;refine ⟨_,_,x2,g,rfl,b6.trans b7,e7,?_,put (keep t7 d6),self,rg6.flat t7 (cT _),hgm,λz hz=>?_⟩
    ·have:(iX kv (kT (ci c)) x2).map (·.1)=kv.map (·.1):=rW (by rw [vv6];rfl);have h2:=congrArg List.length this;rw [aA,aA] at h2;rw [List.length_drop];exact Oo
    ·rw [eM hg] at hz;rcases cB.mp hz with hz | hz
     ·have:=hm6 z hz;grind
     ·rw [bJ.mp hz];exact Rat.le_refl
   ·refine ⟨_,kv,v,y,rfl,b6,e6,l6,d6,vv6,ry6,hy6,λz hz=>?_⟩;rw [eM hg] at hz;rcases cB.mp hz with hz | hz
    ·exact hm6 z hz
    ·rw [bJ.mp hz];exact Rat.not_lt.mp λq=>lt (lts.mpr q)
  ·rintro σ H6 ⟨o6',kv,v,y,rfl,b6,e6,l6,d6,vv6,ry6,hy6,hm6⟩;have t6:dA H5 H6:=aR.tT b6 e5;rw [lxs,cP] at hm6;have ey:y=zM F W M (eT ws) mix ps cs c:=by
    have e:rv y=iY (gs.map rv):=(CK (aX.mpr ⟨y,hy6,rfl⟩) λx hx=>by
     obtain ⟨g,hg,rfl⟩:=aX.mp hx;exact hm6 g hg).symm
    rw [ok4.v,<-OJ] at e;rw [<-aBB (lg y hy6).1,e];rfl
   rw [ey] at ry6;refine ⟨_,_,_,kv,rfl,aU.thru hp S5 b6,b6.at nRp (b5.at nRp (s4 _ _ eR3)),aQ.flat (t5.trans t6) (jU _) (rR3.same s4),e6,?_⟩;rw [hd];refine ⟨λd hd'=>?_,by rw [bT];exact l6⟩;rcases aZ.mp hd' with rfl | hd'
   ·exact ⟨v,vv6,ry6⟩
   ·exact d6 d hd'
 ·rintro σ H3 ⟨o4,o5,o6,kvs,rfl,S3,eR3,rR3,e3,D3⟩;rw [Nat.sub_self,List.drop_zero] at D3;exact ⟨_,rfl,k p kvs H3 S3 hp e3 D3⟩
end
structure Sw(n w:Nat)(d:PyData):Prop where
 sh:PyData.showable d=true
 nd:PyData.hasDict d=false
 dp:PyData.depth d<=n
 wd:UC d<=w
theorem Sw.all{n w:Nat}:∀{ds:List PyData},(∀d∈ds,Sw n w d)->PyData.showableAll ds=true/\PyData.hasDictAll ds=false/\PyData.depthAll ds<=n/\BT ds<=ds.length*(w+2)
 | [],_=>⟨rfl,rfl,cG _,cG _⟩
 | d::ds,h=>by
  obtain ⟨a,b,c,e⟩:=h d (aS ..);obtain ⟨a',b',c',e'⟩:=Sw.all λx hx=>h x (aT d hx);refine ⟨?_,?_,?_,?_⟩
  ·show (PyData.showable d&&PyData.showableAll ds)=true;rw [a,a'];rfl
  ·show (PyData.hasDict d || PyData.hasDictAll ds)=false;rw [b,b'];rfl
  ·show max (PyData.depth d) (PyData.depthAll ds)<=n;exact Oo
  ·show UC d+2+BT ds<=(ds.length+1)*(w+2);rw [Nat.add_mul,Nat.one_mul];exact Oo
def Sw.tup{n w k:Nat}{ds:List PyData}(h:∀d∈ds,Sw n w d)(hl:ds.length<=k):Sw (n+1) (k*(w+2)+4) (.tuple ds):=by
 obtain ⟨a,b,c,e⟩:=Sw.all h;refine ⟨a,b,by show PyData.depthAll ds+1<=n+1;omega,?_⟩;show BT ds+4<=_;have:=bS (w+2) hl;exact Oo
def Sw.le{n w m v:Nat}{d:PyData}(h:Sw n w d)(hn:n<=m:=by decide)(hw:w<=v:=by decide):Sw m v d:=⟨h.sh,h.nd,aM h.dp hn,aM h.wd hw⟩
theorem Sw.int{x:Int}{k:Nat}(h:x.natAbs<2^k)(hk:k<=1900:=by decide):Sw 1 1921 (.int x) :=
 ⟨UZ (n:=1900) (aN h (aP Dd hk)),rfl,by simp [PyData.depth],aI _⟩
theorem Sw.str{s:Str}{w:Nat}(h:(reprText s).length<=w):Sw 1 w (.str s):=⟨rfl,rfl,by simp [PyData.depth],h⟩
def Sw.fr{f:Fr}(h:nG 1900 f):Sw 2 3850 (gF f):=Sw.tup (k:=2) (n:=1) (w:=1921) (λd hd=>by
 simp only [aZ,List.not_mem_nil,or_false] at hd;rcases hd with rfl | rfl
 ·exact Sw.int h.1
 ·exact Sw.int h.2) (aI _)
def Sw.frs{fs:Ak}{k:Nat}(h:∀f∈fs,nG 1900 f)(hl:fs.length<=k):Sw 3 (k*3852+4) (pP fs):=Sw.tup (n:=2) (w:=3850) (λd hd=>by
 obtain ⟨f,hf,rfl⟩:=aX.mp hd;exact Sw.fr (h f hf)) (by rw [aA];exact hl)
def Sw.cts{c:Ae}(h:∀x∈c,x<1000){k:Nat}(hl:c.length<=k):Sw 2 (k*1923+4) (kJ c):=Sw.tup (n:=1) (w:=1921) (λd hd=>by
 obtain ⟨x,hx,rfl⟩:=aX.mp hd;exact Sw.int (k:=10) (by have:=h x hx;show (x:Int).natAbs<1024;exact Oo)) (by rw [aA];exact hl)
def rrW{H:Hp}{Q:VK}{x:V}{d:PyData}{n w:Nat}(r:cE H d x)(h:Sw n w d)(hn:n<=60)(hw:w<=16000000)(q:Q (.str d.shown) H):EY [x] H Q :=
 rrI r h.sh h.nd (aM h.dp hn) (aM (xK _ h.sh h.nd) (aM h.wd (aM hw Dd))) q
def BG{fs:Ak}{i:Nat}{f:Fr}(h:fs[i]?=some f):dG fs i=rv f:=by unfold dG;rw [gJ h]
def UQ{fs:Ak}{i:Nat}(h:fs.length<=i):dG fs i=0:=by
 unfold dG;rw [bH,eK h];exact nM
def TU.b{F W:Nat}{fs:Ah}{ws:List (Str × Ak)}(T:TU F W fs ws):∀x∈ws,BOk 10 x.2:=λx hx =>
 ⟨λf hf=>((T.sh x hx).at f hf).1.low,λf hf=>by have:=(T.sh x hx).bits f hf;show f.1.natAbs<=1024;omega,λf hf=>by have:=(T.sh x hx).bits f hf;show f.2.natAbs<=1024;omega⟩
def PX{B:Nat}(h:B<=1000000000000000):B<=2^200:=aM h Kk
def PV{B:Nat}(h:B<=1000000000000000):B<2^300:=bC h Kk
def n45{M Np Nc:Nat}(hM:M<=5)(p1:0<Np)(p2:Np<=1000000000000000)(c1:0<Nc)(c2:Nc<=1000000000000000):0<lX M iF iF Np Nc/\lX M iF iF Np Nc<2^300:=by
 refine ⟨nH (nH (nH p1 c1) Dd) (Nat.pow_pos Dd),?_⟩;have h1:iF^M<=iF^5:=aP Dd hM;have h2:lX M iF iF Np Nc<=1000000000000000*1000000000000000*iF*iF^5:=Nat.mul_le_mul (bS _ (Nat.mul_le_mul p2 c2)) h1;have h3:1000000000000000*1000000000000000*iF*iF^5<2^300:=Kk;exact Oo
structure nI(H:Hp)(tv av pv:V)(fs:Ah)(ws:List (Str × Ak))(bs mix ps cs:Ak)(F W M:Nat):Prop where
 rt:cE H (pL fs ws) tv
 ra:cE H (lV M bs mix cs) av
 rp:cE H (pP ps) pv
 T:TU F W fs ws
 f:2<=F/\F<=4
 w:2<=W/\W<=4
 m:M<=5/\(rise F M).length<=21
 bl:bs.length=W
 b:∀f∈bs,FnP 27720 1 f
 mx:DR W mix
 pl:ps.length=W
 p:∀f∈ps,DX f
 cl:cs.length=M
 c:∀f∈cs,DX f
section
variable{H H':Hp}{tv av pv:V}{fs:Ah}{ws:List (Str × Ak)}{bs mix ps cs:Ak}{F W M:Nat}
def nI.t(s:dA H H')(I:nI H tv av pv fs ws bs mix ps cs F W M):nI H' tv av pv fs ws bs mix ps cs F W M :=
 ⟨I.rt.flat s (oB _ _),I.ra.flat s (vM _ _ _ _),I.rp.flat s (kF _),I.T,I.f,I.w,I.m,I.bl,I.b,I.mx,I.pl,I.p,I.cl,I.c⟩
def nI.n(I:nI H tv av pv fs ws bs mix ps cs F W M):0<lX M iF iF (dens ps) (dens cs)/\lX M iF iF (dens ps) (dens cs)<2^300 :=
 n45 I.m.1 (qQ I.p) (tX I.p (by have:=I.pl;have:=I.w;exact Oo)) (qQ I.c) (tX I.c (by have:=I.cl;have:=I.m;exact Oo))
def nI.wo(I:nI H tv av pv fs ws bs mix ps cs F W M):iU F W M (eT ws) mix ps cs iF iF (dens ps) (dens cs) 999 where
 f1:=by have:=I.f;exact Oo
 f4:=I.f.2
 w1:=by have:=I.w;exact Oo
 w4:=I.w.2
 m5:=I.m.1
 sl:=by rw [aA];exact I.T.w
 ml:=I.mx.len
 pl:=I.pl
 cl:=I.cl
 sh:=λs hs=>by
  obtain ⟨x,hx,rfl⟩:=aX.mp hs;exact ⟨(I.T.sh x hx).len,λf hf=>((I.T.sh x hx).at f hf).1⟩
 mx:=λf hf=>(I.mx.at f hf).1
 pr:=CY I.p
 co:=CY I.c
 pos:=I.n.1
 sz:=aN I.n.2 (aP Dd Dd)
 b:=Dd
def LJ{f:Fr}(h:DX f):nG 1900 f:=by
 obtain ⟨a,b,c,d⟩:=h;have:=a.pos;have e:(1000:Nat)<=2^1900:=aM (show 1000<=2^10 by decide) (aP Dd Dd);exact ⟨aN (show f.1.natAbs<1000 by omega) e,aN (show f.2.natAbs<1000 by omega) e⟩
def YT{N B:Nat}{f:Fr}(h:Fn N B f)(h0:0<N)(hN:N<2^300)(hB:B<=2^200):nG 1900 f:=by
 obtain ⟨h1,h2⟩:=h.num h0;have e:(2:Nat)^300*2^200<=2^1900:=by rw [<-Nat.pow_add];exact aP Dd Dd
 have e3:B*N<2^300*2^200:=by
  rw [Nat.mul_comm];exact Nat.mul_lt_mul_of_lt_of_le hN hB (Nat.two_pow_pos _)
 have e2:(2:Nat)^300<=2^1900:=aP Dd Dd;exact ⟨Oo,Oo⟩
def DR.sz19{m:Nat}{gs:Ak}(h:DR m gs):∀f∈gs,nG 1900 f:=λf hf=>by
 have:=h.bits f hf;have e:(1000:Nat)<=2^1900:=aM (show 1000<=2^10 by decide) (aP Dd Dd);exact ⟨Oo,Oo⟩
def TU.sw(T:TU F W fs ws)(hf:F<=4)(hw:W<=4):Sw 6 250000 (pL fs ws):=(Sw.tup (n:=5) (w:=124000) (k:=2) (λd hd=>by
 simp only [aZ,List.not_mem_nil,or_false] at hd;rcases hd with rfl | rfl
 ·refine (Sw.tup (n:=1) (w:=20) (k:=4) (λe he=>?_) (by rw [aA,T.f];exact hf)).le;obtain ⟨s,hs,rfl⟩:=aX.mp he;exact Sw.str (T.nf s hs)
 ·refine (Sw.tup (n:=4) (w:=30900) (k:=4) (λe he=>?_) (by rw [aA,T.w];exact hw)).le;obtain ⟨x,hx,rfl⟩:=aX.mp he;refine (Sw.tup (n:=3) (w:=15420) (k:=2) (λe he=>?_) (aI _)).le;simp only [aZ,List.not_mem_nil,or_false] at he;rcases he with rfl | rfl
  ·exact (Sw.str (T.nw x hx)).le
  ·exact (Sw.frs (k:=4) (T.sh x hx).sz19 (by rw [(T.sh x hx).len];exact hf)).le) (aI _)).le
def aBS{bs mix cs:Ak}{M W:Nat}(hb:∀f∈bs,FnP 27720 1 f)(bl:bs.length=W)(hm:DR W mix)(hc:∀f∈cs,DX f)(cl:cs.length=M)(w4:W<=4)(m5:M<=5):Sw 6 80000 (lV M bs mix cs):=(Sw.tup (n:=3) (w:=19300) (k:=4) (λd hd=>by
 simp only [aZ,List.not_mem_nil,or_false] at hd;rcases hd with rfl | rfl | rfl | rfl
 ·exact (Sw.int (k:=10) (by show (M:Int).natAbs<1024;exact Oo)).le
 ·exact (Sw.frs (k:=4) (λf hf=>YT (hb f hf).1 Dd (PV Dd) (PX Dd)) Oo).le
 ·exact (Sw.frs (k:=4) hm.sz19 (by rw [hm.len];exact w4)).le
 ·exact (Sw.frs (k:=5) (λf hf=>LJ (hc f hf)) Oo).le) (aI _)).le
theorem nI.sw(I:nI H tv av pv fs ws bs mix ps cs F W M):Sw 7 800000 (.tuple [pL fs ws,lV M bs mix cs,pP ps]):=(Sw.tup (n:=6) (w:=250000) (k:=3) (λd hd=>by
 simp only [aZ,List.not_mem_nil,or_false] at hd;rcases hd with rfl | rfl | rfl
 ·exact I.T.sw I.f.2 I.w.2
 ·exact (aBS I.b I.bl I.mx I.c I.cl I.w.2 I.m.1).le
 ·exact (Sw.frs (k:=4) (λf hf=>LJ (I.p f hf)) (by rw [I.pl];exact I.w.2)).le) (aI _)).le
end
abbrev VM:Stmt:=(XL (top 27) 0)
def cQ0:bZ ["self","trial","aim","way","weights","ahead","costs"] ["self","trial","aim"] (aY VM):=⟨rfl,rfl,rfl,Kk,rfl,Kk,Kk⟩
def Fn.dn{N B:Nat}{f:Fr}(h:Fn N B f)(hN:0<N):f.2.natAbs ∣ N:=by
 obtain ⟨x,rfl,_⟩:=h.eq hN;unfold lw;show ((N:Int)/((Int.gcd x (N:Int):Nat):Int)).natAbs ∣ N;rw [<-Int.natCast_ediv,Int.natAbs_natCast];refine Nat.div_dvd_of_dvd ?_;have:=Int.gcd_dvd_right (a:=x) (b:=(N:Int));exact Int.ofNat_dvd.mp this
def lkS{fl:List (Str × V)}{f:Str}{v:V}:(eS f v fl).lookup f=some v:=by rw [nQ,if_pos rfl]
def UD{fl:List (Str × V)}{f g:Str}{v u:V}(h:g≠f)(l:fl.lookup g=some u):(eS f v fl).lookup g=some u:=by rw [nQ,if_neg h];exact l
def aR.tI{H H':Hp}{x C dx:Addr}{fl:List (Str × V)}(s:aR x H H')(hx:H x=some (.ins C dx fl)):dA H H':=λb ys h=>s.at (pN h hx (by intro z;cases z)) h
def iK.but{H H':Hp}{x C dx:Addr}{fl:List (Str × V)}{a:Addr}{cs:Ab}(s:aR x H H')(hx:H x=some (.ins C dx fl))(h:iK H a cs):iK H' a cs:=by
 obtain ⟨vs,h1,h2⟩:=h;exact ⟨vs,s.at (pN h1 hx (by intro z;cases z)) h1,h2.flat (aR.tI s hx) (jU _)⟩
def iK.butL{H H':Hp}{x:Addr}{xs:Al}{a:Addr}{cs:Ab}(s:aR x H H')(hx:H x=some (.lst xs))(n:a≠x)(h:iK H a cs):iK H' a cs:=by
 obtain ⟨vs,h1,h2⟩:=h;exact ⟨vs,s.at n h1,h2.flat (s.t hx) (jU _)⟩
def rY(H:Hp)(tas:List Addr)(ss:Aj)(rs:Ab)(us:Ae):Prop:=tas.length=us.length/\∀(i:Nat) (ta:Addr) (u:Nat),tas[i]?=some ta->us[i]?=some u->∃kvs,H ta=some (.dT kvs)/\DI kvs rs (λc=>dM ss i c*(u:Rat))
def rY.mono{H H':Hp}{tas:List Addr}{ss:Aj}{rs:Ab}{us:Ae}(s:∀b kvs,H b=some (.dT kvs)->H' b=some (.dT kvs))(h:rY H tas ss rs us):rY H' tas ss rs us:=⟨h.1,λi ta u h1 h2=>by
 obtain ⟨kvs,g1,g2⟩:=h.2 i ta u h1 h2;exact ⟨kvs,s _ _ g1,g2⟩⟩
def rY.snoc{H:Hp}{tas:List Addr}{ss:Aj}{rs:Ab}{us:Ae}{p:Addr}{u:Nat}{kvs:List (List fE × V)}(h:rY H tas ss rs us)(hp:H p=some (.dT kvs))(D:DI kvs rs (λc=>dM ss us.length c*(u:Rat))):rY H (tas++[p]) ss rs (us++[u]):=by
 refine ⟨by rw [bE,bE,h.1];rfl,λi ta v h1 h2=>?_⟩;by_cases q:i<us.length
 ·rw [cO (by rw [h.1];exact q)] at h1;rw [cO q] at h2;exact h.2 i ta v h1 h2
 ·have li:=(aF.mp h2).1;rw [bE,List.length_singleton] at li;have ei:i=us.length:=Oo;subst ei;rw [cW (aI _),Nat.sub_self] at h2;rw [cW (by rw [h.1];exact aI _),h.1,Nat.sub_self] at h1;cases h1;cases h2;exact ⟨kvs,hp,D⟩
def ahd(F M:Nat):Ab:=(rise F M).filter λc=>decide (c.sum<M)
structure yP(H:Hp)(x C:Addr)(F W M:Nat)(ss:Aj)(mix cs:Ak)(us:Ae)(cu:Nat):Prop where
 ul:us.length=W
 ex:∃(dx:Addr) (fl:List (Str × V)) (ra ua wa ca:Addr) (tas:List Addr) (kvs:List (List fE × V)),H x=some (.ins C dx fl)/\fl.lookup ("rising" : Str)=some (.ref ra)/\fl.lookup ("units" : Str)=some (.ref ua)/\fl.lookup ("weights" : Str)=some (.ref wa)/\fl.lookup ("cost_unit" : Str)=some (.int (cu:Int))/\fl.lookup ("costs" : Str)=some (.ref ca) /\
  iK H ra (rise F M)/\H ua=some (.lst (us.map AO))/\H wa=some (.lst (tas.map V.ref))/\rY H tas ss (rise F M) us/\H ca=some (.dT kvs)/\DI kvs (ahd F M) (λc=>GS W ss mix cs c*(cu:Rat))
theorem yP.same{H H':Hp}{x C:Addr}{F W M:Nat}{ss:Aj}{mix cs:Ak}{us:Ae}{cu:Nat}(s:aU H H')(h:yP H x C F W M ss mix cs us cu):yP H' x C F W M ss mix cs us cu:=by
 obtain ⟨ul,dx,fl,ra,ua,wa,ca,tas,kvs,a0,a1,a2,a3,a4,a5,a6,a7,a8,a9,a10,a11⟩:=h;exact ⟨ul,dx,fl,ra,ua,wa,ca,tas,kvs,s _ _ a0,a1,a2,a3,a4,a5,a6.same s,s _ _ a7,s _ _ a8,a9.mono λb k g=>s _ _ g,s _ _ a10,a11⟩
structure TR(ws:List (Str × Ak))(bs:Ak)(F W M Ns Nm Np Nc B Nb:Nat)(mix ps cs:Ak):Prop where
 wo:iU F W M (eT ws) mix ps cs Ns Nm Np Nc B
 bo:∀x∈ws,BOk 10 x.2
 bl:bs.length=W
 bb:∀f∈bs,Fn Nb 1 f
 nb:0<Nb
 sz:lX M Ns Nm Np Nc*Nb<2^3000
@[irreducible] def rB(C:Addr):Sp:=λvs H Q _=>∃(x dx:Addr) (tv av:V) (fs:Ah) (ws:List (Str × Ak)) (bs mix ps cs:Ak) (F W M Ns Nm Np Nc B Nb:Nat),vs=[.ref x,tv,av]/\H x=some (.ins C dx [])/\cE H (pL fs ws) tv/\fs.length=F/\cE H (lV M bs mix cs) av/\TR ws bs F W M Ns Nm Np Nc B Nb mix ps cs /\
 ∀us cu H',aR x H H'->yP H' x C F W M (eT ws) mix cs us cu->(∀u∈us,0<u/\u ∣ Ns^M*Nb)->0<cu->cu ∣ lX M Ns Nm Np Nc->Q .non H'
def LZ{C:Addr}{H:Hp}{Q:VK}{E:XK}{x dx:Addr}{tv av:V}{fs:Ah}{ws:List (Str × Ak)}{bs mix ps cs:Ak}{F W M Ns Nm Np Nc B Nb:Nat}(h0:H x=some (.ins C dx []))(h1:cE H (pL fs ws) tv)(h2:fs.length=F)(h3:cE H (lV M bs mix cs) av)(h4:TR ws bs F W M Ns Nm Np Nc B Nb mix ps cs)
  (k:∀us cu H',aR x H H'->yP H' x C F W M (eT ws) mix cs us cu->(∀u∈us,0<u/\u ∣ Ns^M*Nb)->0<cu->cu ∣ lX M Ns Nm Np Nc->Q .non H'):rB C [.ref x,tv,av] H Q E:=by
 unfold rB;exact ⟨x,dx,tv,av,fs,ws,bs,mix,ps,cs,F,W,M,Ns,Nm,Np,Nc,B,Nb,rfl,h0,h1,h2,h3,h4,k⟩
section
def oQ0(F:jP K "__init__" "Weighing.__init__" VM f fd)(T:kX K mg c)(FQ25:gR dR P w K mg base 6 "all_counts" ["faces","most"] tK)(FQ34:gR dR P w K mg base 1 "faces_of" ["trial"] kP)
  (FQ50:gR dR P w K mg base 1 "ways_of" ["trial"] mB) (FQ51:gR dR P w K mg base 3 "weight" ["trial","way","counts"] (lY K)) (FQ30:gR dR P w K mg base 2 "common_lower" ["some"] (mF K)) (FQ35:gR dR P w K mg base 2 "in_units" ["rising","some","unit"] (mU K))
  (FQ37:gR dR P w K mg base 4 "look_cost" ["trial","aim","counts"] lE):eC P w K mg base dR 7 f fd ["self","trial","aim"] (rB c.Weighing):=by
 refine F.oky cQ0 λvs H Q E h=>?_;unfold rB at h;obtain ⟨x,dx,tv,av,fs,ws,bs,mix,ps,cs,F,W,M,Ns,Nm,Np,Nc,B,Nb,rfl,hx,rt,hF,ra,G,k⟩:=h;refine ⟨rfl,λcdv A outer s hr=>?_⟩;have I:=G.wo;have f1:=I.f1;have f4:=I.f4;have m5:=I.m5;have w4:=I.w4;have O:=T.w_Weighing;have wl:ws.length=W:=by have:=I.sl;rw [aA] at this;exact this
 obtain ⟨aa,xb,xm,xc,rfl,haa,rxb,rxm,rxc⟩:=vL ra;obtain ⟨ab,vb,rfl,hab,rvb⟩:=kQ rxb;have small:=sE F f4 M m5;have nsp:0<Ns^M*Nb:=nH (by
  have:=I.pos;exact Nat.pos_of_ne_zero λz=>by rw [z,Nat.mul_zero] at this;exact bL _ this) G.nb
 have nsz:Ns^M*Nb<2^3000:=bC (by
  have h0:0<Np*Nc*Nm:=Nat.pos_of_ne_zero λz=>by have:=I.pos;rw [z,Nat.zero_mul] at this;exact bL _ this
  rw [show lX M Ns Nm Np Nc*Nb=Np*Nc*Nm*(Ns^M*Nb) by unfold lX;ac_rfl];exact Nat.le_mul_of_pos_left _ h0) G.sz
 refine ⟨_,(aH (sQ (aD 0) (bV FQ25 (hr.mono Dd) (aJ (bV FQ34 (hr.mono Dd) (aJ (aD 1) aE)) (aJ (bP bK (aD 2) aK (λ_ _=>rfl)) aE))))
  (aH (sQ (aD 0) (iD aE))
  (aH (sQ (aD 0) (iD aE))
  (aH (eY PassesOwn.never rfl (cS rfl T.b_range (aJ (bV FQ50 (hr.mono Dd) (aJ (aD 1) aE)) aE)) (cX (i:=3) cQ0.nd rfl (Or.inr rfl)) (aH (iB (i:=4) (dP.of (psc:=aY VM) (N:=["self","trial","aim","way","weights","ahead","costs"]) (N':=["counts","trial","way"]) (js:=[1,3]) Kk rfl rfl rfl) cQ0.nd rfl rfl (eZ (gW K (aD 0))) (λ_ _ _ _=>dW) (λ_ _ _ _=>(bV FQ51 (hr.mono Dd) (aJ (aD 1) (aJ (aD 2) (aJ (aD 0) aE))))))
  (aH (jQ (nJ PySem.F.plainAttrs_list PySem.F.slot_list_append PySem.F.type_list_append pB (gW K (aD 0)) (aJ (bV FQ30 (hr.mono Dd) (aJ (bX xS (aD 4) (iD (aJ (bP bK (bP bK (aD 2) aK (λ_ _=>rfl)) (aD 3) (λ_ _=>rfl)) aE))) aE)) aE)))
  (bD (jQ (nJ PySem.F.plainAttrs_list PySem.F.slot_list_append PySem.F.type_list_append pB (gW K (aD 0)) (aJ (bV FQ35 (hr.mono Dd) (aJ (gW K (aD 0)) (aJ (aD 4) (aJ (bP bK (gW K (aD 0)) (aD 3) (λ_ _=>rfl)) aE)))) aE)))))))
  (aH (iB (i:=5) (dP.of (psc:=aY VM) (N:=["self","trial","aim","way","weights","ahead","costs"]) (N':=["counts","aim"]) (js:=[2]) Kk rfl rfl rfl) cQ0.nd rfl rfl (eZ (gW K (aD 0))) (λ_ _ _ _=>BC (eO xR (dX (pJ K rfl) (by rfl) T.b_sum Kk (aJ (aD 0) aE)) (bP (iZ K) (aD 1) aK (λ_ _=>rfl)) (nomark _))) (λ_ _ _ _=>(aD 0)))
  (aH (iB (i:=6) (dP.of (psc:=aY VM) (N:=["self","trial","aim","way","weights","ahead","costs"]) (N':=["counts","trial","aim"]) (js:=[1,2]) Kk rfl rfl rfl) cQ0.nd rfl rfl (eZ (aD 5)) (λ_ _ _ _=>dW) (λ_ _ _ _=>(bV FQ37 (hr.mono Dd) (aJ (aD 1) (aJ (aD 2) (aJ (aD 0) aE))))))
  (aH (sQ (aD 0) (bV FQ30 (hr.mono Dd) (aJ (aD 6) aE)))
  (bD (sQ (aD 0) (bV FQ35 (hr.mono Dd) (aJ (aD 5) (aJ (aD 6) (aJ (gW K (aD 0)) aE))))))))))))),?_⟩
 refine ⟨_,rfl,tH rt ?_⟩;rw [hF];refine ⟨_,rfl,jS haa rfl ?_⟩;refine MF f1 f4 m5 λR H1 s1 hR LR=>?_;have LR:iK H1 R (rise F M):=LR;have hx1:=s1 _ _ hx;refine ⟨_,rfl,x,c.Weighing,dx,_,rfl,hx1,O.cls,O.no _ (by simp),by show 0<1000;decide,?_⟩;have b2:aR x H1 (upd H1 x (.ins c.Weighing dx (eS "rising" (.ref R) []))):=aR.self;have e2:(upd H1 x (.ins c.Weighing dx (eS "rising" (.ref R) []))) x=some (.ins c.Weighing dx (eS "rising" (.ref R) [])):=bO;generalize upd H1 x (.ins c.Weighing dx (eS "rising" (.ref R) []))=H2 at b2 e2 ⊢;have L2:=LR.but b2 hx1;have t2:dA H H2:=s1.t.trans (aR.tI b2 hx1);have B2:aR x H H2:=s1.but.trans b2;refine CI (by show 0<=64;decide) λua H3 hua e3 s3=>⟨_,rfl,x,c.Weighing,dx,_,rfl,s3 _ _ e2,O.cls,O.no _ (by simp),by show 1<1000;decide,?_⟩;have b4:=aR.self (p:=x) (H:=H3) (o:=.ins c.Weighing dx (eS "units" (.ref ua) (eS "rising" (.ref R) [])));have e4:(upd H3 x (.ins c.Weighing dx (eS "units" (.ref ua) (eS "rising" (.ref R) [])))) x=_:=bO;generalize upd H3 x (.ins c.Weighing dx (eS "units" (.ref ua) (eS "rising" (.ref R) [])))=H4 at b4 e4 ⊢;have nux:ua≠x:=λz=>by rw [z,e2] at hua;cases hua
 have e4u:=b4.at nux e3;have L4:=(L2.same s3).but b4 (s3 _ _ e2);have t4:dA H H4:=(t2.trans s3.t).trans (aR.tI b4 (s3 _ _ e2));have B4:aR x H H4:=(B2.trans s3.but).trans b4;refine CI (by show 0<=64;decide) λwa H5 hwa e5 s5=>⟨_,rfl,x,c.Weighing,dx,_,rfl,s5 _ _ e4,O.cls,O.no _ (by simp),by show 2<1000;decide,?_⟩;have b6:=aR.self (p:=x) (H:=H5) (o:=.ins c.Weighing dx (eS "weights" (.ref wa) (eS "units" (.ref ua) (eS "rising" (.ref R) []))));have e6:(upd H5 x (.ins c.Weighing dx (eS "weights" (.ref wa) (eS "units" (.ref ua) (eS "rising" (.ref R) []))))) x=_:=bO;generalize upd H5 x (.ins c.Weighing dx (eS "weights" (.ref wa) (eS "units" (.ref ua) (eS "rising" (.ref R) []))))=H6 at b6 e6 ⊢;have nwx:wa≠x:=λz=>by rw [z,e4] at hwa;cases hwa
 have nwu:wa≠ua:=λz=>by rw [z,e4u] at hwa;cases hwa
 have e6w:=b6.at nwx e5;have e6u:=b6.at nux (s5 _ _ e4u);have L6:=(L4.same s5).but b6 (s5 _ _ e4);have B6:aR x H H6:=(B4.trans s5.but).trans b6;have lr:(eS "weights" (V.ref wa) (eS "units" (.ref ua) (eS "rising" (.ref R) []))).lookup ("rising" : Str)=some (.ref R):=UD Dd (UD Dd lkS);have lu:(eS "weights" (V.ref wa) (eS "units" (.ref ua) (eS "rising" (.ref R) []))).lookup ("units" : Str)=some (.ref ua):=UD Dd lkS;have lw':(eS "weights" (V.ref wa) (eS "units" (.ref ua) (eS "rising" (.ref R) []))).lookup ("weights" : Str)=some (.ref wa):=lkS;have fle:(eS "weights" (V.ref wa) (eS "units" (.ref ua) (eS "rising" (.ref R) []))).length<=3:=by
  have h1:=kB "weights" (V.ref wa) (eS "units" (.ref ua) (eS "rising" (.ref R) []));have h2:=kB "units" (V.ref ua) (eS "rising" (.ref R) []);have h3:=kB "rising" (V.ref R) [];simp only [List.length_nil] at h3;exact Oo
 generalize eS "weights" (V.ref wa) (eS "units" (.ref ua) (eS "rising" (.ref R) []))=fl at e6 lr lu lw' fle ⊢;have hu0:H ua=none:=by
  cases q:H ua with
  | none=>rfl
  | some o=>exact absurd (B2.at nux q) (by rw [hua];intro z;cases z)
 have hw0:H wa=none:=by
  cases q:H wa with
  | none=>rfl
  | some o=>exact absurd (B4.at nwx q) (by rw [hwa];intro z;cases z)
 have nRu:R≠ua:=λz=>by obtain ⟨vs,g,_⟩:=L2;rw [z,hua] at g;cases g
 have nRw:R≠wa:=λz=>by obtain ⟨vs,g,_⟩:=L4;rw [z,hwa] at g;cases g
 clear hua hwa e2 e3 e4 e5 e4u b2 b4 b6 s3 s5 L2 L4 LR t2 t4 B2 B4;refine ⟨_,rfl,vS (rt.flat (aR.tI B6 hx) (oB _ _)) ?_⟩;rw [wl];refine ⟨_,rfl,Oo,Oo,?_⟩;refine fS (λi σ H'=>∃(o3 o4:Am) (us:Ae) (tas:List Addr),σ=[some (.ref x),some tv,some (.ref aa),o3,o4,none,none]/\aR x H H'/\H' x=some (.ins c.Weighing dx fl)/\iK H' R (rise F M)/\H' ua=some (.lst (us.map AO))/\us.length=i/\H' wa=some (.lst (tas.map V.ref))/\rY H' tas (eT ws) (rise F M) us/\∀u∈us,0<u/\u ∣ Ns^M*Nb)
  ⟨_,_,[],[],rfl,B6,e6,L6,e6u,rfl,e6w,⟨rfl,λi ta u h=>by simp at h⟩,λu hu=>by cases hu⟩ ?_ ?_
 ·rintro i σ H7 hi ⟨o3,o4,us,tas,rfl,B7,e7,L7,e7u,ul,e7w,tb7,hus⟩;have hi:i<W:=Oo;have t7:=aR.tI B7 hx;have rt7:=rt.flat t7 (oB _ _);obtain ⟨xv,hxv⟩:∃xv,ws[i]?=some xv:=⟨_,aB (by rw [wl];exact hi)⟩;have ex:(eT ws).getD i []=xv.2:=gJ (by rw [aL,hxv];rfl);obtain ⟨vs7,e7r,r7,lr7⟩:=L7.len;rw [Int.zero_add];refine ⟨_,rfl,rP O (by simp) e7 lr ?_⟩;refine ⟨R,rfl,⟨_,fI.of e7r⟩,hV (λj y H'=>∃cc,(rise F M)[j]?=some cc/\zJ K H' (jW (xv.2.zip cc)) y) (λj y Ha Hb s ⟨cc,h1,h2⟩=>⟨cc,h1,h2.t s⟩) Oo e7r (λj y H' Q' hy s' k'=>?_) (λD ys H8 hD e8 s8 hy8 hr8=>?_)⟩
  ·obtain ⟨cc,hc,rc⟩:=fC r7 hy;have hcm:=(gP f1).mp (aG hc);refine ⟨_,rfl,_,rfl,_,rfl,?_⟩;exact vR (rt7.same s') hxv (rc.same s') (G.bo xv (aG hxv)) Oo λxw H9 s9 fw=>k' _ H9 s9 ⟨cc,hc,fw⟩
  have ly8:ys.length=(rise F M).length:=Oo;have fr8:qU K H8 ((rise F M).map λcc=>jW (xv.2.zip cc)) ys:=⟨by rw [aA];exact ly8,λj y hj=>by
   obtain ⟨cc,h1,h2⟩:=hr8 j y hj;exact ⟨_,by rw [aL,h1];rfl,h2⟩⟩
  have e8x:=s8 _ _ e7;have e8u:=s8 _ _ e7u;have e8w:=s8 _ _ e7w;have B8:=B7.trans s8.but;refine ⟨_,rfl,rP O (by simp) e8x lu ?_⟩;refine ⟨LW e8u,⟨_,rfl,?_⟩⟩;have t8:=aR.tI B8 hx;obtain ⟨fb,hfb⟩:∃fb,bs[i]?=some fb:=⟨_,aB (by rw [G.bl];exact hi)⟩;obtain ⟨yb,hyb,ryb⟩:=eG rvb hfb;refine ⟨_,rfl,jS (t8 _ _ haa) rfl ?_⟩;refine ⟨_,rfl,jS (t8 _ _ hab) (cV hyb) ?_⟩;refine CI (by show 1<=64;decide) λq9 H9 hq9 e9 s9=>SX (s9 _ _ e8) e9 (by rw [ly8];show (rise F M).length+1<=1000;exact Oo) λq10 H10 hq10 e10 s10=>?_;have s810:=s9.trans s10;have ryb10:zJ K H10 fb yb:=.inl (ryb.flat (t8.trans s810.t) (cT _));have fr10:qU K H10 ((rise F M).map (λcc=>jW (xv.2.zip cc))++[fb]) (ys++[yb]):=⟨by rw [bE,bE,aA,ly8];rfl,λj y hj=>by
   by_cases q:j<ys.length
   ·rw [cO q] at hj;obtain ⟨g,h1,h2⟩:=fr8.at_ j y hj;exact ⟨g,by rw [cO (by rw [aA];exact Oo)];exact h1,h2.t s810.t⟩
   ·have lj:=(aF.mp hj).1;rw [bE,List.length_singleton] at lj;have ej:j=ys.length:=Oo;subst ej;rw [cW (aI _),Nat.sub_self] at hj;cases hj;exact ⟨fb,by rw [cW (by rw [aA];exact Oo),aA,ly8,Nat.sub_self];rfl,ryb10⟩⟩
  have wn:∀cc,cc∈rise F M->Fn (Ns^M) 1 (jW (xv.2.zip cc)):=λcc hc=>by
   have hcm:=(gP f1).mp hc;have h1:=rM I hi cc;have h2:=I.qn hi (c:=cc) Oo;rw [ex] at h1;unfold dM at h2;rw [ex] at h2;exact Qn.f h1 h2
  refine qC e10 fr10.v nsp nsz (λg hg=>?_) λU u0 uN hU=>?_
  ·rcases cB.mp hg with hg | hg
   ·obtain ⟨cc,hc,rfl⟩:=aX.mp hg;have:=(wn cc hc).dvd (Nat.dvd_mul_right (Ns^M) Nb);exact ⟨this.low,Fn.dn this nsp⟩
   ·rw [bJ.mp hg];have:=(G.bb fb (aG hfb)).dvd (Nat.dvd_mul_left Nb (Ns^M));exact ⟨this.low,Fn.dn this nsp⟩
  have uz:U<2^3000:=bC (kC nsp uN) nsz;have e10u:=s810 _ _ e8u;refine DH e10u (by rw [aA];exact Oo) λH11 e11 b11=>?_;have e11u:H11 ua=some (.lst ((us++[U]).map AO)):=by rw [e11,bF];rfl
  have e11x:=b11.at (Ne.symm nux) (s810 _ _ e8x);have e11w:=b11.at nwu (s810 _ _ e8w);have L11:=((L7.same s8).same s810).butL b11 e10u nRu;have t11:dA H8 H11:=s810.t.trans (b11.t e10u);have hDu:D≠ua:=λz=>by rw [z,e7u] at hD;cases hD
  have e11D:=b11.at hDu (s810 _ _ e8);have B11:aR x H H11:=aR.thru hu0 (B8.trans s810.but) b11;have tb11:rY H11 tas (eT ws) (rise F M) us:=tb7.mono λb kv g=>b11.at (pN (s810 _ _ (s8 _ _ g)) e10u (by intro z;cases z)) (s810 _ _ (s8 _ _ g));refine ⟨_,rfl,rP O (by simp) e11x lw' ?_⟩;refine ⟨LW e11w,⟨_,rfl,rP O (by simp) e11x lr ?_⟩⟩;refine ⟨_,rfl,⟨_,rfl,rP O (by simp) e11x lu ?_⟩⟩;refine ⟨_,rfl,FR e11u (cV (j:=i) (v:=AO U) (by rw [bF,cW (by rw [aA];exact Oo),aA,ul,Nat.sub_self];rfl)) ?_⟩;refine tF (g:=λcc=>jW (xv.2.zip cc)) L11 e11D (fr8.t t11) small uz (λcc hc=>?_) λp kvs H12 s12 hp e12 D12=>?_
  ·have h1:=(wn cc hc).dvd (Nat.dvd_mul_right (Ns^M) Nb);exact ⟨h1.low,iM I (by have:=wX I hi (c:=cc) ((gP f1).mp hc).2;rw [ex] at this;exact this) (aM (show 1<=1000000000000 by decide) kW),hU _ (bY _ (aX.mpr ⟨cc,hc,rfl⟩))⟩
  refine DH (s12 _ _ e11w) (by rw [aA,tb7.1];exact Oo) λH13 e13 b13=>?_;have hpw:p≠wa:=λz=>by rw [z,e11w] at hp;cases hp
  have B12:=B11.trans s12.but;refine ⟨_,_,us++[U],tas++[p],rfl,aR.thru hw0 B12 b13,b13.at (Ne.symm nwx) (s12 _ _ e11x),(L11.same s12).butL b13 (s12 _ _ e11w) nRw,b13.at (Ne.symm nwu) (s12 _ _ e11u),by rw [bE,ul];rfl,by rw [e13,bF];rfl,?_,λu hu=>?_⟩
  ·refine rY.snoc (kvs:=kvs) ?_ (b13.at hpw e12) ?_
   ·exact tb11.mono λb kv g=>b13.at (pN (s12 _ _ g) (s12 _ _ e11w) (by intro z;cases z)) (s12 _ _ g)
   ·rw [ul];have:(λcc=>dM (eT ws) i cc*(U:Rat))=λcc=>rv (jW (xv.2.zip cc))*(U:Rat):=by
     funext cc
     unfold dM wq;rw [ex]
    rw [this];exact D12
  ·rcases cB.mp hu with hu | hu
   ·exact hus u hu
   ·rw [bJ.mp hu];exact ⟨u0,uN⟩
 ·rintro σ H7 ⟨o3,o4,us,tas,rfl,B7,e7,L7,e7u,ul,e7w,tb7,hus⟩;have ul:us.length=W:=Oo;have t7:=aR.tI B7 hx;have rt7:=rt.flat t7 (oB _ _);have ra7:=ra.flat t7 (vM _ _ _ _);obtain ⟨vs7,e7r,r7,lr7⟩:=L7.len;refine ⟨_,rfl,rP O (by simp) e7 lr ?_⟩;refine ⟨R,rfl,⟨_,fI.of e7r⟩,AM (g:=kJ) r7 (λcc=>decide (cc.sum<M)) Oo e7r (λy cc H' Q' hc ry s' k'=>?_) (λy H' Q' q=>⟨_,rfl,q⟩) (λD ys H8 hD e8 s8 r8=>?_)⟩
  ·obtain ⟨ac,rfl,hac⟩:=gK ry;refine ⟨_,rfl,rsT (ns:=ci cc) (by rw [eJ];exact iJ.of hac) ?_⟩;rw [vJ];refine ⟨_,rfl,jS (s' _ _ (t7 _ _ haa)) rfl ?_⟩;refine ⟨_,_,rfl,rfl,_,rfl,?_⟩;rw [show decide ((cc.sum:Int)<(M:Int))=decide (cc.sum<M) by simp];exact k' H' (aU.refl _)
  have r8:aQ H8 ((ahd F M).map kJ) ys:=r8;have ly8:ys.length=(ahd F M).length:=by rw [r8.len,aA]
  have la:(ahd F M).length<=(rise F M).length:=List.length_filter_le ..;refine ⟨_,rfl,D,rfl,⟨_,fI.of e8⟩,?_⟩;have mah:∀cc,cc∈ahd F M->cc.length=F/\cc.sum<M:=λcc hc=>by
   obtain ⟨h1,h2⟩:=cR.mp hc;exact ⟨((gP f1).mp h1).1,of_decide_eq_true h2⟩
  refine hV (λj y H'=>∃cc,(ahd F M)[j]?=some cc/\cE H' (gF (iI (GS W (eT ws) mix cs cc))) y) (λj y Ha Hb s ⟨cc,h1,h2⟩=>⟨cc,h1,h2.flat s (cT _)⟩) Oo e8 (λj y H' Q' hy s' k'=>?_) (λD2 zs H9 hD2 e9 s9 hy9 hr9=>?_)
  ·obtain ⟨cc,hc,rc⟩:=fC r8 hy;refine ⟨_,rfl,_,rfl,_,rfl,?_⟩;exact yX ((rt7.same s8).same s') ((ra7.same s8).same s') (rc.same s') I G.bo (mah cc (aG hc)).2 λv H10 s10 r10=>k' _ H10 s10 ⟨cc,hc,r10⟩
  have lz9:zs.length=(ahd F M).length:=Oo;have fr9:qU K H9 ((ahd F M).map λcc=>iI (GS W (eT ws) mix cs cc)) zs:=⟨by rw [aA];exact lz9,λj y hj=>by
   obtain ⟨cc,h1,h2⟩:=hr9 j y hj;exact ⟨_,by rw [aL,h1];rfl,.inl h2⟩⟩
  have ln:∀cc,cc∈ahd F M->Fn (lX M Ns Nm Np Nc) (B*4) (iI (GS W (eT ws) mix cs cc)):=λcc hc=>LG I (mah cc hc).2;refine ⟨_,rfl,?_⟩;refine qC e9 fr9.v I.pos I.sz (λg hg=>?_) λU u0 uN hU=>?_
  ·obtain ⟨cc,hc,rfl⟩:=aX.mp hg;exact ⟨(ln cc hc).low,Fn.dn (ln cc hc) I.pos⟩
  have uz:U<2^3000:=bC (kC I.pos uN) I.sz;have s79:=s8.trans s9;refine ⟨_,rfl,x,c.Weighing,dx,_,rfl,s79 _ _ e7,O.cls,O.no _ (by simp),Oo,?_⟩;have b10:=aR.self (p:=x) (H:=H9) (o:=.ins c.Weighing dx (eS "cost_unit" (.int (U:Int)) fl));have e10:(upd H9 x (.ins c.Weighing dx (eS "cost_unit" (.int (U:Int)) fl))) x=_:=bO;generalize upd H9 x (.ins c.Weighing dx (eS "cost_unit" (.int (U:Int)) fl))=H10 at b10 e10 ⊢;have hx9:=s79 _ _ e7;have nDx:D≠x:=pN e8 (s8 _ _ e7) (by intro z;cases z);have nD2x:D2≠x:=pN e9 hx9 (by intro z;cases z);have t10:=aR.tI b10 hx9;have LD:iK H10 D (ahd F M):=⟨ys,b10.at nDx (s9 _ _ e8),(r8.same s9).flat t10 (jU _)⟩;refine ⟨_,rfl,_,rfl,_,rfl,rP O (by simp) e10 lkS ?_⟩;have hB:=I.b;refine tF (g:=λcc=>iI (GS W (eT ws) mix cs cc)) LD (b10.at nD2x e9) (fr9.t t10) Oo uz (λcc hc=>⟨(ln cc hc).low,iM I (ln cc hc) (aM (show B*4<=1000000000000 by omega) kW),hU _ (aX.mpr ⟨cc,hc,rfl⟩)⟩) λp kvs H11 s11 hp e11 D11=>?_;have e11x:=s11 _ _ e10;have fle2:=kB "cost_unit" (V.int (U:Int)) fl;refine ⟨_,rfl,x,c.Weighing,dx,_,rfl,e11x,O.cls,O.no _ (by simp),Oo,?_⟩;have b12:=aR.self (p:=x) (H:=H11) (o:=.ins c.Weighing dx (eS "costs" (.ref p) (eS "cost_unit" (.int (U:Int)) fl)));have e12:(upd H11 x (.ins c.Weighing dx (eS "costs" (.ref p) (eS "cost_unit" (.int (U:Int)) fl)))) x=_:=bO;generalize upd H11 x (.ins c.Weighing dx (eS "costs" (.ref p) (eS "cost_unit" (.int (U:Int)) fl)))=H12 at b12 e12 ⊢;have npx:p≠x:=λz=>by rw [z,e10] at hp;cases hp
  refine k us U H12 ((((B7.trans s79.but).trans b10).trans s11.but).trans b12) ⟨ul,dx,_,R,ua,wa,p,tas,kvs,e12,UD Dd (UD Dd lr),UD Dd (UD Dd lu),UD Dd (UD Dd lw'),UD Dd lkS,lkS,?_,?_,?_,?_,b12.at npx e11,?_⟩ hus u0 uN
  ·exact (((L7.same s79).but b10 hx9).same s11).but b12 e11x
  ·exact b12.at nux (s11 _ _ (b10.at nux (s79 _ _ e7u)))
  ·exact b12.at nwx (s11 _ _ (b10.at nwx (s79 _ _ e7w)))
  ·refine tb7.mono λb kv g=>?_;have g1:=s79 _ _ g;have nb:b≠x:=pN g1 hx9 (by intro z;cases z);exact b12.at nb (s11 _ _ (b10.at nb g1))
  ·have:(λcc=>GS W (eT ws) mix cs cc*(U:Rat))=λcc=>rv (iI (GS W (eT ws) mix cs cc))*(U:Rat):=by
    funext cc
    rw [eW]
   rw [this];exact D11
end
end Kw
namespace L2
open PySem PySem.Spec PyProof.Rows
@[irreducible] def JW:V->Al->Hp->VK->Prop:=λx vs H Q=>∃(l:Addr) (ns:Af) (m:Int) (j:Nat),x=.ref l/\vs=[.int m]/\H l=some (.lst (ns.map V.int))/\ns[j]?=some m/\(∀i,i<j->ns[i]? ≠ some m)/\ns.length<=1000/\Q (.int (j:Int)) H
def aEr{H:Hp}{l:Addr}{ns:Af}{m:Int}{j:Nat}{Q:VK}(h:H l=some (.lst (ns.map V.int)))(h1:ns[j]?=some m)(h2:∀i,i<j->ns[i]? ≠ some m)(hz:ns.length<=1000)(q:Q (.int (j:Int)) H):JW (.ref l) [.int m] H Q:=by
 unfold JW;exact ⟨l,ns,m,j,rfl,rfl,h,h1,h2,hz,q⟩
theorem oU:∀{ns:Af}{us:Ag}{m:Nat},dF (ns.map V.int) us->(hm:m<us.length)->∃s t,ns[m]?=some s/\us[m]=.int s t
 | s::ns,u::us,0,h,_=>by
  cases h with
  | cons r _=>obtain ⟨t,e⟩:=(show ∃t,u=Value.int s t from r);exact ⟨s,t,rfl,e⟩
 | s::ns,u::us,m+1,h,hm=>by
  cases h with
  | cons _ hr =>
   obtain ⟨s',t,h1,h2⟩:=oU hr (m:=m) (by simpa using hm);exact ⟨s',t,h1,h2⟩
 | [],us,m,h,hm=>by cases h;simp at hm
def KN(a b:Int):SC (.int a) (.int b)=decide (a=b):=by
 show (a == b)=_;by_cases h:a=b
 ·subst h;simp
 ·simp [h]
theorem xZ:∀ns:Af,(ns.map V.int).all qN=true
 | []=>rfl
 | s::ns=>by show (qN (V.int s)&&(ns.map V.int).all qN)=true;rw [xZ ns];rfl
def SA{ns:Af}{m:Int}(h:m∈ns):∃j:Nat,ns[j]?=some m/\∀i,i<j->ns[i]? ≠ some m:=by
 induction ns with
 | nil=>cases h
 | cons a ns ih =>
  by_cases e:a=m
  ·exact ⟨0,by rw [e];rfl,λi hi=>Oo⟩
  ·obtain ⟨j,h1,h2⟩:=ih ((aZ.mp h).resolve_left λz=>e z.symm);refine ⟨j+1,h1,λi hi=>?_⟩;cases i with
   | zero=>intro z;exact e (by simpa using z)
   | succ i=>exact h2 i Oo
section
variable{X:Cx}
def XC:MtR X "list.index" JW:=by
 unfold JW;intro pins s σ H x vs v us Q I rx rv h;obtain ⟨l,ns,m,j,rfl,rfl,hH,h1,h2,hz,q⟩:=h;cases rx;obtain ⟨u,rfl,ru⟩:=kD rv;obtain ⟨t,rfl⟩:=(show ∃t,u=Value.int m t from ru);obtain ⟨z,its,n,r,hl,e⟩:=I.lstM hH;have lj:j<ns.length:=(aF.mp h1).1;have hjl:j<its.toArray.size:=by rw [aW,<-hl,aA];exact lj
 have hit:OB (.int m) its.toArray[j]=true:=by
  obtain ⟨s',t',g1,g2⟩:=oU r (m:=j) (by simpa using hjl);rw [h1] at g1;cases g1;rw [show its.toArray[j]=its[j]'(by simpa using hjl) from rfl,g2];show SC (.int m) (.int m)=true;rw [KN];simp
 have hno:∀i (hm:i<its.toArray.size),i<j->OB (.int m) its.toArray[i]=false:=λi hm hij=>by
  obtain ⟨s',t',g1,g2⟩:=oU r (m:=i) (by simpa using hm);rw [show its.toArray[i]=its[i]'(by simpa using hm) from rfl,g2];show SC (.int s') (.int m)=false;rw [KN];exact cJ λz=>h2 i hij (by rw [g1,z])
 exact call_meets F.slot_list_index ⟨_,e,rfl⟩ F.entry_list_index (F.args_list_index_2 _ _) (SeqAt.list_indexAt l its.toArray n none #[] (.int m t) (OB (.int m)) j hjl Oo hit hno) ⟨e,λy hy=>tR (x:=.int m) ⟨t,rfl⟩ rfl r (xZ ns) y (by simpa using hy),⟨.int _,H,I.tok _,⟨_,rfl⟩,q⟩⟩
end
end L2
namespace Kw
open PySem L2 Mf
def vD{l:List Rat}{x:Rat}(h:l≠[]):iY (l++[x])=if x<iY l then x else iY l:=by
 refine CK ?_ λy hy=>?_
 ·split
  ·exact aO _ (bJ.mpr rfl)
  ·exact bY _ (tQ h)
 ·rcases cB.mp hy with hy | hy
  ·have:=CJ hy;split <;> grind
  ·rw [bJ.mp hy];split <;> grind
section
variable{F W M:Nat}{ss:Aj}{mix ps cs:Ak}
abbrev fR(ss:Aj)(ps:Ak)(c:Ae)(v:Nat):Rat:=dG ps v*dM ss v c
def GR(F W M:Nat)(ss:Aj)(mix ps cs:Ak)(c:Ae):Rat:=GS W ss mix cs c+cM F λj=>wor F W M ss mix ps cs (bQ c j)
def OI{c:Ae}(h:M<=c.sum):wor F W M ss mix ps cs c=iY (jM W (fR ss ps c)):=by
 unfold wor;rw [Nat.sub_eq_zero_of_le h];rfl
def EB{c:Ae}(h:c.sum<M)(hl:c.length=F):wor F W M ss mix ps cs c=iY (jM W (fR ss ps c)++[GR F W M ss mix ps cs c]):=by
 obtain ⟨n,hn⟩:∃n,M-c.sum=n+1:=⟨M-c.sum-1,Oo⟩;unfold wor;rw [hn,uL];unfold GR GS;congr 3;congr 1;refine dH λj hj=>?_;unfold wor;rw [hZ Oo,show M-(c.sum+1)=n by omega]
def Bst(F W M:Nat)(ss:Aj)(mix ps cs:Ak)(c:Ae)(b:Nat):Prop :=
 (b=0/\c.sum<M/\wor F W M ss mix ps cs c=GR F W M ss mix ps cs c)\/∃v,v<W/\b=1+v/\wor F W M ss mix ps cs c=cM W (fR ss ps c)-fR ss ps c v
def GT(F W M:Nat)(ss:Aj)(mix ps cs:Ak)(c:Ae)(b:Nat):Prop :=
 (b=0/\c.sum<M/\GR F W M ss mix ps cs c<iY (jM W (fR ss ps c)))\/∃v,v<W/\b=1+v/\cM W (fR ss ps c)-fR ss ps c v=iY (jM W (fR ss ps c))/\(∀u,u<v->iY (jM W (fR ss ps c))<cM W (fR ss ps c)-fR ss ps c u)/\(c.sum<M->¬GR F W M ss mix ps cs c<iY (jM W (fR ss ps c)))
def HQ{u x y:Rat}(hu:0<u)(h:u*x=u*y):x=y:=by
 have h1:u*(x-y)=0:=by grind
 rcases Rat.mul_eq_zero.mp h1 with h2 | h2 <;> grind
def aAX{u x y:Rat}(hu:0<u)(h:u*x<=u*y):x<=y:=by
 refine bM λq=>?_;have h1:y<x:=by grind
 have h2:=Rat.mul_lt_mul_of_pos_left h1 hu;grind
def QM{u x y:Rat}(hu:0<u):u*x<u*y↔x<y:=by
 constructor
 ·intro h;refine bM λq=>?_;have h1:y<=x:=by grind
  have h2:=Rat.mul_le_mul_of_nonneg_left h1 (Rat.le_of_lt hu);grind
 ·exact λh=>Rat.mul_lt_mul_of_pos_left h hu
def RJ{d:Nat->Rat}{U:Rat}(hU:0<U){ns:Af}(hl:ns.length=W)(hv:∀(i:Nat) (n:Int),ns[i]?=some n->(n:Rat)=U*(cM W d-d i)){m:Int}(hm:m∈ns)(hle:∀a∈ns,m<=a):(m:Rat)=U*iY (jM W d):=by
 obtain ⟨i,hi⟩:=cZ.mp hm;have e:=hv i m hi;have li:=(aF.mp hi).1;have:iY (jM W d)=cM W d-d i:=by
  refine CK (tM.mpr ⟨i,Oo,rfl⟩) λx hx=>?_;obtain ⟨w,hw,rfl⟩:=tM.mp hx;obtain ⟨n,hn⟩:∃n,ns[w]?=some n:=⟨_,aB Oo⟩;have h1:=hle n (aG hn);have h2:(m:Rat)<=(n:Rat):=by exact_mod_cast h1
  rw [e,hv w n hn] at h2;exact aAX hU h2
 rw [this];exact e
def yL{c:Ae}{v:Nat}(w1:1<=W)(hl:c.length=F)(hv:v<W)(e:cM W (fR ss ps c)-fR ss ps c v=iY (jM W (fR ss ps c)))(h:c.sum<M->¬GR F W M ss mix ps cs c<iY (jM W (fR ss ps c))) :
  Bst F W M ss mix ps cs c (1+v)/\wor F W M ss mix ps cs c=iY (jM W (fR ss ps c)):=by
 have ew:wor F W M ss mix ps cs c=iY (jM W (fR ss ps c)):=by
  by_cases q:c.sum<M
  ·rw [EB q hl,vD (BU w1 _),if_neg (h q)]
  ·exact OI Oo
 exact ⟨.inr ⟨v,hv,rfl,by rw [ew,e]⟩,ew⟩
def TJ{c:Ae}(w1:1<=W)(hl:c.length=F)(hc:c.sum<M)(h:GR F W M ss mix ps cs c<iY (jM W (fR ss ps c))):Bst F W M ss mix ps cs c 0/\wor F W M ss mix ps cs c=GR F W M ss mix ps cs c:=by
 have ew:wor F W M ss mix ps cs c=GR F W M ss mix ps cs c:=by rw [EB hc hl,vD (BU w1 _),if_pos h]
 exact ⟨.inl ⟨rfl,hc,ew⟩,ew⟩
def GT.bst{c:Ae}{b:Nat}(w1:1<=W)(hl:c.length=F)(h:GT F W M ss mix ps cs c b):Bst F W M ss mix ps cs c b:=by
 rcases h with ⟨rfl,h1,h2⟩ | ⟨v,hv,rfl,h1,_,h2⟩
 ·exact (TJ w1 hl h1 h2).1
 ·exact (yL w1 hl hv h1 h2).1
end
def lvl(F:Nat)(best:Ae->Nat):Nat->Ab
 | 0=>[List.replicate F 0]
 | k+1=>(cta F (k+1)).filter λd=>(lvl F best k).any λc=>best c == 0&&(List.range F).any λj=>d == bQ c j
section
variable{F W M:Nat}{best:Ae->Nat}
def lT(hF:1<=F):∀k,(lvl F best k).Sublist (cta F k)
 | 0=>by unfold lvl;rw [yG F hF];exact List.Sublist.refl _
 | k+1=>by unfold lvl;exact List.filter_sublist
def nO(hF:1<=F){k:Nat}{d:Ae}:d∈lvl F best (k+1) ↔ ∃c∈lvl F best k,best c=0/\∃j,j<F/\d=bQ c j:=by
 have h0:d∈lvl F best (k+1)↔d∈cta F (k+1)/\∃c∈lvl F best k,best c=0/\∃j,j<F/\d=bQ c j:=by
  show d∈List.filter _ _↔_;rw [cR];simp
 rw [h0];refine ⟨λh=>h.2,λh=>⟨?_,h⟩⟩;obtain ⟨c,hc,_,j,hj,e⟩:=h;exact (tY hF).mpr ⟨c,(lT hF k).subset hc,j,hj,e⟩
def rE(W b:Nat):Ak:=(List.range (1+W)).map λk=>if k=b then (1,1) else (0,1)
def plE(W:Nat)(best:Ae->Nat)(c:Ae):fV:=(c,rE W (best c))
def fA(F M:Nat)(best:Ae->Nat):Ab:=(List.range (M+1)).flatMap (lvl F best)
def rul(F W M:Nat)(best:Ae->Nat):List fV:=(fA F M best).map (plE W best)
theorem yF{α:Type}{f g:Nat->List α}(h:∀k,(f k).Sublist (g k)):∀l:Ae,(l.flatMap f).Sublist (l.flatMap g)
 | []=>List.Sublist.refl _
 | a::l=>by rw [List.flatMap_cons,List.flatMap_cons];exact (h a).append (yF h l)
def iE(hF:1<=F):(fA F M best).Sublist (rise F M):=yF (lT hF) _
def BY:(rul F W M best).map (·.1)=fA F M best:=by unfold rul;rw [List.map_map];exact List.map_id _
def CD{b k:Nat}(h:k<1+W):dG (rE W b) k=if k=b then 1 else 0:=by
 unfold dG rE;rw [bH,aL,cN h];show rv (if k=b then (1,1) else (0,1))=_;split
 ·exact sD
 ·exact nM
def uZ(c:Ae):s0 (plE W best c)=if best c=0 then 1 else 0:=by
 unfold s0 plE;rw [CD Oo];by_cases h:best c=0
 ·rw [if_pos h.symm,if_pos h]
 ·rw [if_neg (λz=>h z.symm),if_neg h]
def wQ{c:Ae}:c∈fA F M best ↔ ∃k,k<=M/\c∈lvl F best k:=by
 unfold fA;rw [List.mem_flatMap];constructor
 ·rintro ⟨k,hk,h⟩;exact ⟨k,by have:=bU.mp hk;omega,h⟩
 ·rintro ⟨k,hk,h⟩;exact ⟨k,bU.mpr Oo,h⟩
def EV(hF:1<=F)(on:∀c,best c=0->c.sum<M){c:Ae}(hc:c∈fA F M best)(h:best c=0){j:Nat}(hj:j<F):bQ c j∈fA F M best:=by
 obtain ⟨k,hk,h1⟩:=wQ.mp hc;have h2:=(gY ((lT hF k).subset h1)).2;have h3:=on c h;exact wQ.mpr ⟨k+1,Oo,(nO hF).mpr ⟨c,h1,h,j,hj,rfl⟩⟩
def xM(hF:1<=F){d:Ae}(hd:d∈fA F M best)(h:d≠List.replicate F 0):∃c∈fA F M best,best c=0/\∃j,j<F/\bQ c j=d:=by
 obtain ⟨k,hk,h1⟩:=wQ.mp hd;cases k with
 | zero=>exact absurd (bJ.mp h1) h
 | succ k =>
  obtain ⟨c,hc,hb,j,hj,e⟩:=(nO hF).mp h1;exact ⟨c,wQ.mpr ⟨k,Oo,hc⟩,hb,j,hj,e.symm⟩
def xL:∃r,fA F M best=List.replicate F 0::r:=by
 unfold fA;rw [List.range_succ_eq_map,List.flatMap_cons];exact ⟨_,rfl⟩
def lQ(hF:1<=F){c:Ae}(h:c∈fA F M best):c.length=F/\c.sum<=M:=(gP hF).mp ((iE hF).subset h)
def QF(hF:1<=F)(f4:F<=4)(m5:M<=5)(on:∀c,best c=0->c.sum<M):zH F (rul F W M best) where
 root:=by
  obtain ⟨r,hr⟩:=xL (F:=F) (M:=M) (best:=best);exact ⟨_,_,by unfold rul;rw [hr,bI],rfl⟩
 len:=λe he=>by
  obtain ⟨c,hc,rfl⟩:=aX.mp he;exact (lQ hF hc).1
 nd:=by rw [BY];exact (wO F f4 M m5).sublist (iE hF)
 srt:=by
  unfold rul;rw [List.pairwise_map];exact (qJ F M).sublist (iE hF)
 fwd:=λe he h0 f hf=>by
  obtain ⟨c,hc,rfl⟩:=aX.mp he;rw [BY];refine EV hF on hc ?_ hf;refine bM λq=>h0 ?_;rw [uZ,if_neg q]
 bwd:=λd hd hn=>by
  rw [BY] at hd;obtain ⟨c,hc,hb,j,hj,e⟩:=xM hF hd hn;exact ⟨plE W best c,aX.mpr ⟨c,hc,rfl⟩,by rw [uZ,if_pos hb];exact (by decide:(1:Rat)≠0),j,hj,e⟩
 nn:=λe he=>by
  obtain ⟨c,hc,rfl⟩:=aX.mp he;rw [uZ];split <;> grind
def UU:∀(W b:Nat),b<=W->oW ((rE W b).map rv)=1:=by
 intro W b hb;have h1:(rE W b).map rv=(List.range (1+W)).map λk=>if k=b then (1:Rat) else 0:=by
  unfold rE;rw [List.map_map];refine eI λk _=>?_;show rv (if k=b then (1,1) else (0,1))=_;split
  ·exact sD
  ·exact nM
 rw [h1];show cM (1+W) (λk=>if k=b then (1:Rat) else 0)=1;have:=EI (n:=1+W) (v:=b) (f:=λk=>if k=b then (1:Rat) else 0) Oo λi _ hn=>if_neg hn;rw [this,if_pos rfl]
def QG{ss:Aj}{mix ps cs:Ak}(hF:1<=F)(hb:∀c∈rise F M,Bst F W M ss mix ps cs c (best c)):∀e∈rul F W M best,UB F W (dM ss) (dG mix) (dG ps) (dG cs) (wor F W M ss mix ps cs) e:=by
 intro e he;obtain ⟨c,hc,rfl⟩:=aX.mp he;have hcr:=(iE hF).subset hc;rcases hb c hcr with ⟨h0,h1,h2⟩ | ⟨v,hv,h0,h2⟩
 ·refine .inl ⟨by rw [uZ,if_pos h0],λv hv=>?_,?_⟩
  ·show dG (rE W (best c)) (1+v)=0;rw [CD Oo,if_neg Oo]
  ·show wor F W M ss mix ps cs c=_;rw [h2];rfl
 ·refine .inr ⟨v,hv,by rw [uZ,if_neg Oo],?_,λu hu hn=>?_,?_⟩
  ·show dG (rE W (best c)) (1+v)=1;rw [CD Oo,if_pos h0.symm]
  ·show dG (rE W (best c)) (1+u)=0;rw [CD Oo,if_neg Oo]
  ·show wor F W M ss mix ps cs c=_;rw [h2];rfl
end
abbrev VD:Stmt:=(top 32)
def aEw:bZ ["weighing","counts"] ["weighing","counts"] (aY VD):=⟨rfl,rfl,rfl,Kk,rfl,Kk,Kk⟩
abbrev MJ:Stmt:=(top 33)
def IM:bZ ["weighing","factors","cost_factor","best_at","worth_of","counts","dues","sums","onward"] ["weighing","factors","cost_factor"] (aY MJ):=⟨rfl,rfl,rfl,Kk,rfl,Kk,Kk⟩
def yB{N B U:Nat}{q:Rat}{n:Int}(h:Qn N B q)(hN:0<N)(e:(n:Rat)=q*(U:Rat)):n.natAbs<=B*U:=by
 obtain ⟨z,h1,h2⟩:=h;have h3:n*(N:Int)=z*(U:Int):=by
  have:((n*(N:Int):Int):Rat)=((z*(U:Int):Int):Rat):=by
   rw [Rat.intCast_mul,Rat.intCast_mul,e,<-h1];show q*(U:Rat)*(N:Rat)=q*(N:Rat)*(U:Rat);grind
  exact_mod_cast this
 have h4:=congrArg Int.natAbs h3;rw [fF,fF,Int.natAbs_natCast,Int.natAbs_natCast] at h4;have h5:n.natAbs*N<=(B*U)*N:=by
  rw [h4,show B*U*N=B*N*U by ac_rfl];exact bS _ h2
 exact Nat.le_of_mul_le_mul_right h5 hN
def dgI{H:Hp}{p b:Addr}{kvs:List (List fE × V)}{cc:Ae}(e:H p=some (.dT kvs))(hb:H b=some (.tup (cc.map AO))):oS H p (.ref b) (fQ kvs (kT (ci cc))):=.inr ⟨kvs,kT (ci cc),b,.inl e,rfl,by rw [CN,eJ];exact hb,rfl⟩
@[irreducible] def xF(C:Addr):Sp:=λvs H Q _=>∃(x:Addr) (cv:V) (cc:Ae) (F W M:Nat) (ss:Aj) (mix cs:Ak) (us:Ae) (cu:Nat),vs=[.ref x,cv]/\yP H x C F W M ss mix cs us cu/\cE H (kJ cc) cv/\cc∈rise F M/\W<=64 /\
 ∀D (ns:Af) H',aU H H'->H D=none->H' D=some (.lst (ns.map V.int))->ns.length=W->(∀(i:Nat) (n:Int) (u:Nat),ns[i]?=some n->us[i]?=some u->(n:Rat)=dM ss i cc*(u:Rat))->Q (.ref D) H'
def PP{C:Addr}{H:Hp}{Q:VK}{E:XK}{x:Addr}{cv:V}{cc:Ae}{F W M:Nat}{ss:Aj}{mix cs:Ak}{us:Ae}{cu:Nat}(h1:yP H x C F W M ss mix cs us cu)(h2:cE H (kJ cc) cv)(h3:cc∈rise F M)(h4:W<=64)
  (k:∀D (ns:Af) H',aU H H'->H D=none->H' D=some (.lst (ns.map V.int))->ns.length=W->(∀(i:Nat) (n:Int) (u:Nat),ns[i]?=some n->us[i]?=some u->(n:Rat)=dM ss i cc*(u:Rat))->Q (.ref D) H'):xF C [.ref x,cv] H Q E:=by
 unfold xF;exact ⟨x,cv,cc,F,W,M,ss,mix,cs,us,cu,rfl,h1,h2,h3,h4,k⟩
section
def aDF(F:jP K "weights_at" "weights_at" VD f fd)(T:kX K mg c):eC P w K mg base dR 1 f fd ["weighing","counts"] (xF c.Weighing):=by
 refine F.oky aEw λvs H Q E h=>?_;unfold xF at h;obtain ⟨x,cv,cc,F,W,M,ss,mix,cs,us,cu,rfl,wg,rc,hcm,w64,k⟩:=h;refine ⟨rfl,λcdv A outer s hr=>?_⟩;obtain ⟨ul,dx,fl,ra,ua,wa,ca,tas,kvs,a0,a1,a2,a3,a4,a5,a6,a7,a8,a9,a10,a11⟩:=wg;obtain ⟨ac,rfl,hac⟩:=gK rc;have O:=T.w_Weighing;have tl:=a9.1;refine ⟨_,(bD (cH (gI (dP.of (psc:=aY VD) (N:=["weighing","counts"]) (N':=["table","counts"]) (js:=[1]) Kk rfl rfl rfl) (eZ (gW K (aD 0))) (λ_ _ _ _=>dW) (λ_ _ _ _=>(gH hr.u1 (aD 0) (aD 1)))))),?_⟩;refine ⟨_,rfl,rP O (by simp) a0 a3 ?_⟩;refine ⟨wa,rfl,⟨_,fI.of a8⟩,hV (λi y H'=>∃n,y=.int n/\∀u,us[i]?=some u->(n:Rat)=dM ss i cc*(u:Rat)) (λ_ _ _ _ _ h=>h) (by rw [aA];exact Oo) a8 (λi y H' Q' hy s' k'=>?_) (λD ys H1 hD e1 s1 hy hr1=>?_)⟩
 ·rw [aL] at hy;obtain ⟨ta,hta,rfl⟩:=cU.mp hy;have li:=(aF.mp hta).1;obtain ⟨u,hu⟩:∃u,us[i]?=some u:=⟨_,aB Oo⟩;obtain ⟨kv,g1,g2⟩:=a9.2 i ta u hta hu;obtain ⟨n,h1,h2⟩:=g2.yes cc hcm;refine ⟨_,rfl,_,rfl,NH (s' _ _ g1) (c:=ci cc) (by rw [eJ];exact s' _ _ hac) h1 ?_⟩;exact k' _ H' (aU.refl _) ⟨n,rfl,λu' hu'=>by rw [hu] at hu';cases hu';exact h2⟩
 ·obtain ⟨ns,rfl,hn⟩:=pE (P:=λi n=>∀u,us[i]?=some u->(n:Rat)=dM ss i cc*(u:Rat)) hr1;rw [aA,aA] at hy;exact k D ns H1 s1 hD e1 Oo λi n u h1 h2=>hn i n h1 u h2
end
structure DP(kvs:List (List fE × V))(S:Ab)(R:Ae->V->Prop):Prop where
 yes:∀c∈S,∃v,fQ kvs (kT (ci c))=some v/\R c v
 len:kvs.length<=2*S.length
def DP.put{kvs:List (List fE × V)}{S:Ab}{R:Ae->V->Prop}(h:DP kvs S R){c:Ae}{v:V}(r:R c v):DP (iX kvs (kT (ci c)) v) (c::S) R:=by
 refine ⟨λd hd=>?_,by have:=h.len;have:=fD kvs (kT (ci c)) v;rw [bT];omega⟩;rw [iG];by_cases e:d=c
 ·subst e;rw [if_pos rfl];exact ⟨v,rfl,r⟩
 ·rw [if_neg λq=>e (kU (nB q))];exact h.yes d ((aZ.mp hd).resolve_left e)
def DP.put2{kvs:List (List fE × V)}{S:Ab}{R:Ae->V->Prop}(h:DP kvs S R){c:Ae}{u v:V}(r:R c v):DP (iX (iX kvs (kT (ci c)) u) (kT (ci c)) v) (c::S) R:=by
 refine ⟨λd hd=>?_,by have:=h.len;have:=fD kvs (kT (ci c)) u;have:=fD (iX kvs (kT (ci c)) u) (kT (ci c)) v;rw [bT];omega⟩;rw [iG];by_cases e:d=c
 ·subst e;rw [if_pos rfl];exact ⟨v,rfl,r⟩
 ·rw [if_neg λq=>e (kU (nB q)),iG,if_neg λq=>e (kU (nB q))];exact h.yes d ((aZ.mp hd).resolve_left e)
structure aB1(W:Nat)(ps:Ak)(us:Ae)(cu:Nat)(fns:Af)(cf:Int)(U:Nat):Prop where
 u0:0<U
 fl:fns.length=W
 ul:us.length=W
 fac:∀(i:Nat) (f:Int) (u:Nat),fns[i]?=some f->us[i]?=some u->(f:Rat)*(u:Rat)=(U:Rat)*dG ps i/\f.natAbs<2^4000
 cfu:(cf:Rat)*(cu:Rat)=(U:Rat)
 cz:cf.natAbs<2^4000
 uz:∀u∈us,u<2^3000
 cuz:cu<2^3000
def YV(kvs:List (List fE × V))(rs:Ab)(best:Ae->Nat):Prop:=(∀c∈rs,fQ kvs (kT (ci c))=some (.int (best c:Nat)))/\kvs.length<=1000
@[irreducible] def qF(C:Addr):Sp:=λvs H Q _=>∃(x fa:Addr) (cf:Int) (fns:Af) (F W M Ns Nm Np Nc B U:Nat) (ss:Aj) (mix ps cs:Ak) (us:Ae) (cu:Nat),vs=[.ref x,.ref fa,.int cf]/\yP H x C F W M ss mix cs us cu/\H fa=some (.lst (fns.map V.int))/\iU F W M ss mix ps cs Ns Nm Np Nc B/\aB1 W ps us cu fns cf U/\(rise F M).length<=400 /\
 ∀a bp z kvs best H',aU H H'->H' a=some (.tup [.ref bp,z])->H' bp=some (.dT kvs)->YV kvs (rise F M) best->(∀c∈rise F M,GT F W M ss mix ps cs c (best c))->Q (.ref a) H'
def HL{C:Addr}{H:Hp}{Q:VK}{E:XK}{x fa:Addr}{cf:Int}{fns:Af}{F W M Ns Nm Np Nc B U:Nat}{ss:Aj}{mix ps cs:Ak}{us:Ae}{cu:Nat}(h1:yP H x C F W M ss mix cs us cu)(h2:H fa=some (.lst (fns.map V.int)))(h3:iU F W M ss mix ps cs Ns Nm Np Nc B)(h4:aB1 W ps us cu fns cf U)(h5:(rise F M).length<=400)
  (k:∀a bp z kvs best H',aU H H'->H' a=some (.tup [.ref bp,z])->H' bp=some (.dT kvs)->YV kvs (rise F M) best->(∀c∈rise F M,GT F W M ss mix ps cs c (best c))->Q (.ref a) H'):qF C [.ref x,.ref fa,.int cf] H Q E:=by
 unfold qF;exact ⟨x,fa,cf,fns,F,W,M,Ns,Nm,Np,Nc,B,U,ss,mix,ps,cs,us,cu,rfl,h1,h2,h3,h4,h5,k⟩
theorem EH:∀ns:Af,((ns.sum:Int):Rat)=oW (ns.map λ(n:Int)=>(n:Rat))
 | []=>rfl
 | a::ns=>by rw [List.sum_cons,Rat.intCast_add,EH ns];rfl
def EG{n:Nat}{ns:Af}{d:Nat->Rat}(hl:ns.length=n)(h:∀(i:Nat) (m:Int),ns[i]?=some m->(m:Rat)=d i):((ns.sum:Int):Rat)=cM n d:=by
 rw [EH];unfold cM;congr 1;refine List.ext_getElem? λi=>?_;rw [aL,aL];by_cases q:i<n
 ·obtain ⟨m,hm⟩:∃m,ns[i]?=some m:=⟨_,aB Oo⟩;rw [hm,cN q];show some (m:Rat)=some (d i);rw [h i m hm]
 ·rw [eK Oo,eK (by rw [bA];exact Oo)];rfl
def QR{n:Nat}(h:n<2^3000){b:Nat}(hb:b<=2^100):b*n<2^4000:=by
 have h1:b*n<=2^100*n:=bS _ hb;have h2:2^100*n<2^100*2^3000:=Nat.mul_lt_mul_of_pos_left h (Nat.two_pow_pos _);rw [<-Nat.pow_add] at h2;exact bC h1 (aN h2 (aP Dd Dd))
section
def aD4(F:jP K "best_places" "best_places" MJ f fd)(T:kX K mg c)(FQ52:gR dR P w K mg base 1 "weights_at" ["weighing","counts"] (xF c.Weighing))(FQ41:gR dR P w K mg base 2 "ones_more" ["counts"] iW):eC P w K mg base dR 3 f fd ["weighing","factors","cost_factor"] (qF c.Weighing):=by
 refine F.oky IM λvs H Q E h=>?_;unfold qF at h;obtain ⟨x,fa,cf,fns,F,W,M,Ns,Nm,Np,Nc,B,U,ss,mix,ps,cs,us,cu,rfl,wg,hfa,I,G,r4,k⟩:=h;refine ⟨rfl,λcdv A outer s hr=>?_⟩;have f1:=I.f1;have f4:=I.f4;have w1:=I.w1;have w4:=I.w4;have hB:=I.b;have O:=T.w_Weighing;have UR:(0:Rat)<(U:Rat):=by exact_mod_cast G.u0
 have nsp:0<Ns^M:=Nat.pos_of_ne_zero λz=>by have:=I.pos;rw [z,Nat.mul_zero] at this;exact bL _ this
 refine ⟨_,(aH (bN (i:=3) IM.nd rfl (Or.inl rfl) mJ)
  (aH (bN (i:=4) IM.nd rfl (Or.inr rfl) mJ)
  (aH (eY PassesOwn.never rfl (OM rfl T.b_reversed (aJ (gW K (aD 0)) aE)) (cX (i:=5) IM.nd rfl (Or.inl rfl)) (aH (bN (i:=6) IM.nd rfl (Or.inr rfl) (LT (gS.of (psc:=aY MJ) (N:=["weighing","factors","cost_factor","best_at","worth_of","counts","dues","sums","onward"]) (xs:=["factor","one"]) (N':=["factor","one"]) (js:=[]) Kk rfl rfl rfl) (BE false false rfl T.b_zip (aJ (aD 1) (aJ (bV FQ52 (hr.mono Dd) (aJ (aD 0) (aJ (aD 5) aE))) aE))) (λ_ _ _ _=>dW) (λ_ _ _ _=>(bX dU (aD 0) (aD 1)))))
  (aH (iB (i:=7) (dP.of (psc:=aY MJ) (N:=["weighing","factors","cost_factor","best_at","worth_of","counts","dues","sums","onward"]) (N':=["due","dues"]) (js:=[6]) Kk rfl rfl rfl) IM.nd rfl rfl (eZ (aD 6)) (λ_ _ _ _=>dW) (λ_ _ _ _=>(bX vA (dX (XW K rfl) (by rfl) T.b_sum Kk (aJ (aD 1) aE)) (aD 0))))
  (aH (iL hr.u1 (aD 3) (aD 5) (bX eB aK (nJ PySem.F.plainAttrs_list PySem.F.slot_list_index PySem.F.type_list_index XC (aD 7) (aJ (dX (LC K rfl) (by rfl) T.b_min Kk (aJ (aD 7) aE)) aE))))
  (aH (iL hr.u1 (aD 4) (aD 5) (dX (LC K rfl) (by rfl) T.b_min Kk (aJ (aD 7) aE)))
  (bD (jF (eO (RF hr.u1) (aD 5) (gW K (aD 0)) (by with_unfolding_all rfl)) (aH (bN (i:=8) IM.nd rfl (Or.inl rfl) (bX eB (bX dU (aD 2) (gH hr.u1 (gW K (aD 0)) (aD 5))) (dX (SS rfl) (by rfl) T.b_sum Kk (aJ (gI (dP.of (psc:=aY MJ) (N:=["weighing","factors","cost_factor","best_at","worth_of","counts","dues","sums","onward"]) (N':=["more","worth_of"]) (js:=[4]) Kk rfl rfl rfl) (eZ (bV FQ41 (hr.mono Dd) (aJ (aD 5) aE))) (λ_ _ _ _=>dW) (λ_ _ _ _=>(gH hr.u1 (aD 1) (aD 0)))) aE))))
  (bD (jF (eO xR (aD 8) (gH hr.u1 (aD 4) (aD 5)) (nomark _)) (aH (iL hr.u1 (aD 3) (aD 5) (sR (v:=.int 0) rfl T.g_LOOKS_ON ⟨_,rfl⟩))
  (bD (iL hr.u1 (aD 4) (aD 5) (aD 8)))) fK))) fK)))))))
  (bD (cH (dI (aJ (aD 3) (aJ (gH hr.u1 (aD 4) (bP bK (gW K (aD 0)) aK (λ_ _=>rfl))) aE)))))))),?_⟩
 intro bp hbp;have s1:=aU.upd (o:=.dT []) hbp;have e1:(upd H bp (.dT [])) bp=some (.dT []):=bO;generalize upd H bp (.dT [])=H1 at s1 e1 ⊢;intro wp hwp;have s2:=aU.upd (o:=.dT []) hwp;have e2:(upd H1 wp (.dT [])) wp=some (.dT []):=bO;generalize upd H1 wp (.dT [])=H2 at s2 e2 ⊢;have nwb:wp≠bp:=λz=>by rw [z,e1] at hwp;cases hwp
 have hwp0:H wp=none:=s1.free hwp;have s02:=s1.trans s2;obtain ⟨ul,dx,fl,ra,ua,wa,ca,tas,ckv,a0,a1,a2,a3,a4,a5,⟨vs,a6,a6r⟩,a7,a8,a9,a10,a11⟩:=id wg;have lvs:vs.length=(rise F M).length:=by rw [a6r.len,aA]
 refine ⟨_,rfl,rP O (by simp) (s02 _ _ a0) a1 ?_⟩;refine ⟨ra,vs,rfl,fI.of (s02 _ _ a6),?_⟩;refine KM (xs:=vs) (λi σ H'=>∃(o5 o6 o7 o8:Am) (kb kw:List (List fE × V)),σ=[some (.ref x),some (.ref fa),some (.int cf),some (.ref bp),some (.ref wp),o5,o6,o7,o8]/\aU H H'/\H' bp=some (.dT kb)/\H' wp=some (.dT kw) /\
   DP kb ((rise F M).drop (vs.length-i)) (λc v=>∃b:Nat,v=.int (b:Int)/\GT F W M ss mix ps cs c b)/\DP kw ((rise F M).drop (vs.length-i)) (λc v=>∃n:Int,v=.int n/\(n:Rat)=(U:Rat)*wor F W M ss mix ps cs c))
  ⟨_,_,_,_,[],[],rfl,s02,s2 _ _ e1,e2,⟨(λc hc=>by rw [Nat.sub_zero,lvs,List.drop_length] at hc;cases hc),cG _⟩,⟨(λc hc=>by rw [Nat.sub_zero,lvs,List.drop_length] at hc;cases hc),cG _⟩⟩ (λi σ H' _ q=>?_) ?_ ?_
 ·obtain ⟨_,_,_,_,_,_,_,S',_⟩:=q;exact fI.of (S' _ _ a6)
 ·rintro i y σ H3 hi hy ⟨o5,o6,o7,o8,kb,kw,rfl,S3,e3b,e3w,Db,Dw⟩;obtain ⟨cc,hc,rc0⟩:=fC a6r hy;have hcr:=aG hc;have hcm:=(gP f1).mp hcr;have lkb:=Db.len;have lkw:=Dw.len;rw [List.length_drop] at lkb lkw;refine ⟨_,rfl,_,rfl,_,rfl,?_⟩;refine PP (wg.same S3) (rc0.same S3) hcr Oo λD1 ns H4 s4 hD1 e4 ln hns=>⟨fa,D1,_,_,rfl,s4 _ _ (S3 _ _ hfa),e4,?_⟩;refine AN (λj z _=>∃n,z=.int n/\(n:Rat)=(U:Rat)*fR ss ps cc j) (λ_ _ _ _ _ h=>h) (by rw [aA,G.fl];exact Oo) (s4 _ _ (S3 _ _ hfa)) e4 (by rw [aA,aA,G.fl,ln]) (λj u v H' Q' hu hv s' k'=>?_) (λD2 zs H5 hD2 e5 s5 hz5 hr5=>?_)
  ·rw [aL] at hu hv;obtain ⟨fj,hfj,rfl⟩:=cU.mp hu;obtain ⟨nj,hnj,rfl⟩:=cU.mp hv;have lj:=(aF.mp hfj).1;have hjW:j<W:=by rw [<-G.fl];exact lj
   obtain ⟨uj,huj⟩:∃u,us[j]?=some u:=⟨_,aB (by rw [G.ul];exact hjW)⟩;obtain ⟨g1,g2⟩:=G.fac j fj uj hfj huj;have g3:=hns j nj uj hnj huj;have g4:=yB (I.qn hjW hcm.2) nsp g3;refine ⟨_,rfl,_,rfl,_,_,rfl,rfl,nT g2 (bC g4 (QR (G.uz uj (aG huj)) Dd)),k' _ H' (aU.refl _) ⟨_,rfl,?_⟩⟩;rw [Rat.intCast_mul,g3];show (fj:Rat)*(dM ss j cc*(uj:Rat))=(U:Rat)*(dG ps j*dM ss j cc);grind
  obtain ⟨ds,rfl,hds⟩:=pE (P:=λj n=>(n:Rat)=(U:Rat)*fR ss ps cc j) hr5;have ld:ds.length=W:=by rw [aA,aA,G.fl] at hz5;exact hz5
  have sd:=EG ld hds;rw [kE] at sd;refine ⟨_,rfl,D2,rfl,⟨_,fI.of e5⟩,hV (λj z _=>∃n,z=.int n/\(n:Rat)=(U:Rat)*(cM W (fR ss ps cc)-fR ss ps cc j)) (λ_ _ _ _ _ h=>h) (by rw [aA];exact Oo) e5 (λj v H' Q' hv s' k'=>?_) (λD3 zs H6 hD3 e6 s6 hz6 hr6=>?_)⟩
  ·rw [aL] at hv;obtain ⟨dj,hdj,rfl⟩:=cU.mp hv;refine ⟨_,rfl,rsI (fI.of (s' _ _ e5)) ?_⟩;refine ⟨_,rfl,_,_,rfl,rfl,k' _ H' (aU.refl _) ⟨_,rfl,?_⟩⟩;rw [Rat.intCast_sub,sd,hds j dj hdj];grind
  obtain ⟨zs,rfl,hzs⟩:=pE (P:=λj n=>(n:Rat)=(U:Rat)*(cM W (fR ss ps cc)-fR ss ps cc j)) hr6;have lz:zs.length=W:=by rw [aA,aA] at hz6;exact Oo
  have S6:aU H H6:=((S3.trans s4).trans s5).trans s6;have e6b:=s6 _ _ (s5 _ _ (s4 _ _ e3b));have e6w:=s6 _ _ (s5 _ _ (s4 _ _ e3w));obtain ⟨ac,rfl,hac⟩:=gK rc0;refine ⟨_,rfl,LW e6,_,rfl,?_⟩;refine rmnl (fI.of e6) Oo λm hm hle=>?_;obtain ⟨j,hj1,hj2⟩:=SA hm;refine aEr e6 hj1 hj2 Oo ⟨_,_,rfl,rfl,_,rfl,_,rfl,?_⟩;have em:=RJ UR lz hzs hm hle;have ej:cM W (fR ss ps cc)-fR ss ps cc j=iY (jM W (fR ss ps cc)):=HQ UR (by rw [<-hzs j m hj1,em]);have ljW:j<W:=by rw [<-lz];exact (aF.mp hj1).1
  have ejf:∀u,u<j->iY (jM W (fR ss ps cc))<cM W (fR ss ps cc)-fR ss ps cc u:=λu hu=>by
   obtain ⟨n,hn⟩:∃n,zs[u]?=some n:=⟨_,aB Oo⟩;have h1:=hle n (aG hn);have h2:m<n:=by
    have:n≠m:=λz=>hj2 u hu (by rw [hn,z]);exact Oo
   rw [<-QM UR,<-em,<-hzs u n hn]
   exact_mod_cast h2
  refine SG e6b (c:=ci cc) (by rw [eJ];exact S6 _ _ hac) Oo λH7 e7b b7=>?_;have nbD:D3≠bp:=λz=>by rw [z] at hD3;rw [s5 _ _ (s4 _ _ e3b)] at hD3;cases hD3
  have nwD:D3≠wp:=λz=>by rw [z] at hD3;rw [s5 _ _ (s4 _ _ e3w)] at hD3;cases hD3
  have e7:=b7.at nbD e6;have e7w:=b7.at nwb e6w;have S7:aU H H7:=aU.thru hbp S6 b7;refine ⟨_,rfl,?_⟩;refine rmnl (fI.of e7) Oo λm' hm' hle'=>?_;have emm:m'=m:=Int.le_antisymm (hle' m hm) (hle m' hm');subst emm;refine ⟨_,rfl,_,rfl,?_⟩;refine SG e7w (c:=ci cc) (by rw [eJ];exact S7 _ _ hac) Oo λH8 e8w b8=>?_;have e8b:=b8.at (Ne.symm nwb) e7b;have S8:aU H H8:=aU.thru hwp0 S7 b8;have hac8:=S8 _ _ hac;have hdrop:(rise F M).drop (vs.length-(i+1))=cc::(rise F M).drop (vs.length-i):=by
   have hk:(rise F M)[vs.length-1-i]?=some cc:=hc;obtain ⟨l1,l2⟩:=aF.mp hk;have:vs.length-(i+1)=vs.length-1-i:=Oo;rw [this,List.drop_eq_getElem_cons l1,l2,show vs.length-1-i+1=vs.length-i by omega]
  refine ⟨_,rfl,_,rfl,rP O (by simp) (S8 _ _ a0) a5 ?_⟩;refine rind (dgI (cc:=cc) (S8 _ _ a10) hac8) ⟨_,rfl,?_⟩;by_cases hlt:cc.sum<M
  ·have hah:cc∈ahd F M:=cR.mpr ⟨hcr,cL hlt⟩;obtain ⟨m2,hm2,em2⟩:=a11.yes cc hah;rw [hm2];refine FS rfl ⟨_,rfl,_,rfl,rP O (by simp) (S8 _ _ a0) a5 ?_⟩;refine ⟨_,rfl,NH (S8 _ _ a10) (c:=ci cc) (by rw [eJ];exact hac8) hm2 ?_⟩;have m2z:=yB (show Qn _ (B*4) (GS W ss mix cs cc) by have:=(LG I hlt).q;rwa [eW] at this) I.pos em2;refine ⟨_,_,rfl,rfl,nT G.cz (bC m2z (QR G.cuz (aM (show B*4<=4000000 by omega) (aM (show 4000000<=2^22 by decide) (aP Dd Dd))))),⟨_,rfl,?_⟩⟩;refine pW (nU hac8) Oo λD4 ms H9 hD4 e9 r9 s9=>⟨D4,rfl,⟨_,fI.of e9⟩,?_⟩;have lms:ms.length=cc.length:=by rw [r9.len,aA,aA,bA]
   refine hV (λq z _=>∃n,z=.int n/\(n:Rat)=(U:Rat)*wor F W M ss mix ps cs (bQ cc q)) (λ_ _ _ _ _ h=>h) Oo e9 (λq v H' Q' hv s' k'=>?_) (λD5 ws H10 hD5 e10 s10 hz10 hr10=>?_)
   ·obtain ⟨c2,hc2,rc2⟩:=fC (g:=λc=>kJ c) r9 hv;have hq:q<cc.length:=by have:=(aF.mp hv).1;exact Oo
    rw [aL,cN hq] at hc2;cases hc2;obtain ⟨a2,rfl,ha2⟩:=gK (rc2.same s');have bs:=hZ (c:=cc) (j:=q) hq;have hin:bQ cc q∈rise F M:=(gP f1).mpr ⟨by rw [qR];exact hcm.1,Oo⟩;have hbe:=vV hc hin Oo;rw [show vs.length-1-i+1=vs.length-i by omega] at hbe;obtain ⟨v2,hv2,n2,rfl,en2⟩:=Dw.yes _ hbe;refine ⟨_,rfl,_,rfl,NH (s' _ _ (s9 _ _ e8w)) (c:=ci (bQ cc q)) (by rw [eJ];exact ha2) (v:=.int n2) ?_ ?_⟩
    ·rw [iG,if_neg λz=>?_]
     ·exact hv2
     ·have:=kU (nB z);rw [this] at bs;exact Oo
    ·exact k' _ H' (aU.refl _) ⟨n2,rfl,en2⟩
   obtain ⟨ws,rfl,hws⟩:=pE (P:=λq n=>(n:Rat)=(U:Rat)*wor F W M ss mix ps cs (bQ cc q)) hr10;have lws:ws.length=F:=by rw [aA] at hz10;exact Oo
   refine rsI (fI.of e10) ?_;have sw:=EG lws hws;rw [kE] at sw;refine ⟨_,_,rfl,rfl,?_⟩;have eon:((cf*m2+ws.sum:Int):Rat)=(U:Rat)*GR F W M ss mix ps cs cc:=by
    rw [Rat.intCast_add,Rat.intCast_mul,sw,em2];have:=G.cfu;unfold GR;grind
   have S10:=(S8.trans s9).trans s10;have e10w:=s10 _ _ (s9 _ _ e8w);have e10b:=s10 _ _ (s9 _ _ e8b);have hac10:=S10 _ _ hac;refine ⟨_,rfl,_,rfl,_,rfl,NH e10w (c:=ci cc) (by rw [eJ];exact hac10) (v:=.int m') (by rw [iG,if_pos rfl]) ?_⟩;refine ⟨_,_,rfl,rfl,_,rfl,?_⟩;have key:(cf*m2+ws.sum<m')↔GR F W M ss mix ps cs cc<iY (jM W (fR ss ps cc)):=by
    rw [<-QM UR,<-eon,<-em];exact ⟨λh=>by exact_mod_cast h,λh=>by exact_mod_cast h⟩
   refine sI (λhl=>?_) (λhl=>?_)
   ·have B2:=(TJ w1 hcm.1 hlt (key.mp hl)).2;have B1:GT F W M ss mix ps cs cc 0:=.inl ⟨rfl,hlt,key.mp hl⟩;refine ⟨_,rfl,_,rfl,?_⟩;have l1:=fD kb (kT (ci cc)) (.int (1+(j:Int)));have l2:=fD kw (kT (ci cc)) (.int m');refine SG e10b (c:=ci cc) (by rw [eJ];exact hac10) (aM l1 Oo) λH11 e11b b11=>?_;have S11:aU H H11:=aU.thru hbp S10 b11;refine ⟨_,rfl,_,rfl,_,rfl,?_⟩;refine SG (b11.at nwb e10w) (c:=ci cc) (by rw [eJ];exact S11 _ _ hac) (aM l2 Oo) λH12 e12w b12=>⟨_,_,_,_,_,_,rfl,aU.thru hwp0 S11 b12,b12.at (Ne.symm nwb) e11b,e12w,?_,?_⟩
    ·rw [hdrop];exact Db.put2 ⟨0,rfl,B1⟩
    ·rw [hdrop];exact Dw.put2 ⟨_,rfl,by rw [B2];exact eon⟩
   ·have B2:=(yL (mix:=mix) (cs:=cs) (M:=M) w1 hcm.1 ljW ej λ_ h=>hl (key.mpr h)).2;have B1:GT F W M ss mix ps cs cc (1+j):=.inr ⟨j,ljW,rfl,ej,ejf,λ_ h=>hl (key.mpr h)⟩;refine ⟨_,_,_,_,_,_,rfl,S10,e10b,e10w,?_,?_⟩
    ·rw [hdrop];exact Db.put ⟨1+j,by push_cast;rfl,B1⟩
    ·rw [hdrop];exact Dw.put ⟨_,rfl,by rw [B2];exact em⟩
  ·have hno:cc ∉ ahd F M:=λz=>hlt (of_decide_eq_true (cR.mp z).2);rw [a11.no cc hno];refine pO rfl ?_;have B2:=(yL (mix:=mix) (cs:=cs) (M:=M) w1 hcm.1 ljW ej λh=>absurd h hlt).2;have B1:GT F W M ss mix ps cs cc (1+j):=.inr ⟨j,ljW,rfl,ej,ejf,λh=>absurd h hlt⟩;refine ⟨_,_,_,_,_,_,rfl,S8,e8b,e8w,?_,?_⟩
   ·rw [hdrop];exact Db.put ⟨1+j,by push_cast;rfl,B1⟩
   ·rw [hdrop];exact Dw.put ⟨_,rfl,by rw [B2];exact em⟩
 ·rintro σ H3 ⟨o5,o6,o7,o8,kb,kw,rfl,S3,e3b,e3w,Db,Dw⟩;rw [Nat.sub_self,List.drop_zero] at Db Dw;obtain ⟨c0,hc0⟩:∃c0,(rise F M)[0]?=some c0:=by
   have:List.replicate F 0∈rise F M:=(gP f1).mpr ⟨dS,by simp⟩;exact ⟨_,aB (List.length_pos_of_mem this)⟩
  obtain ⟨y0,hy0,ry0⟩:=eG a6r hc0;obtain ⟨v0,hv0,_⟩:=Dw.yes c0 (aG hc0);obtain ⟨q0,rfl,hq0⟩:=gK ry0;refine ⟨_,rfl,_,rfl,_,rfl,rP O (by simp) (S3 _ _ a0) a1 ?_⟩;refine FR (S3 _ _ a6) (cV (j:=0) hy0) (NH e3w (c:=ci c0) (by rw [eJ];exact S3 _ _ hq0) hv0 ?_);refine nZ (by show 2<=64;decide) λq4 H4 hq4 e4 s4=>?_;have lb:=Db.len;have ch:∀cc:Ae,∃b:Nat,cc∈rise F M->fQ kb (kT (ci cc))=some (.int (b:Int))/\GT F W M ss mix ps cs cc b:=λcc=>by
   by_cases q:cc∈rise F M
   ·obtain ⟨v,h1,b,rfl,h2⟩:=Db.yes cc q;exact ⟨b,λ_=>⟨h1,h2⟩⟩
   ·exact ⟨0,λz=>absurd z q⟩
  refine k q4 bp v0 kb (λcc=>Classical.choose (ch cc)) H4 (S3.trans s4) e4 (s4 _ _ e3b) ⟨λcc hc=>(Classical.choose_spec (ch cc) hc).1,Oo⟩ λcc hc=>(Classical.choose_spec (ch cc) hc).2
end
abbrev aAy:Stmt:=(top 22)
def aEE:bZ ["says"] ["says"] (aY aAy):=⟨rfl,rfl,rfl,Kk,rfl,Kk,Kk⟩
abbrev VH:Stmt:=(top 17)
def aED:bZ ["faces"] ["faces"] (aY VH):=⟨rfl,rfl,rfl,Kk,rfl,Kk,Kk⟩
abbrev VF:Stmt:=(top 34)
def YB:bZ ["weighing","best_at","ways","table","counts"] ["weighing","best_at"] (aY VF):=⟨rfl,rfl,rfl,Kk,rfl,Kk,Kk⟩
abbrev aAC:Stmt:=(top 24)
def YF:bZ ["level","table","found","counts","more"] ["level","table"] (aY aAC):=⟨rfl,rfl,rfl,Kk,rfl,Kk,Kk⟩
abbrev aAB:Stmt:=(top 23)
def YE:bZ ["faces","table","found","level"] ["faces","table"] (aY aAB):=⟨rfl,rfl,rfl,Kk,rfl,Kk,Kk⟩
abbrev VE:Stmt:=(top 25)
def aEA:bZ ["faces","table"] ["faces","table"] (aY VE):=⟨rfl,rfl,rfl,Kk,rfl,Kk,Kk⟩
def NX(K:Aa)(H:Hp)(fs:Ak)(z:V):Prop:=∃sa sx,z=.ref sa/\H sa=some (.tup sx)/\qU K H fs sx
theorem NX.t{K:Aa}{H H':Hp}{fs:Ak}{z:V}(s:dA H H')(h:NX K H fs z):NX K H' fs z:=by
 obtain ⟨sa,sx,h1,h2,h3⟩:=h;exact ⟨sa,sx,h1,s _ _ h2,h3.t s⟩
def qU.get{K:Aa}{H:Hp}{fs:Ak}{xs:Al}(h:qU K H fs xs){i:Nat}{f:Fr}(e:fs[i]?=some f):∃x,xs[i]?=some x/\zJ K H f x:=by
 have li:=(aF.mp e).1;have hx:xs[i]?=some (xs[i]'(by rw [h.len];exact li)):=aB (by rw [h.len];exact li);obtain ⟨g,h1,h2⟩:=h.at_ i _ hx;rw [e] at h1;cases h1;exact ⟨_,hx,h2⟩
def OC(K:Aa)(H:Hp)(d:Addr)(rs:Ab)(W:Nat)(best:Ae->Nat):Prop:=∃kvs,H d=some (.dT kvs)/\∀c∈rs,∃v,fQ kvs (kT (ci c))=some v/\NX K H (rE W (best c)) v
def OC.same{K:Aa}{H H':Hp}{d:Addr}{rs:Ab}{W:Nat}{best:Ae->Nat}(s:aU H H')(h:OC K H d rs W best):OC K H' d rs W best:=by
 obtain ⟨kvs,h1,h2⟩:=h;exact ⟨kvs,s _ _ h1,λc hc=>by obtain ⟨v,g1,g2⟩:=h2 c hc;exact ⟨v,g1,g2.t s.t⟩⟩
def EnW(K:Aa)(H:Hp)(e:fV)(x:V):Prop:=∃b cu z,x=.ref b/\H b=some (.tup [.ref cu,z])/\H cu=some (.tup (e.1.map AO))/\NX K H e.2 z
theorem EnW.t{K:Aa}{H H':Hp}{e:fV}{x:V}(s:dA H H')(h:EnW K H e x):EnW K H' e x:=by
 obtain ⟨b,cu,z,h1,h2,h3,h4⟩:=h;exact ⟨b,cu,z,h1,s _ _ h2,s _ _ h3,h4.t s⟩
def IQ(K:Aa)(H:Hp)(es:List fV)(v:V):Prop:=∃a xs,v=.ref a/\H a=some (.tup xs)/\xs.length=es.length/\∀(i:Nat) (x:V),xs[i]?=some x->∃e,es[i]?=some e/\EnW K H e x
theorem IQ.t{K:Aa}{H H':Hp}{es:List fV}{v:V}(s:dA H H')(h:IQ K H es v):IQ K H' es v:=by
 obtain ⟨a,xs,h1,h2,h3,h4⟩:=h;exact ⟨a,xs,h1,s _ _ h2,h3,λi x hx=>by obtain ⟨e,g1,g2⟩:=h4 i x hx;exact ⟨e,g1,g2.t s⟩⟩
@[irreducible] def oJ(K:Aa):Sp:=λvs H Q _=>∃(z:V) (f:Fr) (fs:Ak),vs=[z]/\NX K H (f::fs) z/\Q (.bl (decide (0<f.1))) H
def EQ{K:Aa}(h1:NX K H (f::fs) z)(k:Q (.bl (decide (0<f.1))) H):oJ K [z] H Q E:=by
 unfold oJ;exact ⟨z,f,fs,rfl,h1,k⟩
@[irreducible] def mN:Sp:=λvs H Q _=>∃F:Nat,vs=[.int (F:Int)]/\F<=64/\∀v H',aU H H'->cE H' (kJ (List.replicate F 0)) v->Q v H'
def BN(h:F<=64)(k:∀v H',aU H H'->cE H' (kJ (List.replicate F 0)) v->Q v H'):mN [.int (F:Int)] H Q E:=by
 unfold mN;exact ⟨F,rfl,h,k⟩
structure sL(F W M:Nat)(best:Ae->Nat):Prop where
 f1:1<=F
 f4:F<=4
 w4:W<=4
 m5:M<=5
 on:∀c,best c=0->c.sum<M
 r:(rise F M).length<=400
@[irreducible] def oG(K:Aa)(C:Addr):Sp:=λvs H Q _=>∃(x bp:Addr) (kb:List (List fE × V)) (F W M:Nat) (ss:Aj) (mix cs:Ak) (us:Ae) (cu:Nat) (best:Ae->Nat),vs=[.ref x,.ref bp]/\yP H x C F W M ss mix cs us cu/\H bp=some (.dT kb)/\YV kb (rise F M) best/\W<=4/\(rise F M).length<=400 /\
 ∀d H',aU H H'->OC K H' d (rise F M) W best->Q (.ref d) H'
def EM{K:Aa}{C:Addr}{H:Hp}{Q:VK}{E:XK}{x bp:Addr}{kb:List (List fE × V)}{F W M:Nat}{ss:Aj}{mix cs:Ak}{us:Ae}{cu:Nat}{best:Ae->Nat}(h1:yP H x C F W M ss mix cs us cu)(h2:H bp=some (.dT kb))(h3:YV kb (rise F M) best)(h4:W<=4)(h5:(rise F M).length<=400)
  (k:∀d H',aU H H'->OC K H' d (rise F M) W best->Q (.ref d) H'):oG K C [.ref x,.ref bp] H Q E:=by
 unfold oG;exact ⟨x,bp,kb,F,W,M,ss,mix,cs,us,cu,best,rfl,h1,h2,h3,h4,h5,k⟩
@[irreducible] def qD(K:Aa):Sp:=λvs H Q _=>∃(L d:Addr) (F W M k:Nat) (best:Ae->Nat),vs=[.ref L,.ref d]/\iK H L (lvl F best k)/\OC K H d (rise F M) W best/\sL F W M best/\k<=M/\∀D H',aU H H'->H D=none->iK H' D (lvl F best (k+1))->Q (.ref D) H'
def HJ{K:Aa}(h1:iK H L (lvl F best k))(h2:OC K H d (rise F M) W best)(h3:sL F W M best)(h4:k<=M)(q:∀D H',aU H H'->H D=none->iK H' D (lvl F best (k+1))->Q (.ref D) H'):qD K [.ref L,.ref d] H Q E:=by
 unfold qD;exact ⟨L,d,F,W,M,k,best,rfl,h1,h2,h3,h4,q⟩
@[irreducible] def qB(K:Aa):Sp:=λvs H Q _=>∃(d:Addr) (F W M:Nat) (best:Ae->Nat),vs=[.int (F:Int),.ref d]/\OC K H d (rise F M) W best/\sL F W M best/\∀D H',aU H H'->H D=none->iK H' D (fA F M best)->Q (.ref D) H'
def HI{K:Aa}(h2:OC K H d (rise F M) W best)(h3:sL F W M best)(q:∀D H',aU H H'->H D=none->iK H' D (fA F M best)->Q (.ref D) H'):qB K [.int (F:Int),.ref d] H Q E:=by
 unfold qB;exact ⟨d,F,W,M,best,rfl,h2,h3,q⟩
@[irreducible] def pT(K:Aa):Sp:=λvs H Q _=>∃(d:Addr) (F W M:Nat) (best:Ae->Nat),vs=[.int (F:Int),.ref d]/\OC K H d (rise F M) W best/\sL F W M best/\∀v H',aU H H'->IQ K H' (rul F W M best) v->Q v H'
def HC{K:Aa}(h2:OC K H d (rise F M) W best)(h3:sL F W M best)(q:∀v H',aU H H'->IQ K H' (rul F W M best) v->Q v H'):pT K [.int (F:Int),.ref d] H Q E:=by
 unfold pT;exact ⟨d,F,W,M,best,rfl,h2,h3,q⟩
theorem wS{F M:Nat}{best:Ae->Nat}(hF:1<=F)(on:∀c,best c=0->c.sum<M):∀j,lvl F best (M+1+j)=[]
 | 0=>by
  refine List.eq_nil_iff_forall_not_mem.mpr λd hd=>?_;obtain ⟨c,hc,h0,_⟩:=(nO hF).mp hd;have h1:=(gY ((lT hF M).subset hc)).2;have:=on c h0;exact Oo
 | j+1=>by
  refine List.eq_nil_iff_forall_not_mem.mpr λd hd=>?_;obtain ⟨c,hc,_⟩:=(nO (k:=M+1+j) hF).mp hd;rw [wS hF on j] at hc;cases hc
theorem FL{F k:Nat}{best:Ae->Nat}(hF:1<=F)(h:lvl F best k=[]):∀j,lvl F best (k+j)=[]
 | 0=>h
 | j+1=>by
  refine List.eq_nil_iff_forall_not_mem.mpr λd hd=>?_;obtain ⟨c,hc,_⟩:=(nO (k:=k+j) hF).mp hd;rw [FL hF h j] at hc;cases hc
theorem AH{F k:Nat}{best:Ae->Nat}(hF:1<=F)(h:lvl F best k=[]):∀j,(List.range (k+j)).flatMap (lvl F best)=(List.range k).flatMap (lvl F best)
 | 0=>rfl
 | j+1=>by rw [<-Nat.add_assoc,oN,FL hF h j,List.append_nil,AH hF h j]
section
def aDT(F:jP K "looks_on" "looks_on" aAy f fd)(T:kX K mg c):eC P w K mg base dR 1 f fd ["says"] (oJ K):=by
 refine F.oky aEE λvs H Q E h=>?_;unfold oJ at h;obtain ⟨z,f,fs,rfl,⟨sa,sx,rfl,hsa,rsx⟩,k⟩:=h;refine ⟨rfl,λcdv A outer s hr=>?_⟩;obtain ⟨y,hy,ry⟩:=rsx.get (i:=0) rfl;obtain ⟨b,rfl,hb⟩:=ry.v;refine ⟨_,(bD (cH (BF AB (bP bK (bP bK (aD 0) (sR (v:=.int 0) rfl T.g_LOOKS_ON ⟨_,rfl⟩) (λ_ _=>rfl)) aK (λ_ _=>rfl)) aK (nomark _)))),?_⟩;refine ⟨_,rfl,jS hsa (cV (j:=0) hy) ?_⟩;exact nS hb rfl ⟨_,_,rfl,rfl,k⟩
def aDS(F:jP K "noughts" "noughts" VH f fd)(T:kX K mg c):eC P w K mg base dR 1 f fd ["faces"] mN:=by
 refine F.oky aED λvs H Q E h=>?_;unfold mN at h;obtain ⟨F,rfl,hF,k⟩:=h;refine ⟨rfl,λcdv A outer s hr=>?_⟩;refine ⟨_,(bD (cH (pK fL (by rfl) T.b_tuple Kk (aJ (gI (dP.of (psc:=aY VH) (N:=["faces"]) (N':=["face"]) (js:=[]) Kk rfl rfl rfl) (cS rfl T.b_range (aJ (aD 0) aE)) (λ_ _ _ _=>dW) (λ_ _ _ _=>aK)) aE)))),?_⟩;refine ⟨_,rfl,_,rfl,Oo,Oo,hJ (λi y H'=>∃n,y=.int n/\n=0) (λ_ _ _ _ _ h=>h) Oo (λi H' Q' hi s' k'=>k' _ H' (aU.refl _) ⟨0,rfl,rfl⟩) (λD ys H1 hD e1 s1 hy hr1=>?_)⟩;obtain ⟨zs,rfl,hz⟩:=pE (P:=λ_ n=>n=0) hr1;have ez:zs=List.replicate F 0:=by
  rw [aA] at hy;exact List.eq_replicate_iff.mpr ⟨Oo,λb hb=>by obtain ⟨i,h⟩:=cZ.mp hb;exact hz i b h⟩
 subst ez;refine ⟨D,_,rfl,.inl ⟨fI.of e1,λl hl=>?_⟩⟩;refine k _ _ (s1.trans (aU.upd hl)) (nU ?_);rw [bO,List.map_replicate,List.map_replicate];rfl
def aDP(F:jP K "plain_table" "plain_table" VF f fd)(T:kX K mg c):eC P w K mg base dR 1 f fd ["weighing","best_at"] (oG K c.Weighing):=by
 refine F.oky YB λvs H Q E h=>?_;unfold oG at h;obtain ⟨x,bp,kb,F,W,M,ss,mix,cs,us,cu,best,rfl,wg,hbp,hbs,w4,r4,k⟩:=h;refine ⟨rfl,λcdv A outer s hr=>?_⟩;obtain ⟨ul,dx,fl,ra,ua,wa,ca,tas,kvs,a0,a1,a2,a3,a4,a5,⟨vs,a6,a6r⟩,a7,a8,a9,a10,a11⟩:=wg;have O:=T.w_Weighing;have lvs:vs.length=(rise F M).length:=by rw [a6r.len,aA]
 refine ⟨_,(aH (bN (i:=2) YB.nd rfl (Or.inl rfl) (dX gG (by rfl) T.b_len Kk (aJ (gW K (aD 0)) aE)))
  (aH (bN (i:=3) YB.nd rfl (Or.inl rfl) mJ)
  (aH (eY PassesOwn.never rfl (eZ (gW K (aD 0))) (cX (i:=4) YB.nd rfl (Or.inr rfl)) (bD (iL hr.u1 (aD 3) (aD 4) (pK fL (by rfl) T.b_tuple Kk (aJ (gI (dP.of (psc:=aY VF) (N:=["weighing","best_at","ways","table","counts"]) (N':=["place","best_at","counts"]) (js:=[1,4]) Kk rfl rfl rfl) (cS rfl T.b_range (aJ (bX eB aK (aD 2)) aE)) (λ_ _ _ _=>dW) (λ_ _ _ _=>(ED (eO vX (aD 0) (gH hr.u1 (aD 1) (aD 2)) (nomark _)) (sR (v:=.ref c.ONE) rfl T.g_ONE rfl) (sR (v:=.ref c.NOUGHT) rfl T.g_NOUGHT rfl)))) aE)))))
  (bD (cH (aD 3)))))),?_⟩
 refine ⟨_,rfl,rP O (by simp) a0 a2 ?_⟩;refine QH a7 ?_;rw [aA,ul];intro p hp;have s1:=aU.upd (o:=.dT []) hp;have e1:(upd H p (.dT [])) p=some (.dT []):=bO;generalize upd H p (.dT [])=H1 at s1 e1 ⊢;refine ⟨_,rfl,rP O (by simp) (s1 _ _ a0) a1 ?_⟩;refine ⟨ra,rfl,⟨_,fI.of (s1 _ _ a6)⟩,?_⟩;refine kG (xs:=vs) (λi σ H'=>∃(o4:Am) (kv:List (List fE × V)),σ=[some (.ref x),some (.ref bp),some (.int (W:Int)),some (.ref p),o4]/\aU H H'/\H' p=some (.dT kv)/\kv.length<=i/\∀cc∈(rise F M).take i,∃v,fQ kv (kT (ci cc))=some v/\NX K H' (rE W (best cc)) v)
  ⟨_,[],rfl,s1,e1,aI _,λcc hc=>by simp at hc⟩ (λi σ H' _ q=>?_) ?_ ?_
 ·obtain ⟨_,_,_,S',_⟩:=q;exact fI.of (S' _ _ a6)
 ·rintro i y σ H2 hy ⟨o4,kv,rfl,S2,e2,l2,D2⟩;obtain ⟨cc,hc,rc0⟩:=fC a6r hy;have hi:=(aF.mp hy).1;obtain ⟨ac,rfl,hac⟩:=gK rc0;have hb:=hbs.1 cc (aG hc);refine ⟨_,rfl,_,_,rfl,rfl,_,rfl,Oo,Oo,hJ (λq z H'=>q<1+W/\zJ K H' (if q=best cc then (1,1) else (0,1)) z) (λq z Ha Hb s ⟨h1,h2⟩=>⟨h1,h2.t s⟩) Oo (λq H' Q' hq s' k'=>?_) (λD ys H3 hD e3 s3 hy3 hr3=>?_)⟩
  ·have hq:q<1+W:=Oo;rw [Int.zero_add];refine ⟨_,rfl,_,rfl,_,rfl,NH (s' _ _ (S2 _ _ hbp)) (c:=ci cc) (by rw [eJ];exact s' _ _ (S2 _ _ hac)) hb ?_⟩;refine ⟨rfl,_,rfl,sI (λe=>?_) (λe=>?_)⟩
   ·have e:q=best cc:=by injection e with e;exact Oo
    exact k' _ H' (aU.refl _) ⟨hq,by rw [if_pos e];exact .inr ⟨_,rfl,T.o_ONE⟩⟩
   ·have e:¬q=best cc:=λz=>e (by rw [z]);exact k' _ H' (aU.refl _) ⟨hq,by rw [if_neg e];exact .inr ⟨_,rfl,T.o_NOUGHT⟩⟩
  ·refine ⟨D,ys,rfl,.inl ⟨fI.of e3,λl hl=>?_⟩⟩;have sl:=aU.upd (o:=.tup ys) hl;have el:(upd H3 l (.tup ys)) l=some (.tup ys):=bO;generalize upd H3 l (.tup ys)=H4 at sl el ⊢;have ly:ys.length=1+W:=Oo;have sa:NX K H4 (rE W (best cc)) (.ref l):=⟨l,ys,rfl,el,by unfold rE;rw [aA,bA];exact ly,λq z hz=>by
    obtain ⟨h1,h2⟩:=hr3 q z hz;exact ⟨_,by unfold rE;rw [aL,cN h1];rfl,h2.t sl.t⟩⟩
   refine ⟨_,rfl,_,rfl,?_⟩;have S4:=(S2.trans s3).trans sl;have e4:=sl _ _ (s3 _ _ e2);refine SG e4 (c:=ci cc) (by rw [eJ];exact S4 _ _ hac) Oo λH5 e5 b5=>?_;have t5:dA H4 H5:=aR.tT b5 e4;refine ⟨_,_,rfl,aU.thru hp S4 b5,e5,by have:=fD kv (kT (ci cc)) (V.ref l);omega,λc2 h2=>?_⟩;rw [iG];by_cases e:c2=cc
   ·subst e;rw [if_pos rfl];exact ⟨_,rfl,sa.t t5⟩
   ·rw [if_neg λz=>e (kU (nB z))];rw [eM hc] at h2;rcases cB.mp h2 with h2 | h2
    ·obtain ⟨v,g1,g2⟩:=D2 c2 h2;exact ⟨v,g1,((g2.t s3.t).t sl.t).t t5⟩
    ·exact absurd (bJ.mp h2) e
 ·rintro σ H2 ⟨o4,kv,rfl,S2,e2,l2,D2⟩;rw [lvs,cP] at D2;exact ⟨_,rfl,k p H2 S2 ⟨kv,e2,D2⟩⟩
def aD0(F:jP K "counts_behind" "counts_behind" aAC f fd)(T:kX K mg c)(FQ38:gR dR P w K mg base 1 "looks_on" ["says"] (oJ K))(FQ41:gR dR P w K mg base 2 "ones_more" ["counts"] iW):eC P w K mg base dR 3 f fd ["level","table"] (qD K):=by
 refine F.oky YF λvs H Q E h=>?_;unfold qD at h;obtain ⟨L,d,F,W,M,kk,best,rfl,LS,tb,I,hk,q⟩:=h;refine ⟨rfl,λcdv A outer s hr=>?_⟩;obtain ⟨ys,hL,ry,ly⟩:=LS.len;have f1:=I.f1;have f4:=I.f4;have m5:=I.m5;have key:∀(j:Nat) (d:Af),(∃c∈(lvl F best kk).take j,best c=0/\∃f,f<F/\d=ci (bQ c f))->d∈(lvl F best (kk+1)).map ci:=λj d ⟨c,hc,h0,f,hf,e⟩=>aX.mpr ⟨bQ c f,(nO f1).mpr ⟨c,List.mem_of_mem_take hc,h0,f,hf,rfl⟩,e.symm⟩;have small:(lvl F best (kk+1)).length<=56:=by
  by_cases z:kk+1<=5
  ·exact aM (lT f1 (kk+1)).length_le (oO F f4 (kk+1) z)
  ·have e:=wS f1 I.on (kk-M);rw [show M+1+(kk-M)=kk+1 by omega] at e;rw [e];exact cG _
 refine ⟨_,(aH (bN (i:=2) YF.nd rfl (Or.inl rfl) mJ)
  (aH (eY PassesOwn.never rfl (eZ (aD 0)) (cX (i:=3) YF.nd rfl (Or.inl rfl)) (bD (jF (DZ (BB (eO (RF hr.u1) (aD 3) (aD 1) (by with_unfolding_all rfl)) (wI (sB (bV FQ38 (hr.mono Dd) (aJ (gH hr.u1 (aD 1) (aD 3)) aE)))))) (bD (eY PassesOwn.never rfl (eZ (bV FQ41 (hr.mono Dd) (aJ (aD 3) aE))) (cX (i:=4) YF.nd rfl (Or.inl rfl)) (bD (iL hr.u1 (aD 2) (aD 4) rQ)))) fK)))
  (bD (cH (dX (LB rfl) (by rfl) T.b_sorted Kk (aJ (aD 2) aE)))))),?_⟩
 intro p hp;have s1:=aU.upd (o:=.dT []) hp;have e1:(upd H p (.dT [])) p=some (.dT []):=bO;generalize upd H p (.dT [])=H1 at s1 e1 ⊢;refine ⟨_,rfl,L,rfl,⟨_,fI.of (s1 _ _ hL)⟩,?_⟩;refine kG (xs:=ys) (λj σ H'=>∃(o3 o4:Am) (kvs:List (List fE × V)) (ks:Ac),σ=[some (.ref L),some (.ref d),some (.ref p),o3,o4]/\aU H H'/\H' p=some (.dT kvs)/\kvs.map (·.1)=ks.map kT/\ks.Nodup/\∀d,d∈ks ↔ ∃c∈(lvl F best kk).take j,best c=0/\∃f,f<F/\d=ci (bQ c f))
  ⟨_,_,[],[],rfl,s1,e1,rfl,List.nodup_nil,λd=>⟨(λh=>by cases h),λ⟨c,hc,_⟩=>by rw [List.take_zero] at hc;cases hc⟩⟩ (λj σ H' _ q=>?_) ?_ ?_
 ·obtain ⟨_,_,_,_,_,S',_⟩:=q;exact fI.of (S' _ _ hL)
 ·rintro j x σ H2 hx ⟨o3,o4,kvs,ks,rfl,S2,e2,hk2,nd,hm⟩;obtain ⟨cc,hc,rc⟩:=fC ry hx;obtain ⟨ac,rfl,hac⟩:=gK rc;have hcl:=aG hc;obtain ⟨lc,sc⟩:=gY ((lT f1 kk).subset hcl);have hcr:cc∈rise F M:=(gP f1).mpr ⟨lc,Oo⟩;obtain ⟨tk,ht,hty⟩:=tb.same S2;obtain ⟨v,hv,sv⟩:=hty cc hcr;have step:∀d,(∃c∈(lvl F best kk).take (j+1),best c=0/\∃f,f<F/\d=ci (bQ c f))↔(∃c∈(lvl F best kk).take j,best c=0/\∃f,f<F/\d=ci (bQ c f))\/(best cc=0/\∃f,f<F/\d=ci (bQ cc f)):=λd=>by
   rw [eM hc];constructor
   ·rintro ⟨c,hc',h⟩;rcases cB.mp hc' with h' | h'
    ·exact .inl ⟨c,h',h⟩
    ·rw [bJ.mp h'] at h;exact .inr h
   ·rintro (⟨c,hc',h⟩ | h)
    ·exact ⟨c,bY _ hc',h⟩
    ·exact ⟨cc,aO _ (bJ.mpr rfl),h⟩
  refine ⟨_,rfl,_,rfl,rind (dgI (cc:=cc) ht (S2 _ _ hac)) ?_⟩;rw [hv];refine ⟨_,rfl,XJ ?_⟩;refine ⟨_,rfl,_,rfl,NH ht (c:=ci cc) (by rw [eJ];exact S2 _ _ hac) hv ?_⟩;have epl:rE W (best cc)=(if 0=best cc then (1,1) else (0,1))::(List.range W).map λk=>if k+1=best cc then (1,1) else (0,1):=by
   unfold rE;rw [Nat.add_comm,List.range_succ_eq_map,bI,List.map_map];rfl
  rw [epl] at sv;refine EQ sv ⟨_,rfl,sI (λon=>?_) (λon=>?_)⟩
  ·have h0:best cc=0:=bM λz=>by rw [if_neg (λy=>z y.symm)] at on;exact absurd on Dd
   refine ⟨_,rfl,?_⟩;refine pW (nU (S2 _ _ hac)) Oo λD zs H3 hD e3 r3 s3=>⟨D,rfl,⟨_,fI.of e3⟩,?_⟩;have lz:zs.length=F:=by rw [r3.len,aA,aA,bA];exact lc
   have nDp:D≠p:=λz=>by rw [z,e2] at hD;cases hD
   refine kG (xs:=zs) (λg σ H'=>∃(o4:Am) (kvs:List (List fE × V)) (ks:Ac),σ=[some (.ref L),some (.ref d),some (.ref p),some (.ref ac),o4]/\aR p H3 H'/\H' p=some (.dT kvs)/\kvs.map (·.1)=ks.map kT/\ks.Nodup/\∀d,d∈ks↔(∃c∈(lvl F best kk).take j,best c=0/\∃f,f<F/\d=ci (bQ c f))\/∃f,f<g/\d=ci (bQ cc f))
    ⟨_,kvs,ks,rfl,(aU.refl _).but,s3 _ _ e2,hk2,nd,λd=>by rw [hm];exact ⟨.inl,λh=>by rcases h with h | ⟨f,hf,_⟩;exact h;omega⟩⟩ (λg σ H' _ q=>?_) ?_ ?_
   ·obtain ⟨_,_,_,_,b',_⟩:=q;exact fI.of (b'.at nDp e3)
   ·rintro g z σ H4 hz ⟨o4',kv4,ks4,rfl,b4,e4,hk4,nd4,hm4⟩;have hg:g<F:=by have:=(aF.mp hz).1;exact Oo
    obtain ⟨c2,hc2,rc2⟩:=fC r3 hz;rw [aL,cN Oo] at hc2;cases hc2;have t4:dA H3 H4:=aR.tT b4 (s3 _ _ e2);obtain ⟨a2,rfl,ha2⟩:=gK (rc2.flat t4 (kH _));have lk:ks4.length<=56:=by
     have:=mG nd4 (m:=(lvl F best (kk+1)).map ci) λd hd=>by
      rcases (hm4 d).mp hd with h | ⟨f,hf,e⟩
      ·exact key j d h
      ·exact key (j+1) d ((step d).mpr (.inr ⟨h0,f,Oo,e⟩))
     rw [aA] at this;exact Oo
    have lkv:kv4.length=ks4.length:=by have:=congrArg List.length hk4;simpa using this
    refine ⟨_,rfl,_,rfl,?_⟩;refine SG e4 (c:=ci (bQ cc g)) (by rw [eJ];exact ha2) Oo λH5 e5 b5=>?_;obtain ⟨ks2,k1,k2,k3⟩:=RV (v:=.bl true) (ci (bQ cc g)) hk4 nd4;refine ⟨_,_,ks2,rfl,b4.trans b5,e5,k1,k2,λd=>?_⟩;rw [k3,hm4];constructor
    ·rintro ((h | ⟨f,hf,e⟩) | h)
     ·exact .inl h
     ·exact .inr ⟨f,Oo,e⟩
     ·exact .inr ⟨g,Oo,h⟩
    ·rintro (h | ⟨f,hf,e⟩)
     ·exact .inl (.inl h)
     ·by_cases q:f=g
      ·subst q;exact .inr e
      ·exact .inl (.inr ⟨f,Oo,e⟩)
   ·rintro σ H4 ⟨o4',kv4,ks4,rfl,b4,e4,hk4,nd4,hm4⟩;refine ⟨_,_,kv4,ks4,rfl,aU.thru hp (S2.trans s3) b4,e4,hk4,nd4,λd=>?_⟩;rw [hm4,step,lz];constructor
    ·rintro (h | h)
     ·exact .inl h
     ·exact .inr ⟨h0,h⟩
    ·rintro (h | h)
     ·exact .inl h
     ·exact .inr h.2
  ·have h0:¬best cc=0:=λz=>on (by rw [if_pos z.symm];decide);refine ⟨_,_,kvs,ks,rfl,S2,e2,hk2,nd,λd=>?_⟩;rw [hm,step];exact ⟨.inl,λh=>by rcases h with h | h;exact h;exact absurd h.1 h0⟩
 ·rintro σ H2 ⟨o3,o4,kvs,ks,rfl,S2,e2,hk2,nd,hm⟩;rw [ly,cP] at hm;have hmem:∀d,d∈ks↔d∈(lvl F best (kk+1)).map ci:=λd=>by
   rw [hm,aX];constructor
   ·rintro ⟨c,hc,h0,f,hf,e⟩;exact ⟨bQ c f,(nO f1).mpr ⟨c,hc,h0,f,hf,rfl⟩,e.symm⟩
   ·rintro ⟨d',hd',rfl⟩;obtain ⟨c,hc,h0,f,hf,rfl⟩:=(nO f1).mp hd';exact ⟨c,hc,h0,f,hf,rfl⟩
  have lk:ks.length<=56:=by
   have:=mG nd (m:=(lvl F best (kk+1)).map ci) λd hd=>(hmem d).mp hd;rw [aA] at this;exact Oo
  refine ⟨_,rfl,?_⟩;refine rsrd (cs:=ks) e2 hk2 (λc hc=>?_) Oo λq8 ys8 ds H8 pm pw hq8 e8 r8 s8=>?_
  ·obtain ⟨d,hd,rfl⟩:=aX.mp ((hmem c).mp hc);obtain ⟨l1,_⟩:=gY ((lT f1 (kk+1)).subset hd);intro z;have e:(ci d).length=d.length:=by unfold ci;rw [aA]
   rw [z,List.length_nil] at e;exact Oo
  have slex:((lvl F best (kk+1)).map ci).Pairwise λa b=>jX a b=true:=by
   by_cases z:kk+1<=5
   ·exact (KW F f4 (kk+1) z).sublist ((lT f1 (kk+1)).map ci)
   ·have e:=wS f1 I.on (kk-M);rw [show M+1+(kk-M)=kk+1 by omega] at e;rw [e];exact List.Pairwise.nil
  have eds:ds=(lvl F best (kk+1)).map ci:=tS pw slex λd=>by rw [pm.mem_iff];exact hmem d
  rw [eds,List.map_map,show (lvl F best (kk+1)).map ((λc:Af=>PyData.tuple (c.map .int)) ∘ ci)=(lvl F best (kk+1)).map kJ from eI λc _=>ctI c] at r8;exact q q8 H8 (S2.trans s8) (S2.free hq8) ⟨ys8,e8,r8⟩
def aDZ(F:jP K "counts_come_to" "counts_come_to" aAB f fd)(T:kX K mg c)(FQ39:gR dR P w K mg base 1 "noughts" ["faces"] mN)(FQ31:gR dR P w K mg base 3 "counts_behind" ["level","table"] (qD K)):eC P w K mg base dR 4 f fd ["faces","table"] (qB K):=by
 refine F.oky YE λvs H Q E h=>?_;unfold qB at h;obtain ⟨d,F,W,M,best,rfl,tb,I,q⟩:=h;refine ⟨rfl,λcdv A outer s hr=>?_⟩;have f1:=I.f1;have f4:=I.f4;have m5:=I.m5;refine ⟨_,(aH (bN (i:=2) YE.nd rfl (Or.inl rfl) (iD aE))
  (aH (bN (i:=3) YE.nd rfl (Or.inl rfl) (iD (aJ (bV FQ39 (hr.mono Dd) (aJ (aD 0) aE)) aE)))
  (aH (sO PassesOwn.never (eO AB (dX gG (by rfl) T.b_len Kk (aJ (aD 3) aE)) aK (nomark _)) (aH (jQ (nJ PySem.F.plainAttrs_list PySem.F.slot_list_extend PySem.F.type_list_extend IB (aD 2) (aJ (aD 3) aE)))
  (bD (bN (i:=3) YE.nd rfl (Or.inl rfl) (bV FQ31 (hr.mono Dd) (aJ (aD 3) (aJ (aD 1) aE)))))))
  (bD (cH (aD 2)))))),?_⟩
 refine CI (by show 0<=64;decide) λfo H1 hfo e1 s1=>⟨_,rfl,?_⟩;refine BN Oo λv H2 s2 r2=>CI (by show 1<=64;decide) λle H3 hle e3 s3=>?_;have s13:=(s1.trans s2).trans s3;have nle:le≠fo:=λz=>by subst z;rw [s2 _ _ e1] at hle;cases hle
 have small:∀i,i<=M+1->((List.range i).flatMap (lvl F best)).length<=400:=λi hi=>aM (yF (lT f1) (List.range i)).length_le (rK F f4 i Oo);refine wK (λm σ H'=>∃(le:Addr) (vs:Al) (j:Nat),σ=[some (.int (F:Int)),some (.ref d),some (.ref fo),some (.ref le)]/\aU H H'/\H' fo=some (.lst vs)/\aQ H' (((List.range j).flatMap (lvl F best)).map kJ) vs/\iK H' le (lvl F best j)/\le≠fo/\j<=M+1/\m=M+1-j)
  (λσ H'=>∃(le:Addr) (vs:Al),σ=[some (.int (F:Int)),some (.ref d),some (.ref fo),some (.ref le)]/\aU H H'/\H' fo=some (.lst vs)/\aQ H' ((fA F M best).map kJ) vs)
  _ ⟨le,[],0,rfl,s13,s3 _ _ (s2 _ _ e1),aQ.nil,⟨_,e3,aQ.cons (r2.same s3) aQ.nil⟩,nle,cG _,rfl⟩ ?_ ?_
 ·clear e1 s1 s2 s3 s13 e3 hle nle r2;rintro m σ H1 ⟨le,vs,j,rfl,S1,e1,r1,L1,nle,hj,rfl⟩;obtain ⟨ws,e2,r2,lw⟩:=L1.len;have lv:vs.length=((List.range j).flatMap (lvl F best)).length:=eP r1;have sj:=small j hj;refine ⟨_,rfl,QH e2 ?_⟩;refine ⟨_,_,rfl,rfl,_,rfl,?_⟩;by_cases hz:lvl F best j=[]
  ·have w0:ws.length=0:=by rw [lw,hz];rfl
   refine pO (cJ Oo) ⟨le,vs,rfl,S1,e1,?_⟩;have:=AH f1 hz (M+1-j);rw [show j+(M+1-j)=M+1 by omega] at this;unfold fA;rw [this];exact r1
  ·have l0:0<(lvl F best j).length:=List.length_pos_iff.mpr hz;have hjM:j<=M:=bM λz=>hz (by
    have:=wS f1 I.on (j-(M+1))
    rwa [show M+1+(j-(M+1))=j by omega] at this)
   refine FS (cL Oo) ?_;have sj2:=small (j+1) Oo;rw [oN,bE] at sj2;refine ⟨_,rfl,LW e1,_,rfl,?_⟩;refine aBE e1 e2 Oo λH2 e3 b3=>?_;have t3:=b3.t e1;have S2:aU H H2:=aU.thru hfo S1 b3;refine ⟨_,rfl,_,rfl,?_⟩;refine HJ (L1.butL b3 e1 nle) (tb.same S2) I hjM λD H3 s3 hD L3=>?_;have nD:D≠fo:=λz=>by subst z;rw [e3] at hD;cases hD
   refine ⟨_,Oo,D,vs++ws,j+1,rfl,S2.trans s3,s3 _ _ e3,?_,L3,nD,Oo,rfl⟩;rw [oN,bF];exact aQ.app ((r1.flat t3 (jU _)).same s3) ((r2.flat t3 (jU _)).same s3)
 ·rintro σ H1 ⟨le,vs,rfl,S1,e1,r1⟩;exact ⟨_,rfl,q fo H1 S1 hfo ⟨vs,e1,r1⟩⟩
def aDM(F:jP K "rule_within" "rule_within" VE f fd)(T:kX K mg c)(FQ32:gR dR P w K mg base 4 "counts_come_to" ["faces","table"] (qB K)):eC P w K mg base dR 5 f fd ["faces","table"] (pT K):=by
 refine F.oky aEA λvs H Q E h=>?_;unfold pT at h;obtain ⟨d,F,W,M,best,rfl,tb,I,q⟩:=h;refine ⟨rfl,λcdv A outer s hr=>?_⟩;have f1:=I.f1;refine ⟨_,(bD (cH (pK fL (by rfl) T.b_tuple Kk (aJ (gI (dP.of (psc:=aY VE) (N:=["faces","table"]) (N':=["counts","table"]) (js:=[1]) Kk rfl rfl rfl) (eZ (bV FQ32 (hr.mono Dd) (aJ (aD 0) (aJ (aD 1) aE)))) (λ_ _ _ _=>dW) (λ_ _ _ _=>(dI (aJ (aD 0) (aJ (gH hr.u1 (aD 1) (aD 0)) aE))))) aE)))),?_⟩;refine ⟨_,rfl,_,rfl,?_⟩;refine HI tb I λD H1 s1 hD L1=>?_;obtain ⟨zs,e1,r1,lz⟩:=L1.len;have lr:(fA F M best).length<=400:=aM (iE f1).length_le I.r;refine ⟨D,rfl,⟨_,fI.of e1⟩,hV (λi y H'=>∃e,(rul F W M best)[i]?=some e/\EnW K H' e y) (λi y Ha Hb s ⟨e,h1,h2⟩=>⟨e,h1,h2.t s⟩) Oo e1 (λi x H' Q' hx s' k'=>?_) (λD2 ys H2 hD2 e2 s2 hy hr2=>?_)⟩
 ·obtain ⟨cc,hc,rx⟩:=fC r1 hx;obtain ⟨b,rfl,hb⟩:=gK (rx.same s');obtain ⟨kvs,t1,t2⟩:=tb;obtain ⟨v,ev,sv⟩:=t2 cc ((iE f1).subset (aG hc));refine ⟨_,rfl,_,rfl,_,rfl,NH (s' _ _ (s1 _ _ t1)) (c:=ci cc) (by rw [eJ];exact hb) ev ?_⟩;exact nZ (by show 2<=64;decide) λq3 H3 hq3 e3 s3=>k' _ H3 s3 ⟨plE W best cc,by unfold rul;rw [aL,hc];rfl,q3,b,v,rfl,e3,s3 _ _ hb,sv.t ((s1.trans s').trans s3).t⟩
 ·refine ⟨D2,ys,rfl,.inl ⟨fI.of e2,λl hl=>?_⟩⟩;have sl:=aU.upd (o:=.tup ys) hl;refine q _ _ ((s1.trans s2).trans sl) ⟨l,ys,rfl,bO,by unfold rul;rw [aA];omega,λi y hi=>?_⟩;obtain ⟨e,h1,h2⟩:=hr2 i y hi;exact ⟨e,h1,h2.t sl.t⟩
end
abbrev QB:Stmt:=(top 36)
def NS:bZ ["trial","aim","prices","weighing","parts","unit","factors","best_at"] ["trial","aim","prices"] (aY QB):=⟨rfl,rfl,rfl,Kk,rfl,Kk,Kk⟩
def SM(xs:Al)(v:V):lU (xs++[v]) none (some (-1))=xs:=by
 unfold lU;rw [HT.tN,List.drop_zero,Nat.sub_zero];have:HT.jB (xs++[v]).length (xs++[v]).length (some (-1))=xs.length:=by
  show (if (-1:Int)<0 then ((-1:Int)+((xs++[v]).length:Int)).toNat else min (-1:Int).toNat (xs++[v]).length)=_;rw [if_pos Dd,bE,List.length_singleton];exact Oo
 rw [this,List.take_left]
def Fn.inv{u:Nat}(h:0<u):Fn u 1 (1,(u:Int)):=by
 have low:cY (1,(u:Int)):=⟨by show (0:Int)<(u:Int);omega,by show Int.gcd 1 (u:Int)=1;exact Int.gcd_one_left _⟩;refine ⟨low,1,?_,by simp;omega⟩;have h1:=rT low.pos;show rv (1,(u:Int))*(u:Rat)=((1:Int):Rat);exact h1
@[irreducible] def lF(K:Aa):Sp:=λvs H Q _=>∃(tv av pv:V) (fs:Ah) (ws:List (Str × Ak)) (bs mix ps cs:Ak) (F W M Ns Nm Np Nc B Nb:Nat),vs=[tv,av,pv]/\cE H (pL fs ws) tv/\fs.length=F/\cE H (lV M bs mix cs) av/\cE H (pP ps) pv/\TR ws bs F W M Ns Nm Np Nc B Nb mix ps cs /\
 ∀v best H',aU H H'->IQ K H' (rul F W M best) v->sL F W M best->(∀c∈rise F M,GT F W M (eT ws) mix ps cs c (best c))->Q v H'
def xH{K:Aa}{H:Hp}{Q:VK}{E:XK}{tv av pv:V}{fs:Ah}{ws:List (Str × Ak)}{bs mix ps cs:Ak}{F W M Ns Nm Np Nc B Nb:Nat}(h1:cE H (pL fs ws) tv)(h2:fs.length=F)(h3:cE H (lV M bs mix cs) av)(h4:cE H (pP ps) pv)(h5:TR ws bs F W M Ns Nm Np Nc B Nb mix ps cs)
  (k:∀v best H',aU H H'->IQ K H' (rul F W M best) v->sL F W M best->(∀c∈rise F M,GT F W M (eT ws) mix ps cs c (best c))->Q v H'):lF K [tv,av,pv] H Q E:=by
 unfold lF;exact ⟨tv,av,pv,fs,ws,bs,mix,ps,cs,F,W,M,Ns,Nm,Np,Nc,B,Nb,rfl,h1,h2,h3,h4,h5,k⟩
section
def aD3(F:jP K "best_rule" "best_rule" QB f fd)(T:kX K mg c)(FQ0:FnO P w K mg base 7 c.Weighing ["self","trial","aim"] (rB c.Weighing))(FQ46:gR dR P w K mg base 2 "times" ["one","other"] (mL K))(FQ30:gR dR P w K mg base 2 "common_lower" ["some"] (mF K))(FQ47:gR dR P w K mg base 1 "times_whole" ["one","unit"] (mC K))
  (FQ27:gR dR P w K mg base 3 "best_places" ["weighing","factors","cost_factor"] (qF c.Weighing)) (FQ45:gR dR P w K mg base 5 "rule_within" ["faces","table"] (pT K)) (FQ34:gR dR P w K mg base 1 "faces_of" ["trial"] kP) (FQ42:gR dR P w K mg base 1 "plain_table" ["weighing","best_at"] (oG K c.Weighing)):eC P w K mg base dR 9 f fd ["trial","aim","prices"] (lF K):=by
 refine F.oky NS λvs H Q E h=>?_;unfold lF at h;obtain ⟨tv,av,pv,fs,ws,bs,mix,ps,cs,F,W,M,Ns,Nm,Np,Nc,B,Nb,rfl,rt,hF,ra,rp,G,k⟩:=h;refine ⟨rfl,λcdv A outer s hr=>?_⟩;have I:=G.wo;have f1:=I.f1;have f4:=I.f4;have m5:=I.m5;have w4:=I.w4;have hB:=I.b;have O:=T.w_Weighing;have r4:=sE F f4 M m5;obtain ⟨ap,vp,rfl,hap,rvp⟩:=kQ rp;have lvp:vp.length=W:=by rw [eP rvp];exact I.pl
 have np0:0<Np:=Nat.pos_of_ne_zero λz=>by have:=I.pos;rw [z] at this;simp at this
 have N0:0<lX M Ns Nm Np Nc*Nb:=nH I.pos G.nb;refine ⟨_,(aH (bN (i:=3) NS.nd rfl (Or.inl rfl) (OO FQ0 T.g_Weighing (hr.mono Dd) (aJ (aD 0) (aJ (aD 1) aE))))
  (aH (sP (i:=4) (gS.of (psc:=aY QB) (N:=["trial","aim","prices","weighing","parts","unit","factors","best_at"]) (xs:=["price","unit"]) (N':=["price","unit"]) (js:=[]) Kk rfl rfl rfl) NS.nd rfl rfl (BE true false rfl T.b_zip (aJ (aD 2) (aJ (gW K (aD 3)) aE))) (λ_ _ _ _=>dW) (λ_ _ _ _=>(bV FQ46 (hr.mono Dd) (aJ (aD 0) (aJ (dI (aJ aK (aJ (aD 1) aE))) aE)))))
  (aH (jQ (nJ PySem.F.plainAttrs_list PySem.F.slot_list_append PySem.F.type_list_append pB (aD 4) (aJ (dI (aJ aK (aJ (gW K (aD 3)) aE))) aE)))
  (aH (bN (i:=5) NS.nd rfl (Or.inr rfl) (bV FQ30 (hr.mono Dd) (aJ (aD 4) aE)))
  (aH (iB (i:=6) (dP.of (psc:=aY QB) (N:=["trial","aim","prices","weighing","parts","unit","factors","best_at"]) (N':=["part","unit"]) (js:=[5]) Kk rfl rfl rfl) NS.nd rfl rfl (eZ (aD 4)) (λ_ _ _ _=>dW) (λ_ _ _ _=>(bV FQ47 (hr.mono Dd) (aJ (aD 0) (aJ (aD 1) aE)))))
  (aH (bN (i:=7) NS.nd rfl (Or.inl rfl) (bP bK (bV FQ27 (hr.mono Dd) (aJ (aD 3) (aJ (jG (qG K) (aD 6) lA (kZ (YX OT aK))) (aJ (bP bK (aD 6) (YX OT aK) (λ_ _=>rfl)) aE)))) aK (λ_ _=>rfl)))
  (bD (cH (bV FQ45 (hr.mono Dd) (aJ (bV FQ34 (hr.mono Dd) (aJ (aD 0) aE)) (aJ (bV FQ42 (hr.mono Dd) (aJ (aD 3) (aJ (aD 7) aE))) aE))))))))))),?_⟩
 refine ⟨_,rfl,_,rfl,?_⟩;intro x dx hx hdx ndx;have sA:aU H (upd (upd H dx (.own x)) x (.ins c.Weighing dx [])):=(aU.upd hdx).trans (aU.upd (by rw [dC (Ne.symm ndx)];exact hx));have eA:(upd (upd H dx (.own x)) x (.ins c.Weighing dx [])) x=some (.ins c.Weighing dx []):=bO;generalize upd (upd H dx (.own x)) x (.ins c.Weighing dx [])=H1 at sA eA ⊢;refine LZ eA (rt.same sA) hF (ra.same sA) G λus cu H2 b2 wg hus cu0 cuN=>⟨rfl,?_⟩;have S2:aU H H2:=aU.thru hx sA b2;obtain ⟨ul,dx',fl,ra',ua,wa,ca,tas,kvs,a0,a1,a2,a3,a4,a5,a6,a7,a8,a9,a10,a11⟩:=id wg;refine ⟨_,rfl,_,rfl,rP O (by simp) a0 a2 ?_⟩;refine ⟨ap,ua,_,_,rfl,S2 _ _ hap,a7,AN (λi z H'=>∃p u,ps[i]?=some p/\us[i]?=some u/\cE H' (gF (jC p (1,(u:Int)))) z) (λi z Ha Hb s ⟨p,u,h1,h2,h3⟩=>⟨p,u,h1,h2,h3.flat s (cT _)⟩) Oo (S2 _ _ hap) a7 (by rw [aA];exact Oo) (λi y z H' Q' hy hz s' k'=>?_) (λD zs H3 hD e3 s3 hz3 hr3=>?_)⟩
 ·obtain ⟨p,hp,rpp⟩:=fC rvp hy;rw [aL] at hz;obtain ⟨u,hu,rfl⟩:=cU.mp hz;obtain ⟨u0,uN⟩:=hus u (aG hu);have pn:=I.pr p (aG hp);have un:=Fn.inv u0;have hi:i<W:=by have:=(aF.mp hp).1;rw [I.pl] at this;exact this
  have uz:(u:Nat)<2^4000:=bC (kC N0 (lW uN ⟨Np*Nc*Nm,by unfold lX;ac_rfl⟩)) (aN G.sz (aP Dd Dd));have zp:nG 4000 p:=by
   have:=iM I (DM I hi) (aM (show B<=1000000000000 by omega) kW)
   rwa [gJ hp] at this
  refine ⟨_,rfl,_,rfl,?_⟩;exact nZ (by show 2<=64;decide) λq4 H4 hq4 e4 s4=>oX (gU.of (((rpp.same S2).same s').same s4)) (gU.of (dJ (f:=(1,(u:Int))) e4)) pn.low un.low zp ⟨by show (1:Nat)<2^4000;exact Nat.one_lt_two_pow Dd,by show (u:Int).natAbs<2^4000;exact uz⟩ λq5 H5 hq5 e5 s5=>k' _ H5 (s4.trans s5) ⟨p,u,hp,hu,dJ e5⟩
 have lz3:zs.length=W:=Oo;refine ⟨_,rfl,LW e3,⟨_,rfl,rP O (by simp) (s3 _ _ a0) a4 ?_⟩⟩;refine nZ (by show 2<=64;decide) λq4 H4 hq4 e4 s4=>DH (s4 _ _ e3) Oo λH5 e5 b5=>?_;have t5:=b5.t (s4 _ _ e3);have S25:aU H2 H5:=aU.thru hD (s3.trans s4) b5;have S5:=S2.trans S25;have pf:∃gs:Ak,gs.length=W/\aQ H5 (gs.map gF) zs/\∀(i:Nat) (g:Fr),gs[i]?=some g->∃p u,ps[i]?=some p/\us[i]?=some u/\g=jC p (1,(u:Int)):=by
  refine ⟨(List.range W).map λi=>jC (ps.getD i (0,1)) (1,(us.getD i 0:Nat)),by rw [aA,bA],aQ.ofRange Oo λi y hy=>?_,λi g hg=>?_⟩
  ·have hi:i<W:=by have:=(aF.mp hy).1;exact Oo
   obtain ⟨p,u,h1,h2,h3⟩:=hr3 i y hy;refine ⟨hi,?_⟩;rw [gJ h1,gJ h2];exact (h3.same s4).flat t5 (cT _)
  ·rw [aL] at hg;obtain ⟨j,hj,rfl⟩:=cU.mp hg;have li:=(aF.mp hj).1;rw [bA] at li;rw [cN li] at hj;cases hj;obtain ⟨p,hp⟩:∃p,ps[i]?=some p:=⟨_,aB (by rw [I.pl];exact li)⟩;obtain ⟨u,hu⟩:∃u,us[i]?=some u:=⟨_,aB (by rw [ul];exact li)⟩;exact ⟨p,u,hp,hu,by rw [gJ hp,gJ hu]⟩
 obtain ⟨gs,lg,rg,hg⟩:=pf;have rg5:aQ H5 ((gs++[(1,(cu:Int))]).map gF) (zs++[.ref q4]):=by
  rw [bF];exact aQ.app rg (aQ.cons (dJ (f:=(1,(cu:Int))) (t5 _ _ e4)) aQ.nil)
 have gn:∀g∈gs++[(1,(cu:Int))],Fn (lX M Ns Nm Np Nc*Nb) B g\/Fn (lX M Ns Nm Np Nc*Nb) 1 g:=λg hgm=>by
  rcases cB.mp hgm with hgm | hgm
  ·obtain ⟨i,hi⟩:=cZ.mp hgm;obtain ⟨p,u,h1,h2,rfl⟩:=hg i g hi;obtain ⟨u0,uN⟩:=hus u (aG h2);refine .inl ?_;have:=(I.pr p (aG h1)).mul (Fn.inv u0);rw [Nat.mul_one] at this;refine this.dvd (lW (Nat.mul_dvd_mul_left Np uN) ⟨Nc*Nm,by unfold lX;ac_rfl⟩)
  ·rw [bJ.mp hgm];exact .inr ((Fn.inv cu0).dvd (lW cuN (Nat.dvd_mul_right _ _)))
 have gl:∀g∈gs++[(1,(cu:Int))],cY g/\g.2.natAbs ∣ lX M Ns Nm Np Nc*Nb:=λg hgm=>by
  rcases gn g hgm with h | h
  ·exact ⟨h.low,Fn.dn h N0⟩
  ·exact ⟨h.low,Fn.dn h N0⟩
 have gz:∀g∈gs++[(1,(cu:Int))],nG 4000 g:=λg hgm=>by
  rcases gn g hgm with h | h
  ·exact qV h N0 G.sz (aM (show B<=1000000000000 by omega) (aM kW (aP Dd Dd)))
  ·exact qV h N0 G.sz Nat.one_le_two_pow
 refine ⟨_,rfl,?_⟩;refine qC e5 (sM.of rg5) N0 G.sz gl λU u0 uN hU=>?_;have uz:U<2^3000:=bC (kC N0 uN) G.sz;refine ⟨_,rfl,D,rfl,⟨_,fI.of e5⟩,?_⟩;have lz5:(zs++[V.ref q4]).length=W+1:=by rw [bE,lz3];rfl
 have lg5:(gs++[((1:Int),(cu:Int))]).length=W+1:=by rw [bE,lg];rfl
 refine hV (λi z _=>∃n,z=.int n/\∀g,(gs++[((1:Int),(cu:Int))])[i]?=some g->(n:Rat)=rv g*(U:Rat)) (λ_ _ _ _ _ h=>h) Oo e5 (λi y H' Q' hy s' k'=>?_) (λD6 fz H6 hD6 e6 s6 hz6 hr6=>?_)
 ·obtain ⟨g,hgi,rgi⟩:=fC rg5 hy;have hgm:=aG hgi;refine ⟨_,rfl,_,rfl,?_⟩;exact vT (gU.of (rgi.same s')) (gl g hgm).1 (gz g hgm) uz (hU g hgm) λn hn=>k' _ H' (aU.refl _) ⟨n,rfl,λg' hg'=>by rw [hgi] at hg';cases hg';exact hn⟩
 obtain ⟨ns,rfl,hns⟩:=pE (P:=λi n=>∀g,(gs++[((1:Int),(cu:Int))])[i]?=some g->(n:Rat)=rv g*(U:Rat)) hr6;rw [aA,lz5] at hz6;obtain ⟨fns,cf,rfl⟩:∃fns cf,ns=fns++[cf]:=by
  have ne:ns≠[]:=λz=>by rw [z] at hz6;simp at hz6
  exact ⟨ns.dropLast,ns.getLast ne,(List.dropLast_concat_getLast ne).symm⟩
 have lf:fns.length=W:=by rw [bE,List.length_singleton] at hz6;exact Oo
 have hcf:(cf:Rat)=rv (1,(cu:Int))*(U:Rat):=hns W cf (by rw [cW Oo,lf,Nat.sub_self];rfl) _ (by rw [cW Oo,lg,Nat.sub_self];rfl);have cuz:cu<2^3000:=bC (kC I.pos cuN) I.sz;have hrc:rv (1,(cu:Int))*(cu:Rat)=1:=rT (Fn.inv cu0).low.pos;have FC:aB1 W ps us cu fns cf U:=by
  refine ⟨u0,lf,ul,λi f u hf hu=>?_,by rw [hcf];grind,?_,λu hu=>?_,cuz⟩
  ·have li:=(aF.mp hf).1;obtain ⟨g,hgi⟩:∃g,gs[i]?=some g:=⟨_,aB Oo⟩;obtain ⟨p,u',h1,h2,rfl⟩:=hg i g hgi;rw [hu] at h2;cases h2;obtain ⟨up,uNb⟩:=hus u (aG hu);have un:=Fn.inv up;have pn:=I.pr p (aG h1);have e:=hns i f (by rw [cO li];exact hf) _ (by rw [cO Oo];exact hgi);rw [iH pn.low.pos un.low.pos] at e;have hru:rv (1,(u:Int))*(u:Rat)=1:=rT un.low.pos;have hv:dG ps i=rv p:=by unfold dG;rw [gJ h1]
   refine ⟨by rw [e,hv];grind,?_⟩;have gm:jC p (1,(u:Int))∈gs++[((1:Int),(cu:Int))]:=bY _ (aG hgi);have e':=hns i f (by rw [cO li];exact hf) _ (by rw [cO Oo];exact hgi);have b22:B<=2^100:=aM (show B<=1048576 by omega) (show 1048576<=2^100 by decide);rcases gn _ gm with h | h
   ·exact bC (yB h.q N0 e') (QR uz b22)
   ·exact bC (yB h.q N0 e') (QR uz Nat.one_le_two_pow)
  ·exact bC (yB (Fn.inv cu0).q cu0 hcf) (QR uz Nat.one_le_two_pow)
  ·exact bC (kC N0 (lW (hus u hu).2 ⟨Np*Nc*Nm,by unfold lX;ac_rfl⟩)) G.sz
 have S6:=S5.trans s6;have wg6:=(wg.same S25).same s6;refine ⟨_,rfl,_,rfl,⟨_,rfl,_,rfl,?_⟩⟩;refine slL (ys:=fns.map V.int) e6 (by rw [bF];exact SM _ _) λq7 H7 hq7 e7 s7=>⟨_,rfl,_,rfl,?_⟩;refine FR (s7 _ _ e6) (v:=.int cf) (by rw [bF];exact TL _ _) (HL (wg6.same s7) e7 I FC r4 λa8 bp z8 kb best H8 s8 e8 ebp hbs hbst=>?_);refine jS e8 rfl ?_;have S8:=(S6.trans s7).trans s8;refine ⟨_,rfl,tH (rt.same S8) ?_⟩;rw [hF];refine ⟨_,rfl,_,rfl,?_⟩;refine EM ((wg6.same s7).same s8) ebp hbs w4 r4 λd H9 s9 tb=>?_;have dec:∀c,c∈rise F M->(if c∈rise F M then best c else 1)=best c:=λc hc=>if_pos hc;have tb':OC K H9 d (rise F M) W (λc=>if c∈rise F M then best c else 1):=by
  obtain ⟨kv,t1,t2⟩:=tb;exact ⟨kv,t1,λc hc=>by obtain ⟨v,g1,g2⟩:=t2 c hc;exact ⟨v,g1,by show NX K H9 (rE W (if c∈rise F M then best c else 1)) v;rw [dec c hc];exact g2⟩⟩
 have PL:sL F W M (λc=>if c∈rise F M then best c else 1):=⟨f1,f4,w4,m5,(λc hc=>by
  by_cases q:c∈rise F M
  ·have hc:(if c∈rise F M then best c else 1)=0:=hc;rw [if_pos q] at hc;rcases hbst c q with ⟨_,h,_⟩ | ⟨v,_,h,_⟩
   ·exact h
   ·omega
  ·have hc:(if c∈rise F M then best c else 1)=0:=hc;rw [if_neg q] at hc;cases hc),r4⟩
 refine HC tb' PL λv H10 s10 rw10=>?_;exact k v _ H10 ((S8.trans s9).trans s10) rw10 PL λc hc=>by show GT F W M (eT ws) mix ps cs c (if c∈rise F M then best c else 1);rw [dec c hc];exact hbst c hc
end
structure SyC(n:Nat)(fs:Ak):Prop where
 len:fs.length=n
 at_:∀f∈fs,Fn iF 1 f/\0<=f.1
 one:oW (fs.map rv)=1
structure rZ(F W M:Nat)(es:List fV):Prop where
 rl:zH F es
 sum:∀e∈es,e.1.sum<=M
 sy:∀e∈es,SyC (1+W) e.2
 few:es.length<=64
 on:∀e∈es,s0 e≠0->e.1.sum<M
def SyC.hd{n:Nat}{fs:Ak}(h:SyC (1+n) fs):∃f r,fs=f::r/\Fn iF 1 f/\0<=f.1/\dG fs 0=rv f/\(0<f.1↔dG fs 0≠0):=by
 cases fs with
 | nil=>have:=h.len;simp at this;exact Oo
 | cons f r =>
  obtain ⟨h1,h2⟩:=h.at_ f (aS ..);refine ⟨f,r,rfl,h1,h2,rfl,?_⟩;have e:dG (f::r) 0=rv f:=rfl;rw [e];constructor
  ·intro hp q;have:=iS h1.low XD (by rw [q,nM]);rw [this] at hp;exact absurd hp Dd
  ·intro q;refine bM λz=>q ?_;have z1:f.1=0:=Oo;have e2:=rT h1.low.pos;rw [z1] at e2;have h3:=kM h1.low.pos;have:rv f=0:=by grind
   exact this
def SyC.qn{n:Nat}{fs:Ak}(h:SyC n fs)(v:Nat):Qn iF 1 (dG fs v):=by
 by_cases hv:v<fs.length
 ·exact (h.at_ _ (eV (a:=(0,1)) hv)).1.q
 ·rw [UQ Oo];exact Qn.zero _ _
def IK:5^64<=2^150:=Kk
def aCr:iF^15<2^350:=Kk
def VA(n:Nat):0<iF^n:=Nat.pow_pos Dd
abbrev qT(Np Nc:Nat):Nat:=Np*Nc*iF^15
structure TX(Np Nc:Nat):Prop where
 p0:0<Np
 p1:Np<=1000000000000000
 c0:0<Nc
 c1:Nc<=1000000000000000
def TX.big{Np Nc:Nat}(h:TX Np Nc):0<qT Np Nc/\qT Np Nc<2^500:=by
 refine ⟨nH (nH h.p0 h.c0) (VA _),?_⟩;have h1:qT Np Nc<=1000000000000000*1000000000000000*iF^15:=bS _ (Nat.mul_le_mul h.p1 h.c1);have h2:1000000000000000*1000000000000000*iF^15<2^500:=Kk;exact Oo
def zW{Np Nc N B:Nat}{x:Rat}(h:Qn N B x)(d:N ∣ qT Np Nc):Qn (qT Np Nc) B x:=h.dvd d
def lO{Np Nc B:Nat}{f:Fr}(ok:TX Np Nc)(h:Fn (qT Np Nc) B f)(hB:B<=2^400):nG 4000 f :=
 qV h ok.big.1 (aN ok.big.2 (aP Dd Dd)) (aM hB (aP Dd Dd))
def d46{Np Nc a:Nat}(h:a<=15):iF^a ∣ qT Np Nc:=lW (Nat.pow_dvd_pow _ h) (Nat.dvd_mul_left _ _)
def XO{Np Nc a:Nat}(h:a<=15):Nc*iF^a ∣ qT Np Nc:=by
 obtain ⟨r,hr⟩:=Nat.pow_dvd_pow iF h;exact ⟨Np*r,by unfold qT;rw [hr];ac_rfl⟩
def sG{n:Nat}(h:n<=400):(2:Nat)^n<=2^400:=aP Dd h
section
variable{F W M:Nat}{es:List fV}
def rZ.fl(R:rZ F W M es)(f4:F<=4){e:fV}(h:e∈es):Qn (iF^M) (2^150) (cC F es e.1):=by
 have h1:=R.rl.qn (N:=iF) (λe he=>(R.sy e he).qn 0) f4 es.length (aI _) e.1;rw [cP] at h1;have h2:5^es.length<=5^64:=aP Dd R.few;exact (h1.le (aM h2 IK)).dvd (Nat.pow_dvd_pow _ (R.sum e h))
end
structure DQ(K:Aa)(H:Hp)(kvs:List (List fE × V))(g:Ae->Rat):Prop where
 at_:∀d:Ae,(fQ kvs (kT (ci d))=none/\g d=0)\/∃v,fQ kvs (kT (ci d))=some v/\zJ K H (iI (g d)) v
def yE:iI 0=(0,1):=iS (cF _) XD (by rw [eW,nM])
def KJ:iI 1=(1,1):=iS (cF _) RP (by rw [eW,sD])
theorem DQ.t{K:Aa}{H H':Hp}{kvs:List (List fE × V)}{g:Ae->Rat}(s:dA H H')(h:DQ K H kvs g):DQ K H' kvs g:=⟨λd=>by
 rcases h.at_ d with h | ⟨v,h1,h2⟩
 ·exact .inl h
 ·exact .inr ⟨v,h1,h2.t s⟩⟩
def DQ.eq{K:Aa}{H:Hp}{kvs:List (List fE × V)}{g g':Ae->Rat}(h:DQ K H kvs g)(e:∀d,g' d=g d):DQ K H kvs g':=by
 have:g'=g:=funext e;rw [this];exact h
def DQ.get{K:Aa}{H:Hp}{kvs:List (List fE × V)}{g:Ae->Rat}(h:DQ K H kvs g)(d:Ae){z:V}(hz:gU K H (0,1) z):gU K H (iI (g d)) ((fQ kvs (kT (ci d))).getD z):=by
 rcases h.at_ d with ⟨h1,h2⟩ | ⟨v,h1,h2⟩
 ·rw [h1,h2,yE];exact hz
 ·rw [h1];exact h2.v
def DQ.val{K:Aa}{H:Hp}{kvs:List (List fE × V)}{g:Ae->Rat}(h:DQ K H kvs g){d:Ae}(hd:g d≠0):∃v,fQ kvs (kT (ci d))=some v/\zJ K H (iI (g d)) v:=by
 rcases h.at_ d with ⟨_,h2⟩ | h
 ·exact absurd h2 hd
 ·exact h
def DQ.put{K:Aa}{H:Hp}{kvs:List (List fE × V)}{g:Ae->Rat}(h:DQ K H kvs g){c:Ae}{v:V}{y:Rat}(r:zJ K H (iI (g c+y)) v):DQ K H (iX kvs (kT (ci c)) v) λd=>g d+if c=d then y else 0:=⟨λd=>by
 rw [iG];by_cases e:c=d
 ·subst e;rw [if_pos rfl,if_pos rfl];exact .inr ⟨v,rfl,r⟩
 ·rw [if_neg λq=>e (kU (nB q)).symm,if_neg e,show g d+0=g d by grind];exact h.at_ d⟩
section
variable{F W M:Nat}{es:List fV}{s:Ak}
def rZ.aq(R:rZ F W M es)(f4:F<=4)(hs:∀f∈s,Fn iF 1 f){e:fV}(h:e∈es):Qn (iF^(M+M)) (2^150) (cC F es e.1*wq s e.1):=by
 have h1:=(R.fl f4 h).mul (OH (M:=M) hs (R.sum e h));rw [Nat.mul_one,<-Nat.pow_add] at h1;exact h1
def rZ.aqs(R:rZ F W M es)(f4:F<=4)(hs:∀f∈s,Fn iF 1 f){e:fV}(h:e∈es)(v:Nat):Qn (iF^(M+M+1)) (2^150) (cC F es e.1*wq s e.1*dG e.2 v):=by
 have h1:=(R.aq f4 hs h).mul ((R.sy e h).qn v);rw [Nat.mul_one,<-Nat.pow_succ] at h1;exact h1
theorem Qn.sumL{α:Type}{N B:Nat}{f:α->Rat}:∀{l:List α},(∀a∈l,Qn N B (f a))->Qn N (l.length*B) (dY l f)
 | [],_=>by rw [jH];exact Qn.zero _ _
 | a::l,h=>by
  rw [gE,bT,Nat.add_mul,Nat.one_mul,Nat.add_comm];exact (h a (aS ..)).add (Qn.sumL λx hx=>h x (aT _ hx))
def rZ.said(R:rZ F W M es)(f4:F<=4)(hs:∀f∈s,Fn iF 1 f)(w:Nat):Qn (iF^(M+M+1)) (2^160) (kL F es (wq s) w):=by
 have h:=Qn.sumL (l:=es) λe he=>R.aqs f4 hs he (1+w);refine h.le ?_;have h1:es.length*2^150<=64*2^150:=bS _ R.few;exact aM h1 Kk
def rZ.spent(R:rZ F W M es)(f4:F<=4)(hs:∀f∈s,Fn iF 1 f){cs:Nat->Rat}{Nc:Nat}(hc:∀e∈es,s0 e≠0->Qn Nc 1000 (cs e.1.sum)):Qn (Nc*iF^(M+M+1)) (2^170) (xD F es (wq s) cs):=by
 have h:=Qn.sumL (l:=es) (N:=Nc*iF^(M+M+1)) (B:=1000*2^150) (f:=λe=>cs e.1.sum*(cC F es e.1*wq s e.1*s0 e)) λe he=>by
  by_cases z:s0 e=0
  ·rw [z,show cs e.1.sum*(cC F es e.1*wq s e.1*0)=0 by grind];exact Qn.zero _ _
  ·exact (hc e he z).mul (R.aqs f4 hs he 0)
 refine h.le ?_;have h1:es.length*(1000*2^150)<=64*(1000*2^150):=bS _ R.few;exact aM h1 Kk
end
def aAh{α:Type}{l:List α}{g:α->Fr}{f:α->Rat}(h:∀a∈l,cY (g a)/\rv (g a)=f a):lD (l.map g)=iI (dY l f):=by
 have hl:∀x∈l.map g,cY x:=λx hx=>by
  obtain ⟨a,ha,rfl⟩:=aX.mp hx;exact (h a ha).1
 refine iS (sT _ hl) (cF _) ?_;rw [BW _ hl,eW,List.map_map];exact congrArg oW (eI λa ha=>(h a ha).2)
def DL(x y:Rat):qS (iI x) (iI y)=iI (x+y):=iS (yN (cF _) (cF _)) (cF _) (by rw [BX (cF _).pos (cF _).pos,eW,eW,eW])
def aAk(x y:Rat):qS (iI x) (IA (iI y))=iI (x-y):=iS (yN (cF _) (FF (cF _))) (cF _) (by
 rw [BX (cF _).pos (FF (cF _)).pos,show IA (iI y)=(-(iI y).1,(iI y).2) from rfl,aAT,eW,eW,eW,Rat.sub_eq_add_neg])
structure CoC(Nc:Nat)(es:List fV)(cs:Ak):Prop where
 c0:0<Nc
 c1:Nc<=1000000000000000
 at_:∀f∈cs,Fn Nc 1000 f
 len:∀e∈es,s0 e≠0->e.1.sum<cs.length
def CoC.qn{Nc:Nat}{es:List fV}{cs:Ak}(h:CoC Nc es cs){e:fV}(he:e∈es)(hs:s0 e≠0):Qn Nc 1000 (dG cs e.1.sum):=(h.at_ _ (eV (a:=(0,1)) (h.len e he hs))).q
structure NW(W:Nat)(ws:List (Str × Ak)):Prop where
 w:ws.length=W
 sh:∀x∈ws,∀f∈x.2,Fn iF 1 f
 b:∀x∈ws,BOk 10 x.2
def pA{ws:List (Str × Ak)}{i:Nat}{x:Str × Ak}(h:ws[i]?=some x):dM (eT ws) i=wq x.2:=by
 funext c
 unfold dM;rw [gJ (show (eT ws)[i]?=some x.2 by rw [aL,h];rfl)]
def OF(F W:Nat)(es:List fV)(ss:Aj)(w:Nat):Fr:=iI (1-kL F es (dM ss w) w)
structure DT(Nc W M:Nat)(es:List fV)(mix cs:Ak):Prop where
 ml:mix.length=W
 mx:∀f∈mix,Fn iF 1 f
 co:CoC Nc es cs
section
variable{F W M Nc:Nat}{es:List fV}{fs:Ah}{ws:List (Str × Ak)}{mix cs:Ak}
def rZ.wr(R:rZ F W M es)(f4:F<=4)(T:NW W ws){w:Nat}(hw:w<W):Qn (iF^(M+M+1)) (2^161) (1-kL F es (dM (eT ws) w) w):=by
 obtain ⟨x,hx⟩:∃x,ws[w]?=some x:=⟨_,aB (by rw [T.w];exact hw)⟩;rw [pA hx];have h:=(Qn.one' (iF^(M+M+1))).sub (R.said f4 (T.sh x (aG hx)) w);exact h.le Kk
def rZ.ms(R:rZ F W M es)(f4:F<=4)(T:NW W ws)(A:DT Nc W M es mix cs){w:Nat}(hw:w<W):Qn (Nc*iF^(M+M+2)) (2^170) (dG mix w*xD F es (dM (eT ws) w) (dG cs)):=by
 obtain ⟨x,hx⟩:∃x,ws[w]?=some x:=⟨_,aB (by rw [T.w];exact hw)⟩;rw [pA hx];have h:=(A.mx _ (eV (a:=(0,1)) (show w<mix.length by rw [A.ml];exact hw))).q.mul (R.spent f4 (T.sh x (aG hx)) λe he hs=>A.co.qn he hs);rw [Nat.one_mul] at h;exact h.dvd ⟨1,by rw [Nat.mul_one,Nat.pow_succ (n:=iF) (m:=M+M+1)];ac_rfl⟩
def rZ.costn(R:rZ F W M es)(f4:F<=4)(w4:W<=4)(T:NW W ws)(A:DT Nc W M es mix cs):Qn (Nc*iF^(M+M+2)) (2^172) (rX F W es (dM (eT ws)) (dG mix) (dG cs)):=by
 have h:=Qn.sumR (n:=W) λw hw=>R.ms f4 T A hw;refine h.le ?_;have h1:W*2^170<=4*2^170:=bS _ w4;exact aM h1 Kk
end
end Kw
namespace Mf
def MX(x y:Rat):Rat:=if x<=y then x else y
def IC{t x y:Rat}(h:t<=x)(h':t<=y):t<=MX x y:=by unfold MX;split <;> assumption
def FH(x y:Rat):MX x y<=x:=by unfold MX;split <;> grind
def FG(x y:Rat):MX x y<=y:=by unfold MX;split <;> grind
structure Tw where
 (a0 b0 a1 b1 p0 p1 m0 m1:Rat) (cs:Nat->Rat)
structure Tw.Ok(X:Tw):Prop where
 a0:0<=X.a0
 b0:0<=X.b0
 a1:0<=X.a1
 b1:0<=X.b1
 p0:0<=X.p0
 p1:0<=X.p1
 m0:0<=X.m0
 m1:0<=X.m1
 cs:∀k,0<=X.cs k
def Tw.stop(X:Tw)(u v:Rat):Rat:=MX (X.p1*v) (X.p0*u)
mutual
def Tw.V(X:Tw):Nat->Nat->Rat->Rat->Rat
 | 0,_,u,v=>X.stop u v
 | n+1,k,u,v=>MX (X.stop u v) (X.cs k*(X.m0*u+X.m1*v)+(X.V n (k+1) (u*X.a0) (v*X.a1)+X.V n (k+1) (u*X.b0) (v*X.b1)))
end
def Tw.on(X:Tw)(n k:Nat)(u v:Rat):Rat:=X.cs k*(X.m0*u+X.m1*v)+(X.V n (k+1) (u*X.a0) (v*X.a1)+X.V n (k+1) (u*X.b0) (v*X.b1))
def Tw.V_succ(X:Tw)(n k:Nat)(u v:Rat):X.V (n+1) k u v=MX (X.stop u v) (X.on n k u v):=rfl
def aCP(x y:Rat):(if y<x then y else x)=MX x y:=by
 unfold MX;by_cases h:x<=y
 ·rw [if_pos h,if_neg (by grind)]
 ·rw [if_neg h,if_pos (by grind)]
section
variable{X:Tw}
def mulp{a b c:Rat}(h:a<=b)(hc:0<=c):c*a<=c*b:=Rat.mul_le_mul_of_nonneg_left h hc
def Tw.Ok.V_le(O:X.Ok){l:Rat}(hl:0<=l):∀(n k:Nat) {u v x y:Rat},0<=x->0<=y->l*X.V n k u v<=X.V n k (l*u+x) (l*v+y):=by
 have st:∀{u v x y:Rat},0<=x->0<=y->l*X.stop u v<=X.stop (l*u+x) (l*v+y):=λ{u v x y} hx hy=>by
  unfold Tw.stop;have h1:=mulp (FH (X.p1*v) (X.p0*u)) hl;have h2:=mulp (FG (X.p1*v) (X.p0*u)) hl;have h3:=bG O.p1 hy;have h4:=bG O.p0 hx;exact IC (by grind) (by grind)
 intro n
 induction n with
 | zero=>intro k u v x y hx hy;exact st hx hy
 | succ n ih =>
  intro k u v x y hx hy;unfold Tw.V;refine IC (Rat.le_trans (mulp (FH _ _) hl) (st hx hy)) (Rat.le_trans (mulp (FG _ _) hl) ?_);have h1:=ih (k+1) (u:=u*X.a0) (v:=v*X.a1) (bG hx O.a0) (bG hy O.a1);have h2:=ih (k+1) (u:=u*X.b0) (v:=v*X.b1) (bG hx O.b0) (bG hy O.b1);have e1:l*(u*X.a0)+x*X.a0=(l*u+x)*X.a0:=by grind
  have e2:l*(v*X.a1)+y*X.a1=(l*v+y)*X.a1:=by grind
  have e3:l*(u*X.b0)+x*X.b0=(l*u+x)*X.b0:=by grind
  have e4:l*(v*X.b1)+y*X.b1=(l*v+y)*X.b1:=by grind
  rw [e1,e2] at h1;rw [e3,e4] at h2;have h3:=bG (O.cs k) (bG O.m0 hx);have h4:=bG (O.cs k) (bG O.m1 hy);grind
def Tw.Ok.on_le(O:X.Ok){l:Rat}(hl:0<=l)(n k:Nat){u v x y:Rat}(hx:0<=x)(hy:0<=y):l*X.on n k u v<=X.on n k (l*u+x) (l*v+y):=by
 unfold Tw.on;have h1:=O.V_le hl n (k+1) (u:=u*X.a0) (v:=v*X.a1) (bG hx O.a0) (bG hy O.a1);have h2:=O.V_le hl n (k+1) (u:=u*X.b0) (v:=v*X.b1) (bG hx O.b0) (bG hy O.b1);have e1:l*(u*X.a0)+x*X.a0=(l*u+x)*X.a0:=by grind
 have e2:l*(v*X.a1)+y*X.a1=(l*v+y)*X.a1:=by grind
 have e3:l*(u*X.b0)+x*X.b0=(l*u+x)*X.b0:=by grind
 have e4:l*(v*X.b1)+y*X.b1=(l*v+y)*X.b1:=by grind
 rw [e1,e2] at h1;rw [e3,e4] at h2;have h3:=bG (O.cs k) (bG O.m0 hx);have h4:=bG (O.cs k) (bG O.m1 hy);grind
def Tw.Ok.on_nn(O:X.Ok)(n k:Nat){u v:Rat}(hu:0<=u)(hv:0<=v):0<=X.on n k u v:=by
 have h:=O.on_le (l:=0) (Rat.le_refl) n k (u:=0) (v:=0) hu hv;have e1:(0:Rat)*0+u=u:=by grind
 have e2:(0:Rat)*0+v=v:=by grind
 rw [e1,e2] at h;grind
def Tw.Ok.V_nn(O:X.Ok)(n k:Nat){u v:Rat}(hu:0<=u)(hv:0<=v):0<=X.V n k u v:=by
 have h:=O.V_le (l:=0) (Rat.le_refl) n k (u:=0) (v:=0) hu hv;have e1:(0:Rat)*0+u=u:=by grind
 have e2:(0:Rat)*0+v=v:=by grind
 rw [e1,e2] at h;grind
def Tw.Ok.still(O:X.Ok)(h:(X.a0=1/\X.a1=1)\/(X.b0=1/\X.b1=1)):∀(n k:Nat) {u v:Rat},0<=u->0<=v->X.stop u v<=X.V n k u v/\X.stop u v<=X.on n k u v:=by
 have up:∀(n:Nat),(∀(k:Nat) {u v:Rat},0<=u->0<=v->X.stop u v<=X.V n k u v)->∀(k:Nat) {u v:Rat},0<=u->0<=v->X.stop u v<=X.on n k u v:=λn ih k {u v} hu hv=>by
  unfold Tw.on;have h3:=bG (O.cs k) (Rat.add_nonneg (bG O.m0 hu) (bG O.m1 hv));have h4:=O.V_nn n (k+1) (bG hu O.a0) (bG hv O.a1);have h5:=O.V_nn n (k+1) (bG hu O.b0) (bG hv O.b1);have h6:=ih (k+1) hu hv;rcases h with ⟨e1,e2⟩ | ⟨e1,e2⟩
  ·rw [e1,e2,Rat.mul_one,Rat.mul_one] at h4 ⊢;grind
  ·rw [e1,e2,Rat.mul_one,Rat.mul_one] at h5 ⊢;grind
 have all:∀(n k:Nat) {u v:Rat},0<=u->0<=v->X.stop u v<=X.V n k u v:=by
  intro n
  induction n with
  | zero=>intro k u v _ _;exact Rat.le_refl
  | succ n ih =>
   intro k u v hu hv;unfold Tw.V;exact IC Rat.le_refl (up n ih k hu hv)
 exact λn k u v hu hv=>⟨all n k hu hv,up n (all n) k hu hv⟩
def PM{u v u' v':Rat}(hu:0<=u)(hv:0<v)(hv':0<=v')(h:v' * u<=v*u'):∃l x,0<=l/\0<=x/\u'=l*u+x/\v'=l*v:=by
 have e:v*v⁻¹=1:=Rat.mul_inv_cancel _ (by grind);have hi:0<=v⁻¹:=Rat.le_of_lt (Rat.inv_pos.mpr hv);refine ⟨v' * v⁻¹,u' - v' * v⁻¹*u,bG hv' hi,?_,by grind,by grind⟩;have:=mulp h hi;have e2:v⁻¹*(v*u')=u':=by grind
 rw [e2] at this;have e3:v⁻¹*(v' * u)=v' * v⁻¹*u:=by grind
 rw [e3] at this;grind
def Tw.Ok.low(O:X.Ok){n k:Nat}{u v u' v':Rat}(hu:0<=u)(hv:0<=v)(hu':0<=u')(hv':0<=v')(ne:u≠0\/v≠0)(h:v' * u<=v*u') :
  (X.p1*v<=X.p0*u->X.p1*v'<=X.p0*u')/\(X.p1*v<=X.p0*u->X.p1*v<=X.on n k u v->X.p1*v'<=X.on n k u' v'):=by
 have on':=O.on_nn n k hu' hv';have p0u:=bG O.p0 hu';by_cases zv:v=0
 ·subst zv;have hup:0<u:=by grind
  have:v'=0:=by
   have h1:v' * u<=0:=by grind
   have h2:=bG hv' hu;have h3:v' * u=0:=by grind
   rcases Rat.mul_eq_zero.mp h3 with h4 | h4
   ·exact h4
   ·grind
  subst this;rw [Rat.mul_zero];exact ⟨λ_=>p0u,λ_ _=>on'⟩
 ·have hvp:0<v:=by grind
  obtain ⟨l,x,hl,hx,rfl,rfl⟩:=PM hu hvp hv' h;refine ⟨λq=>?_,λ_ q=>?_⟩
  ·have h1:=mulp q hl;have h2:=bG O.p0 hx;grind
  ·have h1:=O.on_le hl n k (u:=u) (v:=v) hx (y:=0) Rat.le_refl;have h2:=mulp q hl;rw [Rat.add_zero] at h1;grind
def Tw.Ok.high(O:X.Ok){n k:Nat}{u v u' v':Rat}(hu:0<=u)(hv:0<=v)(hu':0<=u')(hv':0<=v')(ne:u' ≠ 0\/v' ≠ 0)(h:v*u'<=v' * u)(q:X.p0*u<X.p1*v) :
  X.p0*u' < X.p1*v'/\(X.p0*u<=X.on n k u v->X.p0*u'<=X.on n k u' v'):=by
 have on':=O.on_nn n k hu' hv';have p0u:=bG O.p0 hu;have hvp:0<v:=by
  refine bM λz=>?_;have:v=0:=by grind
  subst this;grind
 have hp1:0<X.p1:=by
  have:=O.p1;refine bM λz=>?_;have:X.p1=0:=by grind
  rw [this] at q;grind
 have hvp':0<v':=by
  refine bM λz=>?_;have z:v'=0:=by grind
  subst z;have h1:=bG hv hu';have h3:v*u'=0:=by grind
  rcases Rat.mul_eq_zero.mp h3 with h4 | h4
  ·grind
  ·grind
 by_cases zu:u=0
 ·subst zu;have h1:=bG hv hu';have h3:v*u'=0:=by grind
  have:u'=0:=by
   rcases Rat.mul_eq_zero.mp h3 with h4 | h4
   ·grind
   ·exact h4
  subst this;rw [Rat.mul_zero];exact ⟨Rat.mul_pos hp1 hvp',λ_=>on'⟩
 ·have hup:0<u:=by grind
  obtain ⟨l,x,hl,hx,rfl,rfl⟩:=PM (u:=v) (v:=u) (u':=v') (v':=u') hv hup hu' (by grind);refine ⟨?_,λq=>?_⟩
  ·have h2:=bG O.p1 hx;by_cases zl:l=0
   ·subst zl;have:0<x:=by grind
    have:=Rat.mul_pos hp1 this;grind
   ·have h1:=Rat.mul_lt_mul_of_pos_left q (show 0<l by grind);grind
  ·have h1:=O.on_le hl n k (u:=u) (v:=v) (x:=0) Rat.le_refl hx;have h2:=mulp q hl;rw [Rat.add_zero] at h1;grind
end
end Mf
namespace Kw
open PySem L2 Mf
def oE(f:Nat->Rat):cM 2 f=f 0+f 1:=by
 show cM (0+1+1) f=_;rw [eE,eE,gZ];grind
def tP(d:Nat->Rat):iY (jM 2 d)=MX (d 1) (d 0):=by
 have e:jM 2 d=[cM 2 d-d 0,cM 2 d-d 1]:=rfl;have e1:d 0+d 1-d 0=d 1:=by grind
 have e2:d 0+d 1-d 1=d 0:=by grind
 rw [e,oE,e1,e2];rfl
structure yU(ss:Aj)(a0 b0 a1 b1:Fr):Prop where
 e:ss=[[a0,b0],[a1,b1]]
 l:∀f∈[a0,b0,a1,b1],cY f/\0<=f.1
 s0:rv a0+rv b0=1
 s1:rv a1+rv b1=1
 le:rv b0<=rv b1
def twX(a0 b0 a1 b1:Fr)(mix ps cs:Ak):Tw:=⟨rv a0,rv b0,rv a1,rv b1,dG ps 0,dG ps 1,dG mix 0,dG mix 1,dG cs⟩
section
variable{ss:Aj}{a0 b0 a1 b1:Fr}{mix ps cs:Ak}{M:Nat}{best:Ae->Nat}
def OG{a b:Fr}(ha:cY a)(hb:cY b)(x y:Nat):wq [a,b] [x,y]=rv a^x*rv b^y:=by
 rw [wJ λf hf=>by
  simp only [aZ,List.not_mem_nil,or_false] at hf;rcases hf with rfl | rfl <;> assumption]
 show rv a^x*(rv b^y*1)=_;rw [Rat.mul_one]
def yU.q0(S:yU ss a0 b0 a1 b1)(x y:Nat):dM ss 0 [x,y]=rv a0^x*rv b0^y:=by
 rw [S.e];exact OG (S.l _ (by simp)).1 (S.l _ (by simp)).1 x y
def yU.q1(S:yU ss a0 b0 a1 b1)(x y:Nat):dM ss 1 [x,y]=rv a1^x*rv b1^y:=by
 rw [S.e];exact OG (S.l _ (by simp)).1 (S.l _ (by simp)).1 x y
def yU.nn(S:yU ss a0 b0 a1 b1):0<=rv a0/\0<=rv b0/\0<=rv a1/\0<=rv b1:=by
 have h:=λf hf=>ZI (S.l f hf).1 (S.l f hf).2;exact ⟨h _ (by simp),h _ (by simp),h _ (by simp),h _ (by simp)⟩
def yU.qn(S:yU ss a0 b0 a1 b1)(x y:Nat):0<=dM ss 0 [x,y]/\0<=dM ss 1 [x,y]:=by
 obtain ⟨h1,h2,h3,h4⟩:=S.nn;rw [S.q0,S.q1];exact ⟨bG (Rat.pow_nonneg h1) (Rat.pow_nonneg h2),bG (Rat.pow_nonneg h3) (Rat.pow_nonneg h4)⟩
theorem yU.wor(S:yU ss a0 b0 a1 b1):∀(n x y:Nat),EC 2 2 (dM ss) (dG mix) (dG ps) (dG cs) n [x,y]=(twX a0 b0 a1 b1 mix ps cs).V n (x+y) (dM ss 0 [x,y]) (dM ss 1 [x,y])
 | 0,x,y=>by
  show iY (jM 2 _)=_;rw [tP];rfl
 | n+1,x,y=>by
  rw [uL,vD (BU Dd _),tP,oE,oE];have e1:=yU.wor S n (x+1) y;have e2:=yU.wor S n x (y+1);have f0:dM ss 0 [x+1,y]=dM ss 0 [x,y]*rv a0:=by rw [S.q0,S.q0,Rat.pow_succ];grind
  have f1:dM ss 1 [x+1,y]=dM ss 1 [x,y]*rv a1:=by rw [S.q1,S.q1,Rat.pow_succ];grind
  have g0:dM ss 0 [x,y+1]=dM ss 0 [x,y]*rv b0:=by rw [S.q0,S.q0,Rat.pow_succ];grind
  have g1:dM ss 1 [x,y+1]=dM ss 1 [x,y]*rv b1:=by rw [S.q1,S.q1,Rat.pow_succ];grind
  rw [f0,f1,show x+1+y=x+y+1 by omega] at e1;rw [g0,g1,show x+(y+1)=x+y+1 by omega] at e2;rw [show bQ [x,y] 0=[x+1,y] from rfl,show bQ [x,y] 1=[x,y+1] from rfl,e1,e2,show [x,y].sum=x+y by simp];rw [Tw.V_succ,aCP];rfl
theorem yU.on(S:yU ss a0 b0 a1 b1){x y:Nat}(h:x+y<M):GR 2 2 M ss mix ps cs [x,y]=(twX a0 b0 a1 b1 mix ps cs).on (M-(x+y)-1) (x+y) (dM ss 0 [x,y]) (dM ss 1 [x,y]):=by
 unfold GR GS;rw [oE,oE];have f0:dM ss 0 [x+1,y]=dM ss 0 [x,y]*rv a0:=by rw [S.q0,S.q0,Rat.pow_succ];grind
 have f1:dM ss 1 [x+1,y]=dM ss 1 [x,y]*rv a1:=by rw [S.q1,S.q1,Rat.pow_succ];grind
 have g0:dM ss 0 [x,y+1]=dM ss 0 [x,y]*rv b0:=by rw [S.q0,S.q0,Rat.pow_succ];grind
 have g1:dM ss 1 [x,y+1]=dM ss 1 [x,y]*rv b1:=by rw [S.q1,S.q1,Rat.pow_succ];grind
 have e1:=S.wor (mix:=mix) (ps:=ps) (cs:=cs) (M-(x+y)-1) (x+1) y;have e2:=S.wor (mix:=mix) (ps:=ps) (cs:=cs) (M-(x+y)-1) x (y+1);rw [f0,f1,show x+1+y=x+y+1 by omega] at e1;rw [g0,g1,show x+(y+1)=x+y+1 by omega] at e2;rw [show bQ [x,y] 0=[x+1,y] from rfl,show bQ [x,y] 1=[x,y+1] from rfl,show [x,y].sum=x+y by simp];unfold Mf.wor;rw [show [x+1,y].sum=x+y+1 by simp;omega,show [x,y+1].sum=x+y+1 by simp;omega,show M-(x+y+1)=M-(x+y)-1 by omega,e1,e2]
 rfl
theorem xN(a:Rat)(m:Nat):∀n:Nat,a^(m+n)=a^m*a^n
 | 0=>by rw [Nat.add_zero,Rat.pow_zero,Rat.mul_one]
 | n+1=>by rw [<-Nat.add_assoc,Rat.pow_succ,xN a m n,Rat.pow_succ,Rat.mul_assoc]
theorem QQ{a b:Rat}(ha:0<=a)(h:a<=b):∀n:Nat,a^n<=b^n
 | 0=>by rw [Rat.pow_zero,Rat.pow_zero];exact Rat.le_refl
 | n+1=>by
  rw [Rat.pow_succ,Rat.pow_succ];have h1:=QQ ha h n;have h2:=Rat.mul_le_mul_of_nonneg_right h1 ha;have h3:=Rat.mul_le_mul_of_nonneg_left h (Rat.pow_nonneg (n:=n) (Rat.le_trans ha h));grind
def yU.up(S:yU ss a0 b0 a1 b1){x y x' y':Nat}(hs:x+y=x' + y')(hy:y<=y'):dM ss 1 [x,y]*dM ss 0 [x',y']<=dM ss 1 [x',y']*dM ss 0 [x,y]:=by
 obtain ⟨n0,m0,n1,m1⟩:=S.nn;obtain ⟨d,rfl⟩:∃d,x=x' + d:=⟨x-x',Oo⟩;obtain rfl:y'=y+d:=Oo;rw [S.q0,S.q0,S.q1,S.q1,xN,xN,xN,xN];have hle:=S.le;have h0:=S.s0;have h1:=S.s1;have k1:=QQ n1 (show rv a1<=rv a0 by grind) d;have k2:=QQ m0 hle d;have p1:=Rat.pow_nonneg (n:=d) m0;have p2:=Rat.pow_nonneg (n:=d) n0;have k3:=Rat.mul_le_mul_of_nonneg_right k1 p1;have k4:=Rat.mul_le_mul_of_nonneg_left k2 p2;have k5:rv a1^d*rv b0^d<=rv a0^d*rv b1^d:=Rat.le_trans k3 k4;have p:0<=(rv a1^x' * rv b1^y)*(rv a0^x' * rv b0^y):=bG (bG (Rat.pow_nonneg n1) (Rat.pow_nonneg m1)) (bG (Rat.pow_nonneg n0) (Rat.pow_nonneg m0));have k6:=Rat.mul_le_mul_of_nonneg_left k5 p;have e1:rv a1^x' * rv a1^d*rv b1^y*(rv a0^x' * (rv b0^y*rv b0^d))=(rv a1^x' * rv b1^y)*(rv a0^x' * rv b0^y)*(rv a1^d*rv b0^d):=by grind
 have e2:rv a1^x' * (rv b1^y*rv b1^d)*(rv a0^x' * rv a0^d*rv b0^y)=(rv a1^x' * rv b1^y)*(rv a0^x' * rv b0^y)*(rv a0^d*rv b1^d):=by grind
 rw [e1,e2];exact k6
def LU(b:Nat):Int:=if b=0 then 1 else if b=1 then 0 else 2
def yU.words(S:yU ss a0 b0 a1 b1)(O:(twX a0 b0 a1 b1 mix ps cs).Ok){x y x' y' b b':Nat}(hs:x+y=x' + y')(hy:y<=y')(ne:dM ss 0 [x',y']≠0\/dM ss 1 [x',y']≠0)(B:GT 2 2 M ss mix ps cs [x,y] b)(B':GT 2 2 M ss mix ps cs [x',y'] b'):LU b<=LU b':=by
 have up:=S.up hs hy;obtain ⟨u0,v0⟩:=S.qn x y;obtain ⟨u0',v0'⟩:=S.qn x' y';have say:∀(z w:Nat),cM 2 (fR ss ps [z,w])-fR ss ps [z,w] 0=dG ps 1*dM ss 1 [z,w]/\cM 2 (fR ss ps [z,w])-fR ss ps [z,w] 1=dG ps 0*dM ss 0 [z,w]:=λz w=>by
  rw [oE];exact ⟨by grind,by grind⟩
 unfold GT at B B';rw [tP,show [x,y].sum=x+y by simp] at B;rw [tP,show [x',y'].sum=x+y by simp;omega] at B';have l1:=FH (fR ss ps [x,y] 1) (fR ss ps [x,y] 0);have l2:=FG (fR ss ps [x,y] 1) (fR ss ps [x,y] 0);have l1':=FH (fR ss ps [x',y'] 1) (fR ss ps [x',y'] 0);have l2':=FG (fR ss ps [x',y'] 1) (fR ss ps [x',y'] 0);have low:=O.low (n:=M-(x+y)-1) (k:=x+y) u0' v0' u0 v0 ne up;have high:=O.high (n:=M-(x+y)-1) (k:=x+y) u0 v0 u0' v0' ne up;have on1:x+y<M->GR 2 2 M ss mix ps cs [x,y]=_:=λh=>S.on h;have on2:x+y<M->GR 2 2 M ss mix ps cs [x',y']=(twX a0 b0 a1 b1 mix ps cs).on (M-(x+y)-1) (x+y) (dM ss 0 [x',y']) (dM ss 1 [x',y']):=λh=>by
  rw [S.on (show x' + y' < M by omega),<-hs]
 obtain ⟨sa,sb⟩:=say x y;obtain ⟨sa',sb'⟩:=say x' y';have low1:dG ps 1*dM ss 1 [x',y']<=dG ps 0*dM ss 0 [x',y']->dG ps 1*dM ss 1 [x,y]<=dG ps 0*dM ss 0 [x,y]:=low.1;have low2:dG ps 1*dM ss 1 [x',y']<=dG ps 0*dM ss 0 [x',y']->dG ps 1*dM ss 1 [x',y']<=_->dG ps 1*dM ss 1 [x,y]<=_:=low.2;have high':dG ps 0*dM ss 0 [x,y]<dG ps 1*dM ss 1 [x,y]->dG ps 0*dM ss 0 [x',y']<dG ps 1*dM ss 1 [x',y']/\(dG ps 0*dM ss 0 [x,y]<=_->dG ps 0*dM ss 0 [x',y']<=_):=high;clear low high O up;have d2:∀v:Nat,v<2->v=0\/v=1:=λv h=>Oo;rcases B' with ⟨rfl,h1',h2'⟩ | ⟨v',hv',rfl,h1',h2',h3'⟩
 ·-- looks on behind
  rcases B with ⟨rfl,h1,h2⟩ | ⟨v,hv,rfl,h1,h2,h3⟩
  ·exact Int.le_refl _
  ·rcases d2 v hv with rfl | rfl
   ·exact Dd
   ·exfalso;have q:=h2 0 Dd;rw [sa] at q;rw [sb] at h1;rw [<-h1] at q;obtain ⟨g1,g2⟩:=high' q;have h3:=h3 h1';rw [on1 h1',<-h1] at h3;have g3:=g2 (by grind);rw [on2 h1'] at h2';have l2':_<=dG ps 0*dM ss 0 [x',y']:=l2';grind
 ·rcases d2 v' hv' with rfl | rfl
  ·-- the first way behind
   rw [sa'] at h1';have q:dG ps 1*dM ss 1 [x',y']<=dG ps 0*dM ss 0 [x',y']:=by rw [h1'];exact l2'
   have g1:=low1 q;rcases B with ⟨rfl,h1,h2⟩ | ⟨v,hv,rfl,h1,h2,h3⟩
   ·exfalso;have h3':=h3' h1;rw [on2 h1,<-h1'] at h3';have g2:=low2 q (by grind);rw [on1 h1] at h2;have l1:_<=dG ps 1*dM ss 1 [x,y]:=l1;grind
   ·rcases d2 v hv with rfl | rfl
    ·exact Int.le_refl _
    ·exfalso;have r:=h2 0 Dd;rw [sa] at r;rw [sb] at h1;rw [<-h1] at r;grind
  ·have:LU (1+1)=2:=rfl;rw [this];unfold LU;split
   ·decide
   ·split <;> decide
def yU.come(S:yU ss a0 b0 a1 b1)(O:(twX a0 b0 a1 b1 mix ps cs).Ok)(hb:∀c∈rise 2 M,GT 2 2 M ss mix ps cs c (best c)){c:Ae}(hc:c∈fA 2 M best):dM ss 0 c≠0\/dM ss 1 c≠0:=by
 by_cases z:c=List.replicate 2 0
 ·subst z
  left
  show dM ss 0 [0,0]≠0;rw [S.q0,Rat.pow_zero,Rat.pow_zero,Rat.mul_one]
  decide
 ·obtain ⟨d,hd,h0,j,hj,rfl⟩:=xM Dd hc z;have hdr:=(iE (M:=M) (best:=best) (show 1<=2 by decide)).subset hd;obtain ⟨x,y,rfl⟩:∃x y,d=[x,y]:=by
   have:=(lQ Dd hd).1
   match d,this with
   | [x,y],_=>exact ⟨x,y,rfl⟩
  obtain ⟨u0,v0⟩:=S.qn x y;rcases hb _ hdr with ⟨_,h1,h2⟩ | ⟨v,_,h,_⟩
  ·rw [show [x,y].sum=x+y by simp] at h1;rw [tP,S.on h1] at h2;have nn:=O.on_nn (M-(x+y)-1) (x+y) u0 v0;have l1:=FH (fR ss ps [x,y] 1) (fR ss ps [x,y] 0);have l2:=FG (fR ss ps [x,y] 1) (fR ss ps [x,y] 0);have uz:dM ss 0 [x,y]≠0:=λe=>by
    have:fR ss ps [x,y] 0=0:=by show dG ps 0*dM ss 0 [x,y]=0;rw [e,Rat.mul_zero]
    grind
   have vz:dM ss 1 [x,y]≠0:=λe=>by
    have:fR ss ps [x,y] 1=0:=by show dG ps 1*dM ss 1 [x,y]=0;rw [e,Rat.mul_zero]
    grind
   refine bM λq=>?_;have q0:dM ss 0 (bQ [x,y] j)=0:=bM λz=>q (.inl z);have q1:dM ss 1 (bQ [x,y] j)=0:=bM λz=>q (.inr z);have s0:=S.s0;have s1:=S.s1;have st:(rv a0=1/\rv a1=1)\/(rv b0=1/\rv b1=1):=by
    have:j=0\/j=1:=Oo;rcases this with rfl | rfl
    ·right
     have f0:dM ss 0 [x+1,y]=dM ss 0 [x,y]*rv a0:=by rw [S.q0,S.q0,Rat.pow_succ];grind
     have f1:dM ss 1 [x+1,y]=dM ss 1 [x,y]*rv a1:=by rw [S.q1,S.q1,Rat.pow_succ];grind
     rw [show bQ [x,y] 0=[x+1,y] from rfl] at q0 q1;rw [f0] at q0;rw [f1] at q1;have:=(Rat.mul_eq_zero.mp q0).resolve_left uz;have:=(Rat.mul_eq_zero.mp q1).resolve_left vz;exact ⟨by grind,by grind⟩
    ·left
     have f0:dM ss 0 [x,y+1]=dM ss 0 [x,y]*rv b0:=by rw [S.q0,S.q0,Rat.pow_succ];grind
     have f1:dM ss 1 [x,y+1]=dM ss 1 [x,y]*rv b1:=by rw [S.q1,S.q1,Rat.pow_succ];grind
     rw [show bQ [x,y] 1=[x,y+1] from rfl] at q0 q1;rw [f0] at q0;rw [f1] at q1;have:=(Rat.mul_eq_zero.mp q0).resolve_left uz;have:=(Rat.mul_eq_zero.mp q1).resolve_left vz;exact ⟨by grind,by grind⟩
   have:=(O.still st (M-(x+y)-1) (x+y) u0 v0).2;have e:(twX a0 b0 a1 b1 mix ps cs).stop (dM ss 0 [x,y]) (dM ss 1 [x,y])=MX (fR ss ps [x,y] 1) (fR ss ps [x,y] 0):=rfl;rw [e] at this;grind
  ·omega
end
abbrev QD:Stmt:=(top 57)
def uB:bZ ["_law_trial_here","_law_aim_here","_law_rule","_law_ways","_law_flows","_law_right","_law_spending","_law_counts_here","_law_says","_law_way","_law_share","_law_paid","_law_face","_law_later","_law_more_here"] ["_law_trial_here","_law_aim_here","_law_rule"] (aY QD):=⟨rfl,rfl,rfl,Kk,rfl,Kk,Kk⟩
def aBl(f g:Fr):lw (f.1*g.2-g.1*f.2) (f.2*g.2)=qS f (IA g):=by
 show _=lw (f.1*g.2 + -g.1*f.2) (f.2*g.2);rw [Int.neg_mul,Int.sub_eq_add_neg]
section
def aEl(F:jP K "_law_less" "_law_less" aAR f fd)(T:kX K mg c)(FQ8:gR dR P w K mg base 1 "_law_frac" ["_law_n","_law_d"] jJ):eC P w K mg base dR 2 f fd ["_law_one","_law_other"] (pZ K):=by
 refine F.oky aEM λvs H Q E h=>?_;unfold pZ at h;obtain ⟨x,y,f,g,rfl,h1,h2,l1,l2,z1,z2,q⟩:=h;refine ⟨rfl,λcdv A outer s hr=>?_⟩;obtain ⟨p1,rfl,e1⟩:=h1;obtain ⟨p2,rfl,e2⟩:=h2;refine ⟨_,(bD (cH (bV FQ8 (hr.mono Dd) (aJ (bX vA (bX dU (bP bK (aD 0) aK (λ_ _=>rfl)) (bP bK (aD 1) aK (λ_ _=>rfl))) (bX dU (bP bK (aD 1) aK (λ_ _=>rfl)) (bP bK (aD 0) aK (λ_ _=>rfl)))) (aJ (bX dU (bP bK (aD 0) aK (λ_ _=>rfl)) (bP bK (aD 1) aK (λ_ _=>rfl))) aE))))),?_⟩;refine ⟨_,rfl,nS e1 rfl ?_⟩;refine ⟨_,rfl,nS e2 rfl ?_⟩;refine ⟨_,_,rfl,rfl,nT z1.1 z2.2,⟨_,rfl,nS e2 rfl ?_⟩⟩;refine ⟨_,rfl,nS e1 rfl ?_⟩;refine ⟨_,_,rfl,rfl,nT z2.1 z1.2,_,_,rfl,rfl,⟨_,rfl,nS e1 rfl ?_⟩⟩;refine ⟨_,rfl,nS e2 rfl ?_⟩;refine ⟨_,_,rfl,rfl,nT z1.2 z2.2,iR (Int.mul_pos l1.pos l2.pos) (jR (xB z1.2 z2.2)) ?_⟩;rw [aBl];exact q
end
@[irreducible] def mS(K:Aa):Sp:=λvs H Q _=>∃(t r av:V) (es:List fV) (F W M A Nc:Nat) (fs:Ah) (ws:List (Str × Ak)) (bs mix cs:Ak),vs=[t,av,r]/\cE H (pL fs ws) t/\IQ K H es r/\cE H (lV A bs mix cs) av/\rZ F W M es/\2<=F/\F<=4/\M<=6/\W<=4/\fs.length=F/\(∀x∈ws,x.2.length=F)/\NW W ws/\DT Nc W M es mix cs/\∀a L ys sv H',aU H H'->H' a=some (.tup [.ref L,sv])->H' L=some (.lst ys)->aQ H' (((List.range W).map (OF F W es (eT ws))).map gF) ys->cE H' (gF (iI (rX F W es (dM (eT ws)) (dG mix) (dG cs)))) sv->Q (.ref a) H'
def BQ{K:Aa}{H:Hp}{Q:VK}{E:XK}{t r av:V}{es:List fV}{F W M A Nc:Nat}{fs:Ah}{ws:List (Str × Ak)}{bs mix cs:Ak}(h1:cE H (pL fs ws) t)(h2:IQ K H es r)(h0:cE H (lV A bs mix cs) av)(h3:rZ F W M es)(h4:2<=F)(h5:F<=4)(h6:M<=6)(h7:W<=4)(h70:fs.length=F)(h71:∀x∈ws,x.2.length=F)(h8:NW W ws)(h9:DT Nc W M es mix cs)
  (k:∀a L ys sv H',aU H H'->H' a=some (.tup [.ref L,sv])->H' L=some (.lst ys)->aQ H' (((List.range W).map (OF F W es (eT ws))).map gF) ys->cE H' (gF (iI (rX F W es (dM (eT ws)) (dG mix) (dG cs)))) sv->Q (.ref a) H'):mS K [t,av,r] H Q E:=by
 unfold mS;exact ⟨t,r,av,es,F,W,M,A,Nc,fs,ws,bs,mix,cs,rfl,h1,h2,h0,h3,h4,h5,h6,h7,h70,h71,h8,h9,k⟩
section
variable{F W M Nc:Nat}{es:List fV}{ws:List (Str × Ak)}{mix cs:Ak}
def BZ(F:Nat)(es:List fV)(q:Nat->Ae->Rat)(w:Nat)(e:fV):Rat:=cC F es e.1*q w e.1*dG e.2 (1+w)
def DV(F:Nat)(es:List fV)(q:Nat->Ae->Rat)(mix cs:Nat->Rat)(e:fV)(w:Nat):Rat:=mix w*(cC F es e.1*q w e.1*s0 e*cs e.1.sum)
def SQ(q:Nat->Ae->Rat)(mix cs:Nat->Rat):rX F W es q mix cs=dY es λe=>cM W (DV F es q mix cs e):=by
 unfold rX xD;rw [qZ];refine dH λw _=>?_;rw [<-sV];exact fJ λe _=>by unfold DV;grind
end
def IR(H:Hp)(zs:Al)(W:Nat)(g:Nat->Rat):Prop:=zs.length=W/\∀w,w<W->∃v,zs[w]?=some v/\cE H (gF (iI (g w))) v
def IR.t{H H':Hp}{zs:Al}{W:Nat}{g:Nat->Rat}(s:dA H H')(h:IR H zs W g):IR H' zs W g:=⟨h.1,λw hw=>by
 obtain ⟨v,h1,h2⟩:=h.2 w hw;exact ⟨v,h1,h2.flat s (cT _)⟩⟩
def IR.eq{H:Hp}{zs:Al}{W:Nat}{g g':Nat->Rat}(h:IR H zs W g)(e:∀w,w<W->g' w=g w):IR H zs W g':=⟨h.1,λw hw=>by rw [e w hw];exact h.2 w hw⟩
theorem IR.set{H:Hp}{zs:Al}{W j:Nat}{g:Nat->Rat}{y:Rat}{v:V}(h:IR H zs W g)(r:cE H (gF (iI y)) v):IR H (zs.set j v) W λw=>if w=j then y else g w:=⟨by rw [List.length_set];exact h.1,λw hw=>by
 by_cases q:w=j
 ·subst q;refine ⟨v,by rw [List.getElem?_set_self (by rw [h.1];exact hw)],?_⟩;show cE H (gF (iI (if w=w then y else g w))) v;rw [if_pos rfl];exact r
 ·obtain ⟨u,h1,h2⟩:=h.2 w hw;refine ⟨u,by rw [List.getElem?_set_ne (λz=>q z.symm)];exact h1,?_⟩;show cE H (gF (iI (if w=j then y else g w))) u;rw [if_neg q];exact h2⟩
section
variable{F W M Nc:Nat}{es:List fV}{ws:List (Str × Ak)}{mix cs:Ak}
def rZ.rgq(R:rZ F W M es)(f4:F<=4)(T:NW W ws){e:fV}(h:e∈es){w:Nat}(hw:w<W):Qn (iF^(M+M+1)) (2^150) (BZ F es (dM (eT ws)) w e):=by
 obtain ⟨x,hx⟩:∃x,ws[w]?=some x:=⟨_,aB (by rw [T.w];exact hw)⟩;unfold BZ;rw [pA hx];exact R.aqs f4 (T.sh x (aG hx)) h _
def rZ.coq(R:rZ F W M es)(f4:F<=4)(T:NW W ws)(A:DT Nc W M es mix cs){e:fV}(h:e∈es){w:Nat}(hw:w<W):Qn (Nc*iF^(M+M+2)) (2^160) (DV F es (dM (eT ws)) (dG mix) (dG cs) e w):=by
 obtain ⟨x,hx⟩:∃x,ws[w]?=some x:=⟨_,aB (by rw [T.w];exact hw)⟩;unfold DV;rw [pA hx];by_cases z:s0 e=0
 ·rw [z,show dG mix w*(cC F es e.1*wq x.2 e.1*0*dG cs e.1.sum)=0 by grind];exact Qn.zero _ _
 ·have h1:=(R.aqs f4 (T.sh x (aG hx)) h 0).mul (A.co.qn h z);have h2:=(A.mx _ (eV (a:=(0,1)) (show w<mix.length by rw [A.ml];exact hw))).q.mul h1;rw [Nat.one_mul] at h2;refine (h2.le (show 2^150*1000<=2^160 by decide +kernel)).dvd ⟨1,?_⟩;rw [Nat.mul_one,Nat.pow_succ (n:=iF) (m:=M+M+1)];ac_rfl
def rZ.rsq(R:rZ F W M es)(f4:F<=4)(T:NW W ws)(i:Nat){w:Nat}(hw:w<W):Qn (iF^(M+M+1)) (2^160) (dY (es.take i) (BZ F es (dM (eT ws)) w)):=by
 have h:=Qn.sumL (l:=es.take i) λe he=>R.rgq f4 T (List.mem_of_mem_take he) hw;refine h.le ?_;have h0:(es.take i).length<=64:=by rw [cK];have:=R.few;exact Oo
 have h1:(es.take i).length*2^150<=64*2^150:=bS _ h0;exact aM h1 Kk
def rZ.csq(R:rZ F W M es)(f4:F<=4)(w4:W<=4)(T:NW W ws)(A:DT Nc W M es mix cs)(i:Nat){e:fV}(he:e∈es){j:Nat}(hj:j<=W):Qn (Nc*iF^(M+M+2)) (2^175) (dY (es.take i) (λe=>cM W (DV F es (dM (eT ws)) (dG mix) (dG cs) e))+cM j (DV F es (dM (eT ws)) (dG mix) (dG cs) e)):=by
 have hb:∀(e:fV),e∈es->∀j,j<=W->Qn (Nc*iF^(M+M+2)) (4*2^160) (cM j (DV F es (dM (eT ws)) (dG mix) (dG cs) e)):=λe he j hj=>by
  have h:=Qn.sumR (n:=j) λw hw=>R.coq f4 T A he (show w<W by omega);exact h.le (bS _ Oo)
 have h:=Qn.sumL (l:=es.take i) λe he=>hb e (List.mem_of_mem_take he) W (aI _);refine (h.add (hb e he j hj)).le ?_;have h0:(es.take i).length<=64:=by rw [cK];have:=R.few;exact Oo
 have h1:(es.take i).length*(4*2^160)<=64*(4*2^160):=bS _ h0;have h2:(64*(4*2^160)+4*2^160:Nat)<=2^175:=Kk;exact aM (Nat.add_le_add_right h1 _) h2
end
section
def aEi(F:jP K "_law_of_rule" "_law_of_rule" QD f fd)(T:kX K mg c)(FQ20:gR dR P w K mg base 2 "_law_times" ["_law_one","_law_other"] (kA K))(FQ14:gR dR P w K mg base 2 "_law_plus" ["_law_one","_law_other"] (mR K))(FQ10:gR dR P w K mg base 2 "_law_less" ["_law_one","_law_other"] (pZ K))(FQ23:gR dR P w K mg base 3 "_law_weight" ["_law_trial_here","_law_way","_law_counts_here"] kO)(FQ12:gR dR P w K mg base 1 "_law_more" ["_law_counts_here","_law_face"] fM):eC P w K mg base dR 4 f fd ["_law_trial_here","_law_aim_here","_law_rule"] (mS K):=by
 refine F.oky uB λvs H Q E h=>?_;unfold mS at h;obtain ⟨t,r,av,es,F,W,M,A,Nc,fs,ws,bs,mix,cs,rfl,rt,rr,ra,RO,f2,f4,m6,w4,lf,lx2,TQ,AQ,k⟩:=h;refine ⟨rfl,λcdv A outer s hr=>?_⟩;obtain ⟨a,xs,rfl,ha,lx,rxs⟩:=rr;have RL:=RO.rl;have few:=RO.few;obtain ⟨e0,er,ees,ez0⟩:=RL.root;obtain ⟨at_,af,aw,xf,xw,rfl,hat,hf,hw,rf,rw'⟩:=vO rt;obtain ⟨aa,xb,xm,xc,rfl,haa,rxb,rxm,rxc⟩:=vL ra;obtain ⟨am,vm,rfl,ham,rvm⟩:=kQ rxm;obtain ⟨ac,vc,rfl,hac,rvc⟩:=kQ rxc;refine ⟨_,(aH (bN (i:=3) uB.nd rfl (Or.inl rfl) (UM rfl rfl T.b_list rfl T.b_range (aJ (dX gG (by rfl) T.b_len Kk (aJ (bP bK (aD 0) aK (λ_ _=>rfl)) aE)) aE)))
  (aH (bN (i:=4) uB.nd rfl (Or.inl rfl) (OP hr.u1 (bX CG (dI (aJ aK aE)) (dX gG (by rfl) T.b_len Kk (aJ (bP bK (aD 0) aK (λ_ _=>rfl)) aE))) (dI (aJ aK (aJ aK aE)))))
  (aH (iB (i:=5) (dP.of (psc:=aY QD) (N:=["_law_trial_here","_law_aim_here","_law_rule","_law_ways","_law_flows","_law_right","_law_spending","_law_counts_here","_law_says","_law_way","_law_share","_law_paid","_law_face","_law_later","_law_more_here"]) (N':=["_law_way"]) (js:=[]) Kk rfl rfl rfl) uB.nd rfl rfl (eZ (aD 3)) (λ_ _ _ _=>dW) (λ_ _ _ _=>(dI (aJ aK (aJ aK aE)))))
  (aH (bN (i:=6) uB.nd rfl (Or.inl rfl) (dI (aJ aK (aJ aK aE))))
  (aH (eY PassesOwn.never rfl (OL (aD 2)) (sC rfl (gL (cX (i:=7) uB.nd rfl (Or.inl rfl)) (gL (cX (i:=8) uB.nd rfl (Or.inl rfl)) oT))) (aH (eY PassesOwn.never rfl (eZ (aD 3)) (cX (i:=9) uB.nd rfl (Or.inl rfl)) (aH (bN (i:=10) uB.nd rfl (Or.inl rfl) (bV FQ20 (hr.mono Dd) (aJ (gH hr.u1 (aD 4) (aD 7)) (aJ (bV FQ23 (hr.mono Dd) (aJ (aD 0) (aJ (aD 9) (aJ (aD 7) aE)))) aE))))
  (aH (GV (bV FQ14 (hr.mono Dd) (aJ (bP bK (aD 5) (aD 9) (λ_ _=>rfl)) (aJ (bV FQ20 (hr.mono Dd) (aJ (aD 10) (aJ (bP bK (aD 8) (bX eB aK (aD 9)) (λ_ _=>rfl)) aE))) aE))) (aAe (aD 5) (aD 9) PZ))
  (bD (jF (eO AB (bP bK (bP bK (aD 8) aK (λ_ _=>rfl)) aK (λ_ _=>rfl)) aK (nomark _)) (aH (bN (i:=11) uB.nd rfl (Or.inl rfl) (bV FQ20 (hr.mono Dd) (aJ (bV FQ20 (hr.mono Dd) (aJ (aD 10) (aJ (bP bK (aD 8) aK (λ_ _=>rfl)) aE))) (aJ (bP bK (bP bK (aD 1) aK (λ_ _=>rfl)) (dX (pJ K rfl) (by rfl) T.b_sum Kk (aJ (aD 7) aE)) (λ_ _=>rfl)) aE))))
  (bD (bN (i:=6) uB.nd rfl (Or.inl rfl) (bV FQ14 (hr.mono Dd) (aJ (aD 6) (aJ (bV FQ20 (hr.mono Dd) (aJ (bP bK (bP bK (aD 1) aK (λ_ _=>rfl)) (aD 9) (λ_ _=>rfl)) (aJ (aD 11) aE))) aE)))))) fK)))))
  (bD (jF (eO AB (bP bK (bP bK (aD 8) aK (λ_ _=>rfl)) aK (λ_ _=>rfl)) aK (nomark _)) (bD (eY PassesOwn.never rfl (cS rfl T.b_range (aJ (dX gG (by rfl) T.b_len Kk (aJ (aD 7) aE)) aE)) (cX (i:=12) uB.nd rfl (Or.inl rfl)) (aH (bN (i:=13) uB.nd rfl (Or.inl rfl) (bV FQ12 (hr.mono Dd) (aJ (aD 7) (aJ (aD 12) aE))))
  (aH (bN (i:=14) uB.nd rfl (Or.inl rfl) (bV FQ20 (hr.mono Dd) (aJ (gH hr.u1 (aD 4) (aD 7)) (aJ (bP bK (aD 8) aK (λ_ _=>rfl)) aE))))
  (bD (iL hr.u1 (aD 4) (aD 13) (bV FQ14 (hr.mono Dd) (aJ (UN hr.u1 (aD 4) (aD 13) (dI (aJ aK (aJ aK aE)))) (aJ (aD 14) aE))))))))) fK))))
  (bD (cH (dI (aJ (gI (dP.of (psc:=aY QD) (N:=["_law_trial_here","_law_aim_here","_law_rule","_law_ways","_law_flows","_law_right","_law_spending","_law_counts_here","_law_says","_law_way","_law_share","_law_paid","_law_face","_law_later","_law_more_here"]) (N':=["_law_one"]) (js:=[]) Kk rfl rfl rfl) (eZ (aD 5)) (λ_ _ _ _=>dW) (λ_ _ _ _=>(bV FQ10 (hr.mono Dd) (aJ (dI (aJ aK (aJ aK aE))) (aJ (aD 0) aE))))) (aJ (aD 6) aE)))))))))),?_⟩
 refine ⟨_,rfl,jS hat rfl ?_⟩;refine ML hw ?_;rw [eP rw',TQ.w];refine rlr Oo λL3 H1 hL3 e1 s1=>?_;have ok:TX 1 Nc:=⟨Dd,Dd,AQ.co.c0,AQ.co.c1⟩;intro p hp;have s2:=aU.upd (o:=.dT []) hp;have e2:(upd H1 p (.dT [])) p=some (.dT []):=bO;generalize upd H1 p (.dT [])=H2 at s2 e2;refine nZ (by show 1<=64;decide) λq3 H3 hq3 e3 s3=>⟨_,rfl,?_⟩;have s03:=(s1.trans s2).trans s3;refine jS (s03 _ _ hat) rfl (ML (s03 _ _ hf) ?_);rw [eP rf,lf];refine aBn (k:=F) e3 f2 Oo λq4 H4 s4 e4=>nZ (by show 2<=64;decide) λq5 H5 hq5 e5 s5=>?_;have e4':H5 q4=some (.tup ((ci (List.replicate F 0)).map V.int)):=by rw [s5 _ _ e4,eJ,List.map_replicate];rfl
 have S35:=(s3.trans s4).trans s5;refine aDD (c:=ci (List.replicate F 0)) e4' (S35 _ _ e2) λH6 e6 b6=>?_;have hp0:H p=none:=s1.free hp;have S6:aU H H6:=aU.thru hp0 ((s1.trans s2).trans S35) b6;have t6:dA H5 H6:=aR.tT b6 (S35 _ _ e2);have D6:DQ K H6 [(kT (ci (List.replicate F 0)),V.ref q5)] (cC F (es.take 0)):=⟨λd=>by
  rw [List.take_zero,rH];by_cases q:d=List.replicate F 0
  ·subst q;rw [if_pos rfl,KJ];exact .inr ⟨_,by simp [fQ],.inl (dJ (f:=(1,1)) (t6 _ _ e5))⟩
  ·rw [if_neg q];refine .inl ⟨?_,rfl⟩;have:¬kT (ci d)=kT (ci (List.replicate F 0)):=λz=>q (kU (nB z));have e:=iG (κ:=List fE) [] (kT (ci (List.replicate F 0))) (kT (ci d)) (V.ref q5);rw [if_neg this] at e;exact e⟩
 have nL3p:L3≠p:=λz=>by rw [<-z,e1] at hp;cases hp
 have eL6:=b6.at nL3p (S35 _ _ (s2 _ _ e1));have hL30:H L3=none:=hL3;clear t6 e4' e5 e4 e3 hq5 s5 s4 s3 S35 s03 b6 hq3;refine ⟨_,rfl,L3,rfl,⟨_,fI.of eL6⟩,?_⟩;have lwl:((List.range W).map λ(i:Nat)=>V.int (i:Int)).length=W:=by rw [aA,bA]
 refine hV (λj y H'=>cE H' (gF (0,1)) y) (λj y H1 H2 s h=>h.flat s (cT _)) Oo eL6 (λj x H' Q' hx s' k'=>?_) (λR zs0 H7 hR eR s7 hz hr7=>?_)
 ·exact nZ (by show 2<=64;decide) λq8 H8 hq8 e8 s8=>k' _ H8 s8 (dJ (f:=(0,1)) e8)
 refine nZ (by show 2<=64;decide) λq8 H8 hq8 e8 s8=>?_;rw [lwl] at hz;have hR0:H R=none:=S6.free hR;have nRp:R≠p:=λz=>by rw [z,e6] at hR;cases hR
 have nRL:R≠L3:=λz=>by rw [z,eL6] at hR;cases hR
 have s68:=s7.trans s8;have S8:=S6.trans s68;have RG8:IR H8 zs0 W λw=>dY (es.take 0) (BZ F es (dM (eT ws)) w):=⟨hz,λw hw=>by
  have hl:w<zs0.length:=Oo;refine ⟨zs0[w],aB hl,?_⟩;show cE H8 (gF (iI (dY (es.take 0) (BZ F es (dM (eT ws)) w)))) _;rw [List.take_zero,jH,yE];exact (hr7 w _ (aB hl)).same s8⟩
 refine ⟨_,rfl,a,rfl,⟨_,iJ.of (S8 _ _ ha)⟩,?_⟩;refine KL (xs:=xs) (λi σ H'=>∃(o7 o8 o9 o10 o11 o12 o13 o14:Am) (kvs:List (List fE × V)) (zs:Al) (sv:V),σ=[some (.ref at_),some (.ref aa),some (.ref a),some (.ref L3),some (.ref p),some (.ref R),some sv,o7,o8,o9,o10,o11,o12,o13,o14]/\aU H H'/\H' L3=some (.lst ((List.range W).map λ(i:Nat)=>V.int (i:Int)))/\H' p=some (.dT kvs)/\kvs.length<=1+4*i/\DQ K H' kvs (cC F (es.take i))/\H' R=some (.lst zs)/\IR H' zs W (λw=>dY (es.take i) (BZ F es (dM (eT ws)) w))/\cE H' (gF (iI (dY (es.take i) λe=>cM W (DV F es (dM (eT ws)) (dG mix) (dG cs) e)))) sv)
  ⟨_,_,_,_,_,_,_,_,_,zs0,_,rfl,S8,s68 _ _ eL6,s68 _ _ e6,by simp,D6.t s68.t,s8 _ _ eR,RG8,by rw [List.take_zero,jH,yE];exact dJ (f:=(0,1)) e8⟩ (λi σ H' _ q=>?_) ?_ ?_
 ·obtain ⟨_,_,_,_,_,_,_,_,_,_,_,_,s',_⟩:=q;exact iJ.of (s' _ _ ha)
 ·rintro i x σ H9 hx ⟨o7,o8,o9,o10,o11,o12,o13,o14,kvs,zs,sv,rfl,S9,eL9,e9,l9,D9,eR9,RG9,rs9⟩;obtain ⟨e,he,re⟩:=rxs i x hx;have hi:i<es.length:=(aF.mp he).1;have hee:=aG he;have hel:=RL.len e hee;have fat:=RL.at he;have fpos:=RL.posf hee;have hsM:=RO.sum e hee;have tk:=eM he;obtain ⟨f0,fr,ef,fn0,nn0,v0,on0⟩:=(RO.sy e hee).hd;have es0:s0 e=rv f0:=v0;obtain ⟨b,cu,z,rfl,hb,hcu,sa,sx,rfl,hsa,rsx⟩:=re.t S9.t;obtain ⟨va,hva,fva⟩:=D9.val (d:=e.1) (by rw [fat];grind);rw [fat] at fva;obtain ⟨y0,hy0,ry0⟩:=rsx.get (i:=0) (f:=f0) (by rw [ef];rfl);obtain ⟨b0,rfl,_⟩:=ry0.v;have qA:Qn (iF^M) (2^150) (cC F es e.1):=RO.fl f4 hee;have nA:Fn (qT 1 Nc) (2^150) (iI (cC F es e.1)):=(zW qA (d46 Oo)).fq;have n0:Fn (qT 1 Nc) 1 f0:=Qn.f fn0.low (zW fn0.q (by have:=d46 (Np:=1) (Nc:=Nc) (a:=1) Dd;rwa [Nat.pow_one] at this));refine ⟨b,[.ref cu,.ref sa],rfl,iJ.of hb,rfl,.ref cu,[.ref sa],rfl,.ref sa,[],rfl,rfl,⟨_,rfl,L3,rfl,⟨_,fI.of eL9⟩,?_⟩⟩;refine kG (xs:=(List.range W).map λ(i:Nat)=>V.int (i:Int)) (λj σ H'=>∃(o9 o10 o11:Am) (zs:Al) (sv:V),σ=[some (.ref at_),some (.ref aa),some (.ref a),some (.ref L3),some (.ref p),some (.ref R),some sv,some (.ref cu),some (.ref sa),o9,o10,o11,o12,o13,o14]/\aR R H9 H'/\H' R=some (.lst zs)/\IR H' zs W (λw=>if w<j then dY (es.take (i+1)) (BZ F es (dM (eT ws)) w) else dY (es.take i) (BZ F es (dM (eT ws)) w))/\cE H' (gF (iI ((dY (es.take i) λe=>cM W (DV F es (dM (eT ws)) (dG mix) (dG cs) e))+cM j (DV F es (dM (eT ws)) (dG mix) (dG cs) e)))) sv)
   ⟨_,_,_,zs,sv,rfl,(aU.refl _).but,eR9,RG9.eq λw _=>by rw [if_neg (Nat.not_lt_zero _)],by rw [gZ,Rat.add_zero];exact rs9⟩ (λj σ H' _ q=>?_) ?_ ?_
  ·obtain ⟨_,_,_,_,_,_,b',_⟩:=q;exact fI.of (b'.at (Ne.symm nRL) eL9)
  ·rintro j y σ H10 hy ⟨o9',o10',o11',zs10,sv10,rfl,b10,eR10,RG10,rs10⟩;have hj:j<W:=by have:=(aF.mp hy).1;exact Oo
   have ey:y=V.int (j:Int):=by
    rw [aL,cN hj] at hy;simpa using hy.symm
   subst ey;obtain ⟨wx,hwx⟩:∃x,ws[j]?=some x:=⟨_,aB (by rw [TQ.w];exact hj)⟩;have hwm:=aG hwx;have hsh:=TQ.sh wx hwm;have t10:dA H9 H10:=b10.t eR9;have t010:=S9.t.trans t10;have ep10:=b10.at (Ne.symm nRp) e9;have hcu10:=t10 _ _ hcu;refine ⟨_,rfl,_,rfl,NH ep10 (c:=ci e.1) (by rw [eJ];exact hcu10) hva ?_⟩;refine ⟨_,rfl,_,rfl,_,rfl,?_⟩;have hN:iF^e.1.sum<2^3000:=bC (aP Dd (show e.1.sum<=15 by omega)) (aN aCr (aP Dd Dd));refine sY (N:=iF) (rt.flat t010 (oB fs ws)) hwx (nU hcu10) (by rw [lx2 wx hwm,hel]) hsh Dd hN Oo Oo λxw H11 s11 rw11=>?_;have lw':cY (jW (wx.2.zip e.1)):=oA _ λz hz=>(hsh z.1 (List.of_mem_zip (a:=z.1) (b:=z.2) hz).1).low;have nW:Fn (qT 1 Nc) 1 (jW (wx.2.zip e.1)):=Qn.f lw' (zW (OH (M:=M) hsh hsM) (d46 Oo));refine fN ((fva.t t10).same s11).v (gU.of rw11) (cF _) lw' (lO ok nA (sG Dd)) (lO ok nW Nat.one_le_two_pow) λq12 H12 hq12 e12 s12=>?_;have em:jC (iI (cC F es e.1)) (jW (wx.2.zip e.1))=iI (cC F es e.1*dM (eT ws) j e.1):=iS (gO (cF _) lw') (cF _) (by rw [iH (cF _).pos lw'.pos,eW,eW,pA hwx];rfl);rw [em] at e12;have s1012:=s11.trans s12;have eR12:=s1012 _ _ eR10;obtain ⟨vr,hvr,rvr⟩:=RG10.2 j hj;replace rvr:cE H10 (gF (iI (if j<j then dY (es.take (i+1)) (BZ F es (dM (eT ws)) j) else dY (es.take i) (BZ F es (dM (eT ws)) j)))) vr:=rvr;rw [if_neg (bL _)] at rvr;have lsx:sx.length=1+W:=by rw [rsx.len,(RO.sy e hee).len]
   obtain ⟨g,hg⟩:∃g,e.2[1+j]?=some g:=⟨_,aB (by rw [(RO.sy e hee).len];exact Oo)⟩;obtain ⟨vg,hvg,rvg⟩:=rsx.get hg;have gn:=((RO.sy e hee).at_ g (aG hg)).1;have t912:=t10.trans s1012.t;refine ⟨_,rfl,_,rfl,FR eR12 (cV hvr) ?_⟩;refine ⟨_,rfl,_,rfl,_,rfl,_,_,rfl,rfl,jS (t912 _ _ hsa) (by rw [show (1:Int)+(j:Int)=((1+j:Nat):Int) by omega];exact cV hvg) ?_⟩;have qAq:Qn (iF^(M+M)) (2^150) (cC F es e.1*dM (eT ws) j e.1):=by rw [pA hwx];exact RO.aq f4 hsh hee
   have nAq:Fn (qT 1 Nc) (2^150) (iI (cC F es e.1*dM (eT ws) j e.1)):=(zW qAq (d46 Oo)).fq;have ng:Fn (qT 1 Nc) 1 g:=Qn.f gn.low (zW gn.q (by have:=d46 (Np:=1) (Nc:=Nc) (a:=1) Dd;rwa [Nat.pow_one] at this));refine fN (gU.of (dJ e12)) ((rvg.t t912).v) (cF _) gn.low (lO ok nAq (sG Dd)) (lO ok ng Nat.one_le_two_pow) λq13 H13 hq13 e13 s13=>?_;have em2:jC (iI (cC F es e.1*dM (eT ws) j e.1)) g=iI (BZ F es (dM (eT ws)) j e):=iS (gO (cF _) gn.low) (cF _) (by rw [iH (cF _).pos gn.low.pos,eW,eW];unfold BZ;rw [BG hg]);rw [em2] at e13;have n3:Fn (qT 1 Nc) (2^160) (iI (dY (es.take i) (BZ F es (dM (eT ws)) j))):=(zW (RO.rsq f4 TQ i hj) (d46 Oo)).fq;have n4:Fn (qT 1 Nc) (2^150) (iI (BZ F es (dM (eT ws)) j e)):=(zW (RO.rgq f4 TQ hee hj) (d46 Oo)).fq;refine mQ (gU.of ((rvr.same s1012).same s13)) (gU.of (dJ e13)) (cF _) (cF _) (lO ok n3 (sG Dd)) (lO ok n4 (sG Dd)) λq14 H14 hq14 e14 s14=>?_;rw [DL,<-uQ,<-tk] at e14;have s1214:=s13.trans s14;have lz10:=RG10.1;refine ⟨_,rfl,_,rfl,?_⟩;refine stG (s1214 _ _ eR12) (j:=j) (by unfold OA;rw [if_pos Oo,if_pos Oo];rfl) λH15 e15 b15=>?_;have t15:=b15.t (s1214 _ _ eR12);have t1015:dA H10 H15:=(s1012.trans s1214).t.trans t15;have t915:=t10.trans t1015;have b915:aR R H9 H15:=(b10.trans (s1012.trans s1214).but).trans b15;have RG15:IR H15 (zs10.set j (.ref q14)) W λw=>if w<j+1 then dY (es.take (i+1)) (BZ F es (dM (eT ws)) w) else dY (es.take i) (BZ F es (dM (eT ws)) w):=by
    refine (IR.set (j:=j) (RG10.t t1015) (cE.flat t15 (cT _) (dJ e14))).eq λw hw=>?_;by_cases q:w=j
    ·subst q;rw [if_pos rfl,if_pos Oo]
    ·rw [if_neg q];by_cases q2:w<j
     ·rw [if_pos q2,if_pos Oo]
     ·rw [if_neg q2,if_neg Oo]
   have rs15:=rs10.flat t1015 (cT _);have e12':H15 q12=some (.tup _):=t15 _ _ (s1214 _ _ e12);refine ⟨_,rfl,jS (t915 _ _ hsa) (cV (j:=0) hy0) ?_⟩;obtain ⟨_,eb0,hb0⟩:=(ry0.t t915).v;cases eb0;refine nS hb0 rfl ⟨_,_,rfl,rfl,_,rfl,sI (λon=>?_) (λon=>?_)⟩
   ·have sne:s0 e≠0:=on0.mp (by simpa using on);have hlc:=AQ.co.len e hee sne;obtain ⟨gc,hgc⟩:∃g,cs[e.1.sum]?=some g:=⟨_,aB hlc⟩;obtain ⟨vgc,hvgc,rvgc⟩:=eG rvc hgc;have gcn:=AQ.co.at_ gc (aG hgc);obtain ⟨gm,hgm⟩:∃g,mix[j]?=some g:=⟨_,aB (by rw [AQ.ml];exact hj)⟩;obtain ⟨vgm,hvgm,rvgm⟩:=eG rvm hgm;have gmn:=AQ.mx gm (aG hgm);have t015:=S9.t.trans t915;refine ⟨_,rfl,_,rfl,jS (t915 _ _ hsa) (cV (j:=0) hy0) ?_⟩;refine fN (gU.of (dJ e12')) ((ry0.t t915).v) (cF _) fn0.low (lO ok nAq (sG Dd)) (lO ok n0 Nat.one_le_two_pow) λq16 H16 hq16 e16 s16=>?_;have em3:jC (iI (cC F es e.1*dM (eT ws) j e.1)) f0=iI (cC F es e.1*dM (eT ws) j e.1*s0 e):=iS (gO (cF _) fn0.low) (cF _) (by rw [iH (cF _).pos fn0.low.pos,eW,eW,es0]);rw [em3] at e16;have qAqs:Qn (iF^(M+M+1)) (2^150) (cC F es e.1*dM (eT ws) j e.1*s0 e):=by rw [pA hwx];exact RO.aqs f4 hsh hee 0
    have nAqs:Fn (qT 1 Nc) (2^150) (iI (cC F es e.1*dM (eT ws) j e.1*s0 e)):=(zW qAqs (d46 Oo)).fq;have ngc:Fn (qT 1 Nc) 1000 gc:=Qn.f gcn.low (zW gcn.q ⟨iF^15,by unfold qT;rw [Nat.one_mul]⟩);have ngm:Fn (qT 1 Nc) 1 gm:=Qn.f gmn.low (zW gmn.q (by have:=d46 (Np:=1) (Nc:=Nc) (a:=1) Dd;rwa [Nat.pow_one] at this));refine ⟨_,rfl,jS (s16 _ _ (t015 _ _ haa)) rfl ?_⟩;refine ⟨_,rfl,rsT (ns:=ci e.1) (by rw [eJ];exact iJ.of (s16 _ _ (t915 _ _ hcu))) ?_⟩;rw [vJ];refine jS (s16 _ _ (t015 _ _ hac)) (cV hvgc) (fN (gU.of (dJ e16)) (gU.of ((rvgc.flat t015 (cT _)).same s16)) (cF _) gcn.low (lO ok nAqs (sG Dd)) (lO ok ngc Kk) λq17 H17 hq17 e17 s17=>?_);have em4:jC (iI (cC F es e.1*dM (eT ws) j e.1*s0 e)) gc=iI (cC F es e.1*dM (eT ws) j e.1*s0 e*dG cs e.1.sum):=iS (gO (cF _) gcn.low) (cF _) (by rw [iH (cF _).pos gcn.low.pos,eW,eW,BG hgc]);rw [em4] at e17;have qP:Qn (Nc*iF^(M+M+1)) (2^160) (cC F es e.1*dM (eT ws) j e.1*s0 e*dG cs e.1.sum):=by
     have h:=qAqs.mul (AQ.co.qn hee sne);exact (h.le (show 2^150*1000<=2^160 by decide +kernel)).dvd ⟨1,by rw [Nat.mul_one];ac_rfl⟩
    have nP:Fn (qT 1 Nc) (2^160) (iI (cC F es e.1*dM (eT ws) j e.1*s0 e*dG cs e.1.sum)):=(zW qP (XO Oo)).fq;have s1517:=s16.trans s17;refine ⟨_,rfl,_,rfl,jS (s1517 _ _ (t015 _ _ haa)) rfl ?_⟩;refine ⟨_,rfl,jS (s1517 _ _ (t015 _ _ ham)) (cV hvgm) ?_⟩;refine ⟨_,rfl,?_⟩;refine fN (gU.of ((rvgm.flat t015 (cT _)).same s1517)) (gU.of (dJ e17)) gmn.low (cF _) (lO ok ngm Nat.one_le_two_pow) (lO ok nP (sG Dd)) λq18 H18 hq18 e18 s18=>?_;have em5:jC gm (iI (cC F es e.1*dM (eT ws) j e.1*s0 e*dG cs e.1.sum))=iI (DV F es (dM (eT ws)) (dG mix) (dG cs) e j):=iS (gO gmn.low (cF _)) (cF _) (by rw [iH gmn.low.pos (cF _).pos,eW,eW];unfold DV;rw [BG hgm]);rw [em5] at e18;have n5:Fn (qT 1 Nc) (2^175) (iI ((dY (es.take i) λe=>cM W (DV F es (dM (eT ws)) (dG mix) (dG cs) e))+cM j (DV F es (dM (eT ws)) (dG mix) (dG cs) e))):=(zW (RO.csq f4 w4 TQ AQ i hee Oo) (XO Oo)).fq;have n6:Fn (qT 1 Nc) (2^160) (iI (DV F es (dM (eT ws)) (dG mix) (dG cs) e j)):=(zW (RO.coq f4 TQ AQ hee hj) (XO Oo)).fq;refine mQ (gU.of ((rs15.same s1517).same s18)) (gU.of (dJ e18)) (cF _) (cF _) (lO ok n5 (sG Dd)) (lO ok n6 (sG Dd)) λq19 H19 hq19 e19 s19=>?_;rw [DL] at e19;have S1519:=(s1517.trans s18).trans s19;refine ⟨_,_,_,zs10.set j (.ref q14),_,rfl,b915.trans S1519.but,S1519 _ _ e15,RG15.t S1519.t,?_⟩;rw [eE,<-Rat.add_assoc];exact dJ e19
   ·have sz:s0 e=0:=bM λz=>absurd (on0.mpr z) (by simpa using on);refine ⟨_,_,_,zs10.set j (.ref q14),_,rfl,b915,e15,RG15,?_⟩;have ez:DV F es (dM (eT ws)) (dG mix) (dG cs) e j=0:=by unfold DV;rw [sz];grind
    rw [eE,ez,Rat.add_zero];exact rs15
  ·rintro σ H10 ⟨o9',o10',o11',zs10,sv10,rfl,b10,eR10,RG10,rs10⟩;rw [lwl] at RG10 rs10;rw [<-uQ (es.take i) e (λe=>cM W (DV F es (dM (eT ws)) (dG mix) (dG cs) e)),<-tk] at rs10;have RG10':IR H10 zs10 W λw=>dY (es.take (i+1)) (BZ F es (dM (eT ws)) w):=RG10.eq λw hw=>by rw [if_pos hw]
   have t10:dA H9 H10:=b10.t eR9;have ep10:=b10.at (Ne.symm nRp) e9;have eL10:=b10.at (Ne.symm nRL) eL9;have S10:aU H H10:=aU.thru hR0 S9 b10;have D10:=D9.t t10;refine ⟨_,rfl,jS (t10 _ _ hsa) (cV (j:=0) hy0) ?_⟩;obtain ⟨_,eb0,hb0⟩:=(ry0.t t10).v;cases eb0;refine nS hb0 rfl ⟨_,_,rfl,rfl,_,rfl,sI (λon=>?_) (λon=>?_)⟩
   ·have sne:s0 e≠0:=on0.mp (by simpa using on);have qy:Qn (iF^(e.1.sum+1)) (2^150) (cC F es e.1*s0 e):=by
     have h1:=RL.qn (N:=iF) (λe he=>(RO.sy e he).qn 0) f4 es.length (aI _) e.1;rw [cP] at h1;have h:=(h1.le (aM (aP Dd few) IK)).mul ((RO.sy e hee).qn 0);rw [Nat.mul_one,<-Nat.pow_succ] at h;exact h
    refine ⟨_,rfl,ML (t10 _ _ hcu) ?_⟩;rw [aA,hel];refine ⟨_,rfl,Oo,Oo,?_⟩;rw [Int.toNat_natCast];refine fS (λj σ H'=>∃(o12 o13 o14:Am) (kvs:List (List fE × V)),σ=[some (.ref at_),some (.ref aa),some (.ref a),some (.ref L3),some (.ref p),some (.ref R),some sv10,some (.ref cu),some (.ref sa),o9',o10',o11',o12,o13,o14]/\aR p H10 H'/\H' p=some (.dT kvs)/\kvs.length<=1+4*i+j/\DQ K H' kvs λd=>cC F (es.take i) d+cC F es e.1*s0 e*cM j λf=>if bQ e.1 f=d then 1 else 0)
     ⟨_,_,_,kvs,rfl,(aU.refl _).but,ep10,Oo,D10.eq λd=>by rw [gZ];grind⟩ ?_ ?_
    ·rintro j σ H11 hj ⟨o12',o13',o14',kv11,rfl,b11,e11,l11,D11⟩;rw [show (0:Int)+(j:Int)=(j:Int) by omega];have t11:dA H10 H11:=aR.tT b11 ep10;have t911:=t10.trans t11;refine ⟨_,rfl,_,rfl,?_⟩;refine jI (i:=j) (nU (t911 _ _ hcu)) Oo Oo λv12 H12 s12 r12=>?_;obtain ⟨cm,rfl,hcm⟩:=gK r12;have t912:=t911.trans s12.t;have e12:=s12 _ _ e11;have D12:=D11.t s12.t;generalize hm:bQ e.1 j=m at hcm;have msum:m.sum=e.1.sum+1:=by rw [<-hm];exact hZ Oo
     have mks:m∈es.map (·.1):=by rw [<-hm];exact RL.fwd e hee sne j hj
     have mM:m.sum<=M:=by obtain ⟨e',he',rfl⟩:=aX.mp mks;exact RO.sum e' he'
     have own:cC F (es.take i) e.1+cC F es e.1*s0 e*(cM j λf=>if bQ e.1 f=e.1 then 1 else 0)=cC F es e.1:=by
      rw [fat,dH (g:=λ_=>0) λf hf=>?_,mK]
      ·grind
      ·rw [if_neg λq=>?_];have:=hZ (c:=e.1) (j:=f) Oo;rw [q] at this;exact Oo
     obtain ⟨va',hva',fva'⟩:=D12.val (d:=e.1) (by show cC F (es.take i) e.1+_≠0;rw [own];grind);rw [own] at fva';refine ⟨_,rfl,_,rfl,NH e12 (c:=ci e.1) (by rw [eJ];exact t912 _ _ hcu) hva' ?_⟩;refine ⟨_,rfl,jS (t912 _ _ hsa) (cV (j:=0) hy0) ?_⟩;refine fN fva'.v ((ry0.t t912).v) (cF _) fn0.low (lO ok nA (sG Dd)) (lO ok n0 Nat.one_le_two_pow) λq13 H13 hq13 e13 s13=>?_;have em:jC (iI (cC F es e.1)) f0=iI (cC F es e.1*s0 e):=iS (gO (cF _) fn0.low) (cF _) (by rw [iH (cF _).pos fn0.low.pos,eW,eW,es0]);rw [em] at e13;have hcm13:=s13 _ _ hcm;have e13p:=s13 _ _ e12;refine ⟨_,rfl,p,rfl,.inr ⟨kv11,.inl e13p⟩,_,rfl,?_⟩;refine nZ (by show 2<=64;decide) λq14 H14 hq14 e14 s14=>?_;have D14:=D12.t (s13.trans s14).t;have hnz:gU K H14 (0,1) (.ref q14):=gU.of (dJ (f:=(0,1)) e14);have hg:=D14.get m hnz;have qX:Qn (iF^m.sum) (2^155) (cC F (es.take i) m+cC F es e.1*s0 e*cM j λf=>if bQ e.1 f=m then 1 else 0):=by
      have h1:=RL.qn (N:=iF) (λe he=>(RO.sy e he).qn 0) f4 i Oo m;have h1':=h1.le (aM (aP Dd (show i<=64 by omega)) IK);have h3:Qn 1 4 (cM j λf=>if bQ e.1 f=m then 1 else 0):=by
       have:=Qn.sumR (N:=1) (B:=1) (n:=j) (f:=λf=>if bQ e.1 f=m then 1 else 0) λf _=>by
        split
        ·exact Qn.one' _
        ·exact Qn.zero _ _
       exact this.le Oo
      have h4:=qy.mul h3;rw [Nat.mul_one,<-msum] at h4;refine (h1'.add h4).le ?_;have:(2:Nat)^150+2^150*4<=2^155:=Kk;exact this
     generalize hX:cC F (es.take i) m+cC F es e.1*s0 e*(cM j λf=>if bQ e.1 f=m then 1 else 0)=Xm at qX hg;have nX:Fn (qT 1 Nc) (2^155) (iI Xm):=(zW qX (d46 Oo)).fq;have nY:Fn (qT 1 Nc) (2^150) (iI (cC F es e.1*s0 e)):=(zW qy (d46 Oo)).fq;refine ⟨_,oS.ct (c:=ci m) (s14 _ _ e13p) (by rw [eJ];exact s14 _ _ hcm13),⟨_,rfl,?_⟩⟩;refine mQ hg (gU.of (dJ (s14 _ _ e13))) (cF _) (cF _) (lO ok nX (sG Dd)) (lO ok nY (sG Dd)) λq15 H15 hq15 e15 s15=>?_;rw [DL] at e15;refine ⟨_,rfl,_,rfl,?_⟩;have e15p:=s15 _ _ (s14 _ _ e13p);refine SG e15p (c:=ci m) (by rw [eJ];exact s15 _ _ (s14 _ _ hcm13)) Oo λH16 e16 b16=>?_;have t16:dA H15 H16:=aR.tT b16 e15p;refine ⟨_,_,_,_,rfl,(b11.trans (((s12.trans s13).trans s14).trans s15).but).trans b16,e16,?_,?_⟩
     ·have:=fD kv11 (kT (ci m)) (V.ref q15);exact Oo
     ·have D15:=D14.t s15.t;have D16:=(D15.put (c:=m) (v:=.ref q15) (y:=cC F es e.1*s0 e) (by rw [hX];exact .inl (dJ e15))).t t16;refine D16.eq λd=>?_;rw [eE,hm];by_cases q:m=d
      ·rw [if_pos q,if_pos q];grind
      ·rw [if_neg q,if_neg q];grind
    ·rintro σ H11 ⟨o12',o13',o14',kv11,rfl,b11,e11,l11,D11⟩;have t11:dA H10 H11:=aR.tT b11 ep10;refine ⟨_,_,_,_,_,_,_,_,kv11,zs10,sv10,rfl,aU.thru hp0 S10 b11,b11.at nL3p eL10,e11,Oo,D11.eq λd=>?_,b11.at nRp eR10,RG10'.t t11,rs10.flat t11 (cT _)⟩;rw [tk,kR,fat];rfl
   ·have sz:s0 e=0:=bM λz=>absurd (on0.mpr z) (by simpa using on);refine ⟨_,_,_,_,_,_,_,_,kvs,zs10,sv10,rfl,S10,eL10,ep10,Oo,D10.eq λd=>?_,eR10,RG10',rs10⟩;rw [tk,kR,sz];grind
 ·rintro σ H9 ⟨o7,o8,o9,o10,o11,o12,o13,o14,kvs,zs,sv,rfl,S9,eL9,e9,l9,D9,eR9,RG9,rs9⟩;rw [lx,cP] at RG9 rs9;rw [<-SQ] at rs9;have lz:=RG9.1;refine ⟨_,rfl,R,rfl,⟨_,fI.of eR9⟩,hV (λj y H'=>j<W/\cE H' (gF (OF F W es (eT ws) j)) y) (λj y H1 H2 s ⟨h0,h⟩=>⟨h0,h.flat s (cT _)⟩) Oo eR9 (λj x H' Q' hx s' k'=>?_) (λD ys H10 hD eD s10 hy hr10=>?_)⟩
  ·have hj:j<W:=by have:=(aF.mp hx).1;exact Oo
   obtain ⟨v,hv,rv'⟩:=RG9.2 j hj;rw [hx] at hv;cases hv;refine nZ (by show 2<=64;decide) λq10 H10 hq10 e10 s10=>⟨_,rfl,?_⟩;have n1:Fn (qT 1 Nc) (2^160) (iI (dY es (BZ F es (dM (eT ws)) j))):=by
    have:=RO.rsq f4 TQ es.length hj;rw [cP] at this;exact (zW this (d46 Oo)).fq
   refine HH (gU.of (dJ (f:=(1,1)) e10)) (gU.of ((rv'.same s').same s10)) RP (cF _) (lO ok (Fn.one _) Nat.one_le_two_pow) (lO ok n1 (sG Dd)) λq11 H11 hq11 e11 s11=>?_;have ew:qS (1,1) (IA (iI (dY es (BZ F es (dM (eT ws)) j))))=OF F W es (eT ws) j:=by
    unfold OF;rw [<-KJ,aAk];rfl
   rw [ew] at e11;exact k' _ H11 (s10.trans s11) ⟨hj,dJ e11⟩
  ·refine ⟨_,rfl,?_⟩;refine nZ (by show 2<=64;decide) λq11 H11 hq11 e11 s11=>?_;have ry:aQ H10 (((List.range W).map (OF F W es (eT ws))).map gF) ys:=aQ.ofRange Oo hr10;exact k q11 D ys sv H11 ((S9.trans s10).trans s11) e11 (s11 _ _ eD) (ry.same s11) ((rs9.same s10).same s11)
end
abbrev VL:Stmt:=(top 58)
def aBM:bZ ["_law_trial_here","_law_aim_here","_law_rule","_law_prices","_law_wrongs","_law_spending"] ["_law_trial_here","_law_aim_here","_law_rule","_law_prices"] (aY VL):=⟨rfl,rfl,rfl,Kk,rfl,Kk,Kk⟩
@[irreducible] def mP(K:Aa):Sp:=λvs H Q _=>∃(t r av pv:V) (es:List fV) (F W M A Np Nc:Nat) (fs:Ah) (ws:List (Str × Ak)) (bs mix cs ps:Ak),vs=[t,av,r,pv]/\cE H (pL fs ws) t/\IQ K H es r/\cE H (lV A bs mix cs) av/\cE H (pP ps) pv/\rZ F W M es/\2<=F/\F<=4/\M<=6/\W<=4/\fs.length=F/\(∀x∈ws,x.2.length=F)/\NW W ws/\DT Nc W M es mix cs/\0<Np/\Np<=1000000000000000/\ps.length=W/\(∀f∈ps,Fn Np 1000 f)/\∀v H',aU H H'->cE H' (gF (iI (xP F W es (dM (eT ws)) (dG mix) (dG ps) (dG cs)))) v->Q v H'
def BP{K:Aa}{t r av pv:V}(h1:cE H (pL fs ws) t)(h2:IQ K H es r)(h0:cE H (lV A bs mix cs) av)(h00:cE H (pP ps) pv)(h3:rZ F W M es)(h4:2<=F)(h5:F<=4)(h6:M<=6)(h7:W<=4)(h70:fs.length=F)(h71:∀x∈ws,x.2.length=F)(h8:NW W ws)(h9:DT Nc W M es mix cs)(h10:0<Np)(h11:Np<=1000000000000000)(h12:ps.length=W)(h13:∀f∈ps,Fn Np 1000 f)(k:∀v H',aU H H'->cE H' (gF (iI (xP F W es (dM (eT ws)) (dG mix) (dG ps) (dG cs)))) v->Q v H'):mP K [t,av,r,pv] H Q E:=by
 unfold mP;exact ⟨t,r,av,pv,es,F,W,M,A,Np,Nc,fs,ws,bs,mix,cs,ps,rfl,h1,h2,h0,h00,h3,h4,h5,h6,h7,h70,h71,h8,h9,h10,h11,h12,h13,k⟩
section
variable{F W M Np Nc:Nat}{es:List fV}{ws:List (Str × Ak)}{mix cs ps:Ak}
def rZ.pw(R:rZ F W M es)(f4:F<=4)(m6:M<=6)(T:NW W ws)(pl:ps.length=W)(pn:∀f∈ps,Fn Np 1000 f){w:Nat}(hw:w<W):Qn (qT Np Nc) (2^171) (dG ps w*(1-kL F es (dM (eT ws) w) w)):=by
 have h:=(pn _ (eV (a:=(0,1)) (show w<ps.length by omega))).q.mul (R.wr f4 T hw);refine zW (h.le Kk) ?_;obtain ⟨r,hr⟩:=Nat.pow_dvd_pow iF (show M+M+1<=15 by omega);exact ⟨Nc*r,by unfold qT;rw [hr];ac_rfl⟩
end
section
def aEg(F:jP K "_law_priced" "_law_priced" VL f fd)(T:kX K mg c)(FQ13:gR dR P w K mg base 4 "_law_of_rule" ["_law_trial_here","_law_aim_here","_law_rule"] (mS K))(FQ14:gR dR P w K mg base 2 "_law_plus" ["_law_one","_law_other"] (mR K))(FQ20:gR dR P w K mg base 2 "_law_times" ["_law_one","_law_other"] (kA K))(FQ21:gR dR P w K mg base 3 "_law_total" ["_law_some_here"] (mE K)):eC P w K mg base dR 5 f fd ["_law_trial_here","_law_aim_here","_law_rule","_law_prices"] (mP K):=by
 refine F.oky aBM λvs H Q E h=>?_;unfold mP at h;obtain ⟨t,r,av,pv,es,F,W,M,A,Np,Nc,fs,ws,bs,mix,cs,ps,rfl,rt,rr,ra,rp,RO,f2,f4,m6,w4,lf,lx2,TQ,AQ,p0,p1,pl,pn,k⟩:=h;refine ⟨rfl,λcdv A outer s hr=>?_⟩;have ok:TX Np Nc:=⟨p0,p1,AQ.co.c0,AQ.co.c1⟩;have big3:qT Np Nc<2^3000:=aN ok.big.2 (aP Dd Dd);obtain ⟨ap,vp,rfl,hap,rvp⟩:=kQ rp;refine ⟨_,(aH (GV (bV FQ13 (hr.mono Dd) (aJ (aD 0) (aJ (aD 1) (aJ (aD 2) aE)))) (sC rfl (gL (cX (i:=4) aBM.nd rfl (Or.inr rfl)) (gL (cX (i:=5) aBM.nd rfl (Or.inl rfl)) oT))))
  (bD (cH (bV FQ14 (hr.mono Dd) (aJ (aD 5) (aJ (bV FQ21 (hr.mono Dd) (aJ (gI (dP.of (psc:=aY VL) (N:=["_law_trial_here","_law_aim_here","_law_rule","_law_prices","_law_wrongs","_law_spending"]) (N':=["_law_way","_law_prices","_law_wrongs"]) (js:=[3,4]) Kk rfl rfl rfl) (cS rfl T.b_range (aJ (dX gG (by rfl) T.b_len Kk (aJ (aD 4) aE)) aE)) (λ_ _ _ _=>dW) (λ_ _ _ _=>(bV FQ20 (hr.mono Dd) (aJ (bP (iZ K) (aD 1) (aD 0) (λ_ _=>rfl)) (aJ (bP (iZ K) (aD 2) (aD 0) (λ_ _=>rfl)) aE))))) aE)) aE)))))),?_⟩
 refine ⟨_,rfl,_,rfl,_,rfl,?_⟩;refine BQ rt rr ra RO f2 f4 m6 w4 lf lx2 TQ AQ λa1 L ys sv H1 s1 e1 eL rL rs=>?_;have ly:ys.length=W:=by rw [rL.len,aA,aA,bA]
 refine ⟨a1,[.ref L,sv],rfl,iJ.of e1,rfl,.ref L,[sv],rfl,sv,[],rfl,rfl,⟨_,rfl,⟨_,rfl,QH eL ?_⟩⟩⟩;rw [ly];refine ⟨_,rfl,Oo,Oo,?_⟩;rw [Int.toNat_natCast];refine hJ (λi y H'=>i<W/\cE H' (gF (iI (dG ps i*(1-kL F es (dM (eT ws) i) i)))) y) (λi y H1 H2 s ⟨h1,h2⟩=>⟨h1,h2.flat s (cT _)⟩) Oo (λi H' Q' hi s' k'=>?_) (λD us H2 hD e2 s2 hy hr2=>?_)
 ·have hi:i<W:=Oo;obtain ⟨g,hg⟩:∃g,ps[i]?=some g:=⟨_,aB Oo⟩;obtain ⟨vg,hvg,rvg⟩:=eG rvp hg;have gn:=pn g (aG hg);obtain ⟨vw,hvw,rvw⟩:=eG rL (show ((List.range W).map (OF F W es (eT ws)))[i]?=some (OF F W es (eT ws) i) by rw [aL,cN hi];rfl);rw [Int.zero_add];refine ⟨_,rfl,_,rfl,jS ((s1.trans s') _ _ hap) (cV hvg) ?_⟩;refine ⟨_,rfl,_,rfl,FR (s' _ _ eL) (cV hvw) ?_⟩;have n1:Fn (qT Np Nc) 1000 g:=Qn.f gn.low (zW gn.q ⟨Nc*iF^15,by unfold qT;rw [Nat.mul_assoc]⟩);have n2:Fn (qT Np Nc) (2^161) (OF F W es (eT ws) i):=(zW (RO.wr f4 TQ hi) (d46 Oo)).fq;refine fN (gU.of ((rvg.same s1).same s')) (gU.of (rvw.same s')) gn.low (cF _) (lO ok n1 Kk) (lO ok n2 (sG Dd)) λq3 H3 hq3 e3 s3=>?_;have em:jC g (OF F W es (eT ws) i)=iI (dG ps i*(1-kL F es (dM (eT ws) i) i)):=iS (gO gn.low (cF _)) (cF _) (by unfold OF;rw [iH gn.low.pos (cF _).pos,eW,eW,BG hg]);rw [em] at e3;exact k' _ H3 s3 ⟨hi,dJ e3⟩
 have r2:aQ H2 (((List.range W).map λi=>iI (dG ps i*(1-kL F es (dM (eT ws) i) i))).map gF) us:=aQ.ofRange Oo hr2;have fl:∀f∈(List.range W).map (λi=>iI (dG ps i*(1-kL F es (dM (eT ws) i) i))),Fn (qT Np Nc) (2^171) f:=λf hf=>by
  obtain ⟨i,hi,rfl⟩:=aX.mp hf;exact (RO.pw f4 m6 TQ pl pn (bU.mp hi)).fq
 refine nK e2 (sM.of r2) (yS fl ok.big.1 big3 (by rw [aA,bA];exact Oo) (aP Dd Dd)) λv H3 s3 r3=>?_;rw [aAh (f:=λi=>dG ps i*(1-kL F es (dM (eT ws) i) i)) λe _=>⟨cF _,eW _⟩] at r3;have n5:Fn (qT Np Nc) (2^172) (iI (rX F W es (dM (eT ws)) (dG mix) (dG cs))):=(zW (RO.costn f4 w4 TQ AQ) (XO Oo)).fq;have n6:Fn (qT Np Nc) (W*2^171) (iI (cM W λi=>dG ps i*(1-kL F es (dM (eT ws) i) i))):=(Qn.sumR (n:=W) λw hw=>RO.pw (Nc:=Nc) f4 m6 TQ pl pn hw).fq;refine mQ (gU.of ((rs.same s2).same s3)) (gU.of r3) (cF _) (cF _) (lO ok n5 (sG Dd)) (lO ok n6 (aM (bS _ w4) Kk)) λq4 H4 hq4 e4 s4=>?_;rw [show dY (List.range W) (λi=>dG ps i*(1-kL F es (dM (eT ws) i) i))=cM W λi=>dG ps i*(1-kL F es (dM (eT ws) i) i) from rfl,DL] at e4;exact k _ H4 (((s1.trans s2).trans s3).trans s4) (dJ e4)
end
end Kw
namespace L2
open PySem PySem.Spec PySem.W PyProof.Rows HT
abbrev RU(k:Af):PyData:=.tuple [.int (k.headD 0),cD k.tail]
def aCS{H:Hp}{k:Af}{v:V}(h:cE H (RU k) v):∃a d,v=.ref a/\H a=some (.tup [.int (k.headD 0),.ref d])/\H d=some (.tup (k.tail.map V.int))/\cE H (cD k.tail) (.ref d):=by
 unfold cE at h;obtain ⟨a,xs,rfl,h1,h2⟩:=h;unfold aQ at h2;obtain ⟨x,xs',rfl,h3,h4⟩:=h2;unfold aQ at h4;obtain ⟨y,ys',rfl,h5,h6⟩:=h4;unfold aQ at h6;cases (show ys'=[] from h6);cases (show x=V.int (k.headD 0) from h3);obtain ⟨d,rfl,hd⟩:=IN h5;exact ⟨a,d,rfl,h1,hd,h5⟩
def IW(h:Heap)(v:Value)(k:Af):Prop:=∃b d t its,v=.ref b/\IsTup h b #[.int (k.headD 0) t,.ref d]/\IsTup h d (List.toArray its)/\IntsAre its k.tail/\(∃as,Reads h (.ref d) (cD k.tail) as)/\k≠[]
theorem IH{h:Heap}:∀{vs:Ag}{kz:Ac}{i:Nat},Paired (IW h) vs kz->i<vs.length->IW h (vs.getD i Value.none) (kz.getD i [])
 | _,_,_,.nil,hi=>by simp at hi
 | _,_,0,.cons t r,hi=>t
 | v::vs,c::cs,i+1,.cons t r,hi=>by
  have:=IH (i:=i) r (by simpa using hi);simpa using this
theorem AC{h:Heap}:∀{vs:Ag}{kz:Ac},Paired (IW h) vs kz->∃fs,KatTups h vs fs/\fs.length=vs.length/\∀v∈fs,∃i t,v=Value.int i t
 | _,_,.nil=>⟨[],KatTups.nil,rfl,λv hv=>by cases hv⟩
 | v::vs,k::kz,.cons t r=>by
  obtain ⟨fs,h1,h2,h3⟩:=AC r;obtain ⟨b,d,t,its,rfl,⟨o,ho,hc,n,hd⟩,_⟩:=t;exact ⟨.int (k.headD 0) t::fs,KatTups.cons ho hc hd (by simp) h1,by simp [h2],λv hv=>by
   rcases aZ.mp hv with rfl | hv
   ·exact ⟨_,_,rfl⟩
   ·exact h3 v hv⟩
theorem FO:∀a b:Af,oM a b=jX a b
 | [],[]=>rfl
 | [],y::b=>(wU y b).symm
 | x::a,[]=>(tU _).symm
 | x::a,y::b=>by rw [xX,pC,FO a b]
section
variable{prog:Program}{w:World}{A:Around}{E:Value->Shared->Prop}{s:Shared}
def aCR{x y:Value}{k l:Af}{Q:Bool->Shared->Prop}(hu:A.units+64<cLine)(hx:IW s.heap x k)(hy:IW s.heap y l)(q:Q (jX k l) s):wpAny (model prog w) A (keyLt' (tuples' true) x y) Q E s:=by
 obtain ⟨b,d,t,its,rfl,⟨o,ho,hc,n,hd⟩,td,ti,⟨as,ra⟩,kn⟩:=hx;obtain ⟨b2,d2,t2,its2,rfl,⟨o2,ho2,hc2,n2,hd2⟩,td2,ti2,⟨bs,rb⟩,ln⟩:=hy;refine kat_lt ho hd ho2 hd2 ?_;have ek:k=k.headD 0::k.tail:=by
  cases k with
  | nil=>exact absurd rfl kn
  | cons _ _=>rfl
 have el:l=l.headD 0::l.tail:=by
  cases l with
  | nil=>exact absurd rfl ln
  | cons _ _=>rfl
 rw [ek,el,pC] at q;generalize k.headD 0=m at *;generalize l.headD 0=m2 at *;show KatLex prog w A true _ Q [(.int m t,.int m2 t2),(.ref d,.ref d2)] 0 s;refine kat_cons (wpAny_eqBool_int ?_);by_cases e:m=m2
 ·rw [if_pos e] at q;rw [show (m == m2)=true by simp [e]];refine kat_yes (kat_cons ?_);have eqv:=SeqAt.eqAt_reads (cD k.tail) (cD l.tail) A s _ _ as bs ra rb (xY _) (xY _) (by
   have h1:(cD k.tail).depth<=2:=by
    have:=KP k.tail;simp only [PyData.depth];exact Oo
   omega)
  refine eqv prog w _ _ ?_;rw [XN];by_cases e2:k.tail=l.tail
  ·rw [cL e2];refine kat_yes (kat_nil ?_);rw [e2,rG] at q;simpa using q
  ·rw [cJ e2];refine kat_no (kat_one _ _ ?_);refine IG td td2 (by simpa using ti) (by simpa using ti2) Oo ?_;rw [FO];exact q
 ·rw [if_neg e] at q;rw [show (m == m2)=false by simp [e]];exact kat_no (oneLt_int q)
def JM{a kS:Addr}{st:SortSt}{ks out:Ag}{e e1:Nat}{P:PySem.Fin->Shared->Prop}(hout:(arrOf st).map (·.2)=List.toArray out)(hz:out.length<64)(hkz:ks.length<64)(hf:failedOf st=none)
  (hk:s.heap.get? kS=some (seqObj "list" (List.toArray ks) e)) (ha:s.heap.get? a=some (seqObj "list" #[] e1)) (ne:a≠kS)
  (h:P (.done (.ret .none)) { s with heap:=(s.heap.update kS (Obj.mapSeq λ_=>#[])).update a (Obj.mapSeq λ_=>List.toArray out) }):wpAny (model prog w) A (ksk_tail a false e1 (.ref kS) st) P E s:=by
 unfold ksk_tail;dsimp only;rw [hout];refine wpAny_bind (listUpdate_at hk rfl ?_ (by rw [aW,sizeLine_eq];exact Oo) (cG _));refine wpAny_bind (wpAny_letGo ?_);have ha2:(s.heap.update kS (Obj.mapSeq λ_=>(#[]:Ai))).get? a=some (seqObj "list" #[] e1):=by rw [dB _ _ _ _ ne];exact ha
 refine wpAny_bind (seqEpoch_at ha2 rfl ?_);refine wpAny_bind (listUpdate_at ha2 rfl ?_ (cG _) (by
  simp only [Bool.false_eq_true,if_false];rw [aW,sizeLine_eq];exact Oo))
 rw [hf];simp only [bne_self_eq_false,Bool.false_eq_true,if_false];exact wpAny_pure h
def aAn{a kS:Addr}{vs ks:Ag}{kz:Ac}{e e1:Nat}{P:PySem.Fin->Shared->Prop}(hl:ks.length=vs.length)(h64:vs.length<64)(hu:A.units+64<cLine)(hp:Paired (IW s.heap) ks kz)
  (hk:s.heap.get? kS=some (seqObj "list" (List.toArray ks) e)) (ha:s.heap.get? a=some (seqObj "list" #[] e1)) (ne:a≠kS)
  (h:∀p:Array Nat,fZ vs.length p->(yR vs.length (uJ kz)->uK (uJ kz) p vs.length)->P (.done (.ret .none)) { s with heap:=(s.heap.update kS (Obj.mapSeq λ_=>#[])).update a (Obj.mapSeq λ_=>List.toArray (p.toList.map λi=>vs.getD i Value.none)) }) :
  wpAny (model prog w) A (ksk_end a false vs.toArray e1 (.ref kS) (List.toArray ks)) P E s:=by
 unfold ksk_end;dsimp only;by_cases h2:vs.toArray.size<2
 ·simp only [Bool.false_eq_true,if_false,if_pos h2];refine wpAny_bind (wpAny_pure ?_);rw [StateT.run_pure];refine wpAny_bind (wpAny_pure ?_);dsimp only;have ea:=kat_snds (ks:=ks) (vs:=vs) (st:=SortSt.mk' general' ((List.toArray ks).zip vs.toArray) #[] 7 none) (p:=List.toArray (List.range vs.length)) hl (by
   have e:=kas_range ((List.toArray ks).zip vs.toArray);rw [show ((List.toArray ks).zip vs.toArray).size=vs.length by simp [hl]] at e;exact e.symm)
  exact JM ea (by rw [aA,bA];exact h64) Oo rfl hk ha ne (h _ (Array.Perm.refl _) λ_ a b h1 h3=>by rw [aW] at h2;exact Oo)
 ·simp only [Bool.false_eq_true,if_false,if_neg h2];have hl2:2<=vs.length:=by rw [aW] at h2;exact Oo
  obtain ⟨fs,k1,k2,k3⟩:=AC hp;refine wpAny_bind (kat_kind (T:=.type "int") k1 Oo (λv hv=>?_) rfl ?_)
  ·obtain ⟨i,t,rfl⟩:=k3 v hv;exact .now
  refine wpAny_bind (wpAny_mono (kat_run (ks:=ks) (vs:=vs) (G:=λp s'=>s'=s/\fZ vs.length p/\(yR vs.length (uJ kz)->uK (uJ kz) p vs.length))
   (Q:=λst' s'=>s'=s/\failedOf st'=none/\∃p:Array Nat,p.size=vs.length/\(fZ vs.length p/\(yR vs.length (uJ kz)->uK (uJ kz) p vs.length))/\arrOf st'=p.map (kas_item ((List.toArray ks).zip vs.toArray)))
   hl hl2 h64 (λp' st' s' a1 a2 a3 a4=>⟨a4.1,a3,p',a1,a4.2,a2⟩)
   (dO.wp (n:=vs.length) (lt:=uJ kz) (R:=λp=>fZ vs.length p/\(yR vs.length (uJ kz)->uK (uJ kz) p vs.length)) (λi j C hi hj hC=>?_) (λp hp=>⟨rfl,hp⟩) (ET hl2))) ?_ λ_ _ e=>e)
  ·unfold kas_ask;exact aCR hu (IH hp Oo) (IH hp Oo) hC
  rintro ⟨⟨⟩,st'⟩ s' ⟨rfl,hf,p,hps,hg,har⟩;dsimp only;exact JM (kat_snds hl har) (by rw [aA,Array.length_toList,hps];exact h64) Oo hf hk ha ne (h p hg.1 hg.2)
end
section
variable{X:Cx}{pins:Ad}{σ:St}{H:Hp}{s:Shared}
theorem RS(I:cI X pins σ H s):∀{kz:Ac}{ys:Al}{us:Ag},aQ H (kz.map RU) ys->(∀k∈kz,k≠[])->dF ys us->Paired (IW s.heap) us kz
 | [],ys,us,r,hc,v=>by
  unfold aQ at r;cases (show ys=[] from r);cases v;exact .nil
 | c::cs,ys,us,r,hc,v=>by
  rw [bI] at r;unfold aQ at r;obtain ⟨y,ys',rfl,r1,r2⟩:=r;obtain ⟨u,us',rfl,rv,v'⟩:=sS v;refine .cons ?_ (RS I r2 (λc h=>hc c (aT _ h)) v');obtain ⟨a,d,rfl,h1,h2,h3⟩:=aCS r1;cases rv;obtain ⟨its,rr,pl,_⟩:=I.tuple (iJ.of h1);obtain ⟨u1,us1,rfl,⟨t,rfl⟩,ra⟩:=sS rr;obtain ⟨u2,us2,rfl,ru2,rb⟩:=sS ra;cases rb;cases ru2;obtain ⟨jts,r2,pl2,_⟩:=I.tuple (iJ.of h2);exact ⟨a,d,t,jts,rfl,pl,pl2,nC r2,h3.reads I rfl,hc c (aS ..)⟩
def IY(sp:Sp)(H:Hp)(ys:Al)(kz:Ac):Prop:=kz.length=ys.length/\(∀k∈kz,k≠[])/\∀(i:Nat) (y:V) (k:Af) (H':Hp),ys[i]?=some y->kz[i]?=some k->aU H H'->sp [y] H' (λv H''=>aU H' H''/\cE H'' (RU k) v) E0
def RT(k:Af):fO (RU k)=true:=by
 have:∀c:Af,fY (c.map PyData.int)=true:=λc=>by
  induction c with
  | nil=>rfl
  | cons x c ih=>show (fO (.int x)&&fY (c.map PyData.int))=true;rw [ih];rfl
 show (fO (.int (k.headD 0))&&(fO (cD k.tail)&&true))=true;rw [show fO (cD k.tail)=true from this _];rfl
theorem FQ:∀kz:Ac,fY (kz.map RU)=true
 | []=>rfl
 | k::kz=>by show (fO (RU k)&&fY (kz.map RU))=true;rw [FQ kz,RT];rfl
def dF.snoc'{xs:Al}{us:Ag}{x:V}{u:Value}(h:dF xs us)(r:dN x u):dF (xs++[x]) (us++[u]):=h.append (.cons r .nil)
def UY{k:Nat}{f:Addr}{fd:FuncData}{ps:Ah}{sp:Sp}(F:eC X.prog X.w X.K X.mg X.base dR k f fd ps sp)(hb:qW X.K fd ps [])(hr:iO (k+2) X.A){a kS:Addr}{ys:Al}{vs:Ag}{kz:Ac}{e1:Nat}
  {P:PySem.Fin->Shared->Prop} {E:Value->Shared->Prop} (I:cI X ((kS,seqObj "list" #[] 0)::(a,seqObj "list" #[] e1)::pins) σ H s) (nk:X.s₀.heap.objs.size<=kS) (np:∀p∈X.pn++((a,seqObj "list" #[] e1)::pins),p.1≠kS)
  (rv:dF ys vs) (h64:vs.length<64) (kb:IY sp H ys kz)
  (h:∀(p:Array Nat) (ks:Ag) (e:Nat) (H':Hp) (s':Shared),aU H H'->cI X ((kS,seqObj "list" (List.toArray ks) e)::(a,seqObj "list" #[] e1)::pins) σ H' s'->fZ vs.length p->(yR vs.length (uJ kz)->uK (uJ kz) p vs.length) ->
   P (.done (.ret .none)) { s' with heap:=(s'.heap.update kS (Obj.mapSeq λ_=>#[])).update a (Obj.mapSeq λ_=>List.toArray (p.toList.map λi=>vs.getD i Value.none)) }) :
  wpAny (model X.prog X.w) X.A.in1.in1 (ksk_rest a (.ref f) false vs.toArray e1 (.ref kS)) P E s:=by
 obtain ⟨kl,kn,kc⟩:=kb;have lv:=rv.length;have ne:a≠kS:=np (a,seqObj "list" #[] e1) (aO _ (aS ..));unfold ksk_rest;refine wpAny_bind (wpAny_rule ?_);rw [List.forIn_toArray];refine wpAny_bind (ksk_fold (λi s'=>∃(H':Hp) (ks:Ag) (kv:Al) (e:Nat),cI X ((kS,seqObj "list" (List.toArray ks) e)::(a,seqObj "list" #[] e1)::pins) σ H' s'/\aU H H'/\dF kv ks/\aQ H' ((kz.take i).map RU) kv) vs 0 s
  ⟨H,[],[],0,I,aU.refl _,.nil,aQ.nil⟩ (λj x s' hx hI=>?_) λs' hI=>?_)
 ·obtain ⟨H',ks,kv,e,I',sH,rk,rr⟩:=hI;rw [Nat.zero_add] at rr ⊢;have hj:j<vs.length:=(aF.mp hx).1;obtain ⟨y,hy,ry⟩:∃y,ys[j]?=some y/\dN y x:=by
   obtain ⟨u,hu,ru⟩:=rv.get (i:=j) (x:=ys[j]'Oo) (by simp [show j<ys.length by omega]);rw [hx] at hu;cases hu;exact ⟨_,aB Oo,ru⟩
  obtain ⟨kk,hkk⟩:∃kk,kz[j]?=some kk:=⟨_,aB Oo⟩;have lk:ks.length=min j kz.length:=by rw [<-rk.length,rr.len,aA,cK]
  have spec:=kc j y kk H' hy hkk sH;have hl:([x]++([]:Ag)).length=ps.length:=by rw [<-F.len _ _ _ _ spec];rfl
  have run:=F.run X.A.in1.in1 X.stack s' H' ⟨[x],[]⟩ [x] [y] _ E0 hr.in1.in1 I'.env0.in1.in1 (hb s' [x] I'.kIn hl) (.cons ry .nil) spec;refine wpAny_bind (wpAny_attempt (wpAny_call (codeAny_mono run λr s2 hq=>?_)));cases r with
  | error e=>exact False.elim hq
  | ok fl =>
   cases fl with
   | next=>exact False.elim hq
   | brk=>exact False.elim hq
   | cont=>exact False.elim hq
   | ret u =>
    obtain ⟨v,H2,I2,rvu,s2',rkey⟩:=I'.after hq;dsimp only;have pk:=I2.pin (kS,seqObj "list" (List.toArray ks) e) (aO _ (aS ..));have ea:(List.toArray ks).push u=List.toArray (ks++[u]):=by simp
    obtain ⟨c2,hc2⟩:∃c2,(s2.heap.update kS (Obj.mapSeq (·.push u))).get? kS=some (seqObj "list" (List.toArray (ks++[u])) c2):=⟨_,by rw [<-ea];exact get?_update_seq pk.1 (·.push u)⟩;refine wpAny_bind (listUpdate_at pk.1 rfl ?_ (by rw [aW,sizeLine_eq];exact Oo) (aM (Nat.le_of_eq (Array.size_push ..)) (by rw [aW,sizeLine_eq];exact Oo)));have I3:cI X ((a,seqObj "list" #[] e1)::pins) σ H2 s2:=I2.pins_of λp hp=>I2.pin p (aO _ (aT _ hp));have I4:=I3.turned (it:=kS) (h':=s2.heap.update kS (Obj.mapSeq (·.push u))) (t':=s2.toks) (λb o nb hb=>by rw [dB _ _ _ _ nb];exact hb) pk.2.1 pk.2.2.1 (.inr nk) (λx c hc z=>by
     obtain ⟨v,o,ho,hd⟩:=I3.cell x c hc;rw [z,pk.1] at ho;cases ho;exact pk.2.2.2.2 v hd) np
    refine wpAny_pure ⟨rfl,H2,ks++[u],kv++[v],c2,?_,sH.trans s2',rk.snoc' rvu,?_⟩
    ·refine I4.pins_of λp hp=>?_;rcases aZ.mp hp with rfl | hp
     ·exact ⟨hc2,pk.2.1,pk.2.2.1,pk.2.2.2.1,λv=>by intro z;cases z⟩
     ·exact I4.pin p (aO _ hp)
    ·rw [fT,hkk,bF];exact aQ.snoc (rr.flat s2'.t (FQ _)) rkey
 ·obtain ⟨H',ks,kv,e,I',sH,rk,rr⟩:=hI;rw [Nat.zero_add,List.take_of_length_le Oo] at rr;have pk:=I'.pin (kS,seqObj "list" (List.toArray ks) e) (aO _ (aS ..));have pa:=I'.pin (a,seqObj "list" #[] e1) (aO _ (aT _ (aS ..)));refine wpAny_bind (listItems_at pk.1 rfl ?_);have lk:ks.length=vs.length:=by rw [<-rk.length,rr.len,aA];exact Oo
  exact aAn (kz:=kz) lk h64 hr.in1.in1.units (RS I' rr kn rk) pk.1 pa.1 ne λp g1 g2=>h p ks e H' s' sH I' g1 g2
end
@[irreducible] def EX(K:Aa)(sp:Sp)(x:V)(H:Hp)(Q:VK):Prop:=∃(p:Addr) (ys:Al) (kz:Ac),x=.ref p/\fI K H p ys/\ys.length<64/\IY sp H ys kz /\
 ∀(D:Addr) (ix:Ae) (H':Hp),ix.Perm (List.range ys.length)->(kz.Nodup->(ix.map λi=>kz.getD i []).Pairwise λa b=>jX a b=true)->H D=none->H' D=some (.lst (ix.map λi=>ys.getD i .non))->aU H H'->Q (.ref D) H'
def aCv{K:Aa}{sp:Sp}{p:Addr}{ys:Al}{kz:Ac}{H:Hp}{Q:VK}(h:H p=some (.lst ys))(hz:ys.length<64)(kb:IY sp H ys kz)
  (q:∀(D:Addr) (ix:Ae) (H':Hp),ix.Perm (List.range ys.length)->(kz.Nodup->(ix.map λi=>kz.getD i []).Pairwise λa b=>jX a b=true)->H D=none->H' D=some (.lst (ix.map λi=>ys.getD i .non))->aU H H'->Q (.ref D) H'):EX K sp (.ref p) H Q:=by
 unfold EX;exact ⟨p,ys,kz,rfl,fI.of h,hz,kb,q⟩
def aCf(K:Aa)(sp:Sp)(ta:TE):TE:=λσ H Q=>ta σ H λx H1=>EX K sp x H1 Q
def TM{kz:Ac}{n:Nat}{pm:Array Nat}(hg:fZ n pm)(ha:uK (uJ kz) pm n):(pm.toList.map λi=>kz.getD i []).Pairwise λa b=>jX a b=true:=by
 have hsz:=hg.size;rw [List.pairwise_map,List.pairwise_iff_getElem];intro i j hi hj hij;have hi':i<pm.size:=by simpa using hi
 have hj':j<pm.size:=by simpa using hj
 have e1:pm.toList[i]=pm.getD i 0:=by rw [Array.getElem_toList];exact (by simp [Array.getD,hi']:pm.getD i 0=pm[i]).symm
 have e2:pm.toList[j]=pm.getD j 0:=by rw [Array.getElem_toList];exact (by simp [Array.getD,hj']:pm.getD j 0=pm[j]).symm
 rw [e1,e2];exact ha i j hij Oo
section
variable{X:Cx}{pins:Ad}{σ:St}{H:Hp}{s:Shared}
def MG{K:Aa}(hK:X.K=K){k:Nat}{f:Addr}{fd:FuncData}{ps:Ah}{sp:Sp}(F:eC X.prog X.w X.K X.mg X.base dR k f fd ps sp)(hb:qW X.K fd ps [])(hr:iO (k+2) X.A){x:V}{u:Value}{Q:VK}(I:cI X pins σ H s)(rx:dN x u)(q:EX K sp x H Q) :
  wpAny (model X.prog X.w) X.A (call (.builtin "sorted") [u] [(Str.ofString "key",.ref f)]) (EP X pins σ Q) X.xe s:=by
 subst hK;unfold EX at q;obtain ⟨l,ys,kz,rfl,hq,hz,kb,q⟩:=q;cases (show u=Value.ref l from rx);obtain ⟨vs,rv,pl,hzz⟩:=I.list hq;have lv:=rv.length;obtain ⟨o,n,ho,hcl,hdd,hd⟩:=pl;have hl:s.heap.IsList l vs.toArray:=⟨o,ho,hcl,n,hd⟩;have h64:vs.length<64:=Oo;refine call_function_entry_kw kind_sorted plain_sorted entry_sorted (ksk_s1 _ _) ?_;unfold Builtin.«sorted»;refine wpAny_bind (m:=checkCount _ _ _ _) (wpAny_pure ?_);refine wpAny_bind (collect_list hl ?_ (by rw [sizeLine_eq];exact Oo));have sz0:s.heap.objs.size<=((s.heap.push (seqObj "list" #[] 0)).update s.heap.objs.size (Obj.mapSeq (· ++ vs.toArray))).objs.size:=by rw [Heap.size_update,size_push'];exact Oo
 have kp0:∀b o,s.heap.get? b=some o->((s.heap.push (seqObj "list" #[] 0)).update s.heap.objs.size (Obj.mapSeq (· ++ vs.toArray))).get? b=some o:=λb o hb=>by
  have lt:b<s.heap.objs.size:=aV hb;rw [dB _ _ _ _ (cA lt)];exact aC _ hb
 generalize (s.heap.push (seqObj "list" #[] 0)).update s.heap.objs.size (Obj.mapSeq (· ++ vs.toArray))=h1 at sz0 kp0 ⊢;refine wpAny_bind (wpAny_newList ?_ (by rw [sizeLine_eq];exact Oo));have gD:(h1.push (seqObj "list" vs.toArray 0)).get? h1.objs.size=some (seqObj "list" vs.toArray 0):=bB _ rfl;have sz1:(h1.push (seqObj "list" vs.toArray 0)).objs.size=h1.objs.size+1:=size_push' ..;have kp1:∀b o,s.heap.get? b=some o->(h1.push (seqObj "list" vs.toArray 0)).get? b=some o:=λb o hb=>aC _ (kp0 b o hb);show wpAny _ _ _ _ _ { s with heap:=h1.push (seqObj "list" vs.toArray 0) };generalize hD:h1.objs.size=D at *;generalize h1.push (seqObj "list" vs.toArray 0)=h2 at gD sz1 kp1 ⊢;refine wpAny_bind (wpAny_holding (wpAny_call_entry_kw slot_list_sort ⟨_,gD,rfl⟩ entry_list_sort ?_ (ksk_l1 _ _)));show wpAny (model X.prog X.w) X.A.in1.in1 (Builtin.«list.sort» ⟨[.ref D],[(Str.ofString "key",.ref f)]⟩) _ _ _;rw [ksk_t1];unfold ksk_tree;refine wpAny_bind (listItems_at gD rfl ?_);refine wpAny_bind (listUpdate_at gD rfl ?_ (by rw [aW,sizeLine_eq];exact Oo) (cG _));obtain ⟨e1,g1⟩:∃e1,(h2.update D (Obj.mapSeq λ_=>(#[]:Ai))).get? D=some (seqObj "list" #[] e1):=⟨_,get?_update_seq gD λ_=>#[]⟩;have sz2:(h2.update D (Obj.mapSeq λ_=>(#[]:Ai))).objs.size=D+1:=by rw [Heap.size_update];exact sz1
 have kp2:∀b o,s.heap.get? b=some o->(h2.update D (Obj.mapSeq λ_=>(#[]:Ai))).get? b=some o:=λb o hb=>by
  have lt:b<s.heap.objs.size:=aV hb;rw [dB _ _ _ _ (cA (aN lt sz0))];exact kp1 b o hb
 show wpAny _ _ _ _ _ { s with heap:=h2.update D (Obj.mapSeq λ_=>(#[]:Ai)) };generalize h2.update D (Obj.mapSeq λ_=>(#[]:Ai))=h3 at g1 sz2 kp2 ⊢;refine wpAny_bind (seqEpoch_at g1 rfl ?_);refine wpAny_bind (wpAny_newTuple ?_ (by show vs.length<=_;rw [sizeLine_eq];exact Oo));refine wpAny_bind (wpAny_newList ?_ (cG _));refine wpAny_holding ?_;have g2:((h3.push (seqObj "tuple" vs.toArray 0)).push (seqObj "list" #[] 0)).get? D=some (seqObj "list" #[] e1):=aC _ (aC _ g1);have g3:((h3.push (seqObj "tuple" vs.toArray 0)).push (seqObj "list" #[] 0)).get? (h3.push (seqObj "tuple" vs.toArray 0)).objs.size=some (seqObj "list" #[] 0):=bB _ rfl;have sz3:(h3.push (seqObj "tuple" vs.toArray 0)).objs.size=D+2:=by rw [size_push',sz2]
 have kp3:∀b o,s.heap.get? b=some o->((h3.push (seqObj "tuple" vs.toArray 0)).push (seqObj "list" #[] 0)).get? b=some o:=λb o hb=>aC _ (aC _ (kp2 b o hb));show wpAny _ _ (ksk_rest D (.ref f) false vs.toArray e1 (.ref (h3.push (seqObj "tuple" vs.toArray 0)).objs.size)) _ _ { s with heap:=(h3.push (seqObj "tuple" vs.toArray 0)).push (seqObj "list" #[] 0) };rw [sz3] at g3 ⊢;generalize (h3.push (seqObj "tuple" vs.toArray 0)).push (seqObj "list" #[] 0)=h4 at g2 g3 kp3 ⊢;have I0:cI X pins σ H { s with heap:=h4 }:=I.kept (t':=s.toks) kp3;have dD:s.heap.objs.size<=D:=sz0;have dD2:s.heap.objs.size<=D+2:=aM sz0 (Nat.le_add_right _ _);have nDD:D≠D+2:=cA (Nat.lt_add_of_pos_right Dd);have lL:=I.lt;have hpin:∀p∈X.pn++pins,p.1<s.heap.objs.size:=λp hp=>aV (I.pin p hp).1;have I1:cI X ((D+2,seqObj "list" #[] 0)::(D,seqObj "list" #[] e1)::pins) σ H { s with heap:=h4 }:=I0.pins_of λp hp=>by
  rcases aZ.mp hp with rfl | hp
  ·exact ⟨g3,I.hok.fresh dD2,Nat.ne_of_gt (aN lL dD2),I.nofs dD2,λv z=>by cases z⟩
  rcases aZ.mp hp with rfl | hp
  ·exact ⟨g2,I.hok.fresh dD,Nat.ne_of_gt (aN lL dD),I.nofs dD,λv z=>by cases z⟩
  exact I0.pin p (aO _ hp)
 have sz00:=I.sz;refine UY F hb hr I1 (aM sz00 dD2) (λp hp=>?_) rv h64 kb λp ks e H' s' sH I' hg ha=>?_
 ·rcases cB.mp hp with hp | hp
  ·exact cA (aN (hpin p (bY _ hp)) dD2)
  rcases aZ.mp hp with rfl | hp
  ·exact nDD
  ·exact cA (aN (hpin p (aO _ hp)) dD2)
 have pk:=I'.pin (D+2,seqObj "list" (List.toArray ks) e) (aO _ (aS ..));have pa:=I'.pin (D,seqObj "list" #[] e1) (aO _ (aT _ (aS ..)));have Ip:cI X pins σ H' s':=I'.pins_of λp hp=>I'.pin p (aO _ (aT _ (aT _ hp)));have hperm:p.toList.Perm (List.range ys.length):=by
  have:=(Array.perm_iff_toList_perm.mp hg);rw [lv];simpa using this
 have hlt:∀i∈p.toList,i<ys.length:=λi hi=>by
  have:=hperm.mem_iff.mp hi;simpa using this
 have hl2:(p.toList.map λi=>ys.getD i .non).length=ys.length:=by rw [aA,hperm.length_eq,bA]
 have hDn:H' D=none:=pa.2.1;have gfin:((s'.heap.update (D+2) (Obj.mapSeq λ_=>(#[]:Ai))).update D (Obj.mapSeq λ_=>List.toArray (p.toList.map λi=>vs.getD i Value.none))).get? D=some (seqObj "list" (List.toArray (p.toList.map λi=>vs.getD i Value.none)) _) :=
  get?_update_seq (show (s'.heap.update (D+2) (Obj.mapSeq λ_=>(#[]:Ai))).get? D=some (seqObj "list" #[] e1) by rw [dB _ _ _ _ nDD];exact pa.1) λ_=>List.toArray (p.toList.map λi=>vs.getD i Value.none)
 have kfin:∀b o,b≠D->b≠D+2->s'.heap.get? b=some o->((s'.heap.update (D+2) (Obj.mapSeq λ_=>(#[]:Ai))).update D (Obj.mapSeq λ_=>List.toArray (p.toList.map λi=>vs.getD i Value.none))).get? b=some o:=λb o n1 n2 hb=>by
  rw [dB _ _ _ _ n1,dB _ _ _ _ n2];exact hb
 generalize (s'.heap.update (D+2) (Obj.mapSeq λ_=>(#[]:Ai))).update D (Obj.mapSeq λ_=>List.toArray (p.toList.map λi=>vs.getD i Value.none))=h5 at gfin kfin ⊢;refine ⟨_,rfl,wpAny_pure ⟨_,rfl,?_⟩⟩;have nn:∀b u,H' b=some u->b≠D/\b≠D+2:=λb u hb=>⟨(λz=>by rw [z,hDn] at hb;exact nomatch hb),(λz=>by rw [z,pk.2.1] at hb;exact nomatch hb)⟩;have ncell:∀x c,X.env.cells.lookup x=some c->c≠D/\c≠D+2:=λx c hc=>by
  obtain ⟨v,o,ho,hd⟩:=Ip.cell x c hc;refine ⟨λz=>?_,λz=>?_⟩
  ·rw [z,pa.1] at ho;cases ho;exact pa.2.2.2.2 v hd
  ·rw [z,pk.1] at ho;cases ho;exact pk.2.2.2.2 v hd
 have mem2:∀b,b ∉ [D,D+2]->b≠D/\b≠D+2:=λb hb=>⟨λz=>hb (by simp [z]),λz=>hb (by simp [z])⟩;refine ⟨.ref D,upd H' D (.lst (p.toList.map λi=>ys.getD i .non)),Ip.step (g':=s'.gens) (d':=s'.drawn) (t':=s'.toks) (ch:=[D,D+2]) (λb hb=>?_) (λb o _ _ hc g _=>kfin b o (mem2 b hc).1 (mem2 b hc).2 g) (λb o _ _ hc g _=>⟨o.slots,kfin b o (mem2 b hc).1 (mem2 b hc).2 g⟩)
  (λb o hc g n=>by rw [dC (mem2 b hc).1];exact n) (λb o hc g=>⟨o,kfin b o (mem2 b hc).1 (mem2 b hc).2 g⟩) (λb xs g=>by rw [dC (nn b _ g).1];exact g) (λb o u g=>by rw [dC (nn b _ g).1];exact g) (λb ps g=>⟨#[],by rw [dC (nn b _ g).1,g];simp⟩)
  (λm hm=>?_) (λb u g=>?_) Ip.bare,rfl,?_⟩
 ·rcases aZ.mp hb with rfl | hb
  ·exact ⟨.inr (aM sz00 dD),pa.2.2.1,λx c hc=>(ncell x c hc).1,λp hp=>cA (aN (hpin p hp) dD)⟩
  ·rw [bJ.mp hb];exact ⟨.inr (aM sz00 dD2),pk.2.2.1,λx c hc=>(ncell x c hc).2,λp hp=>cA (aN (hpin p hp) dD2)⟩
 ·obtain ⟨o,es,ep,ho,r⟩:=hm;exact ⟨o,es,ep,kfin _ o (Ne.symm pa.2.2.1) (Ne.symm pk.2.2.1) ho,r⟩
 ·by_cases hbD:b=D
  ·subst hbD;rw [bO] at g;cases g;exact ⟨by rw [hl2];exact hzz,_,_,wL rv _ hlt,gfin⟩
  ·rw [dC hbD] at g;refine (Ip.hok b u g).stay (λc v hc r=>?_) (λc r=>by rw [dC (nn c _ r).1];exact r) λc xs r=>by rw [dC (nn c _ r).1];exact r
   have nc:c≠D/\c≠D+2:=by
    rcases hc with rfl | hc
    ·exact nn c u g
    ·exact nn c _ hc
   exact kfin c v nc.1 nc.2 r
 ·refine q D p.toList _ hperm (λnd=>?_) (I.hok.fresh dD) bO (λb o g=>?_)
  ·have:=kb.1;exact TM hg (ha (by have:=HX nd;rwa [kb.1,lv] at this))
  ·have g':=sH b o g;rw [dC (nn b o g').1];exact g'
def UL(K:Aa){fn:Str}{ps:Ah}{sp:Sp}{k:Nat}{a:Expr}{ta:TE}{p p2 pos kp:Pos}(F:gR dR X.prog X.w X.K X.mg X.base k fn ps sp)(hr:iO (k+2) X.A)(hg:Gl X "sorted")(hm:X.mg "sorted" = none)(ha:iN X a ta)(hgf:Gl X fn:=by rfl)(hK:X.K=K:=by rfl)
  (hdb:(fn == ("__debug__" : Str))=false:=by decide)
  (he:eval (.Call (.Name "sorted" p) [a] [⟨some "key",.Name fn p2,kp⟩] pos) X.env=(do callWith pos (<-eval (.Name "sorted" p) X.env) [] (backTo pos (starEach [a] X.env)) (backToKw pos (keywordEach [⟨some "key",.Name fn p2,kp⟩] X.env))):=by rfl)
  (hs:starEach [a] X.env=[(false,eval a X.env)]:=by first | exact gX | exact gM | exact dL | rfl) :
  iN X (.Call (.Name "sorted" p) [a] [⟨some "key",.Name fn p2,kp⟩] pos) (aCf K sp ta):=⟨by
 intro pins s σ H Q I h;obtain ⟨f,fd,h1,h2,h3,h4⟩:=F.ex;rw [he];refine wpAny_bind (pD I hg hm GM ?_);have hbk:backTo pos (starEach [a] X.env)=[(false,eval a X.env)]:=by rw [hs];rfl
 refine PyProof.Rows.callWith_kw ?_ (by rw [hbk];rfl) (by rw [hbk];rfl) rfl rfl;rw [hbk];refine Calls.spliced_cons (thn (ha.p pins s σ H _ I h) λu s1 ⟨x,H1,I1,rx,q1⟩=>Calls.spliced_nil ?_);refine kws_cons (wV I1 hgf h2 ?_ hdb);refine kws_nil ?_;exact MG hK h1 h4 hr I1 rx q1⟩
end
end L2
namespace Kw
open PySem L2 Mf
def rk(c:Ae):Af:=(c.sum:Int)::ci c
def QI{a b:Ae}(h:rk a=rk b):a=b:=kU (List.cons.inj h).2
def MO:∀F,F<=4->∀M,M<=5->((rise F M).map rk).Pairwise λa b=>jX a b=true:=Kk
def NG(F:Nat)(best:Ae->Nat)(R:Ab)(j:Nat)(d:Ae):Bool:=d == List.replicate F 0 || (R.take j).any λc=>best c == 0&&(List.range F).any λf=>d == bQ c f
def tW(F:Nat)(best:Ae->Nat)(R:Ab)(j:Nat):Ab:=R.filter (NG F best R j)
def rJ{F:Nat}{best:Ae->Nat}{R:Ab}{j:Nat}{d:Ae}:NG F best R j d=true↔d=List.replicate F 0\/∃c∈R.take j,best c=0/\∃f,f<F/\d=bQ c f:=by
 unfold NG;simp
def YI{c:Ae}{f g:Nat}(hf:f<c.length)(h:bQ c f=bQ c g):f=g:=by
 refine bM λq=>?_;have h1:(bQ c f)[f]?=some (c.getD f 0+1):=by unfold bQ;rw [List.getElem?_set_self hf]
 have h2:(bQ c g)[f]?=c[f]?:=by unfold bQ;rw [List.getElem?_set_ne (λz=>q z.symm)]
 rw [h,h2,aB hf] at h1;have h3:c.getD f 0=c[f]:=by rw [bH,aB hf];rfl
 rw [h3] at h1;injection h1 with h1;exact Oo
def NT{c:Ae}{f:Nat}(hf:f<c.length):jX (rk c) (rk (bQ c f))=true:=by
 unfold rk;rw [pC,hZ hf,if_neg Oo];exact cL Oo
section
variable{F W M:Nat}{best:Ae->Nat}
structure kY(F M:Nat)(best:Ae->Nat):Prop where
 f1:1<=F
 f4:F<=4
 m5:M<=5
 on:∀c,best c=0->c.sum<M
def kY.rank(I:kY F M best):((fA F M best).map rk).Pairwise λa b=>jX a b=true:=(MO F I.f4 M I.m5).sublist ((iE I.f1).map rk)
def kY.nd(I:kY F M best):(fA F M best).Nodup:=(wO F I.f4 M I.m5).sublist (iE I.f1)
def kY.before(I:kY F M best){c d:Ae}{i:Nat}(hc:c∈fA F M best)(hd:(fA F M best)[i]?=some d)(h:jX (rk c) (rk d)=true):c∈(fA F M best).take i:=by
 obtain ⟨k,hk⟩:=cZ.mp hc;obtain ⟨lk,ek⟩:=aF.mp hk;obtain ⟨li,ei⟩:=aF.mp hd;have pw:=List.pairwise_map.mp I.rank;by_cases q:k<i
 ·exact cZ.mpr ⟨k,by rw [List.getElem?_take_of_lt q];exact hk⟩
 ·exfalso;by_cases q2:k=i
  ·subst q2;rw [hk] at hd;cases hd;rw [rG] at h;cases h
  ·have:=(List.pairwise_iff_getElem.mp pw) i k li lk Oo;rw [ek,ei] at this;have:=wT h this;rw [rG] at this;cases this
def kY.first(I:kY F M best){i j:Nat}{d:Ae}(hij:i<=j)(hd:(fA F M best)[i]?=some d):NG F best (fA F M best) j d=true:=by
 rw [rJ];by_cases q:d=List.replicate F 0
 ·exact .inl q
 ·obtain ⟨c,hc,h0,f,hf,e⟩:=xM I.f1 (aG hd) q;have lc:=(lQ I.f1 hc).1;have:=I.before hc hd (by rw [<-e];exact NT Oo);exact .inr ⟨c,(List.take_sublist_take_left hij).subset this,h0,f,hf,e.symm⟩
def FV{α:Type}{p:α->Bool}{R:List α}{k:Nat}(h:∀d∈R.take k,p d=true):R.filter p=R.take k++(R.drop k).filter p:=by
 have e:(R.take k++R.drop k).filter p=R.take k++(R.drop k).filter p:=by rw [List.filter_append,List.filter_eq_self.mpr h]
 rwa [List.take_append_drop] at e
def kY.split(I:kY F M best){j k:Nat}(hk:k<=j+1):tW F best (fA F M best) j=(fA F M best).take k++((fA F M best).drop k).filter (NG F best (fA F M best) j):=by
 unfold tW;refine FV λd hd=>?_;obtain ⟨i,hi⟩:=cZ.mp hd;have li:=(aF.mp hi).1;rw [cK] at li;rw [List.getElem?_take_of_lt Oo] at hi;exact I.first Oo hi
def kY.all(I:kY F M best){j:Nat}(h:(fA F M best).length<=j+1):tW F best (fA F M best) j=fA F M best:=by
 rw [I.split (aI _),List.take_of_length_le h,List.drop_of_length_le h];simp
def kY.stop(I:kY F M best){j:Nat}{c:Ae}(h:(fA F M best)[j]?=some c)(h0:best c≠0):tW F best (fA F M best) (j+1)=tW F best (fA F M best) j:=by
 unfold tW;refine List.filter_congr λd _=>?_;rw [Bool.eq_iff_iff,rJ,rJ,eM h];constructor
 ·rintro (h | ⟨c',hc,hb,r⟩)
  ·exact .inl h
  ·rcases cB.mp hc with hc | hc
   ·exact .inr ⟨c',hc,hb,r⟩
   ·rw [bJ.mp hc] at hb;exact absurd hb h0
 ·rintro (h | ⟨c',hc,r⟩)
  ·exact .inl h
  ·exact .inr ⟨c',bY _ hc,r⟩
def rst(F:Nat)(best:Ae->Nat)(R:Ab)(j:Nat)(c:Ae):Ab:=(tW F best R j).drop (j+1)++((List.range F).map (bQ c)).filter λd=>!decide (d∈tW F best R j)
def kY.mem(I:kY F M best){j:Nat}{c:Ae}(h:(fA F M best)[j]?=some c)(h0:best c=0)(d:Ae):d∈rst F best (fA F M best) j c↔d∈((fA F M best).drop (j+1)).filter (NG F best (fA F M best) (j+1)):=by
 have lj:=(aF.mp h).1;have hs:=I.split (j:=j) (aI _);have hd:(tW F best (fA F M best) j).drop (j+1)=((fA F M best).drop (j+1)).filter (NG F best (fA F M best) j):=by
  rw [hs,List.drop_left' (by rw [cK];exact Oo)]
 have hc:=aG h;have lc:=(lQ I.f1 hc).1;have step:NG F best (fA F M best) (j+1) d=true↔NG F best (fA F M best) j d=true\/∃f,f<F/\d=bQ c f:=by
  rw [rJ,rJ,eM h];constructor
  ·rintro (h | ⟨c',hc',hb,r⟩)
   ·exact .inl (.inl h)
   ·rcases cB.mp hc' with q | q
    ·exact .inl (.inr ⟨c',q,hb,r⟩)
    ·rw [bJ.mp q] at r;exact .inr r
  ·rintro ((h | ⟨c',hc',r⟩) | r)
   ·exact .inl h
   ·exact .inr ⟨c',bY _ hc',r⟩
   ·exact .inr ⟨c,aO _ (bJ.mpr rfl),h0,r⟩
 unfold rst;rw [cB,hd,cR,cR,cR,step,aX];constructor
 ·rintro (⟨h1,h2⟩ | ⟨⟨f,hf,rfl⟩,h2⟩)
  ·exact ⟨h1,.inl h2⟩
  ·have hf:=bU.mp hf;have hr:=EV I.f1 I.on hc h0 hf;refine ⟨?_,.inr ⟨f,hf,rfl⟩⟩;rw [<-List.take_append_drop (j+1) (fA F M best)] at hr;rcases cB.mp hr with q | q
   ·exfalso;have:bQ c f∈tW F best (fA F M best) j:=by rw [hs];exact bY _ q
    simp [this] at h2
   ·exact q
 ·rintro ⟨h1,h2⟩;by_cases q:NG F best (fA F M best) j d=true
  ·exact .inl ⟨h1,q⟩
  ·obtain ⟨f,hf,e⟩:=h2.resolve_left q;refine .inr ⟨⟨f,bU.mpr hf,e.symm⟩,?_⟩;have:d ∉ tW F best (fA F M best) j:=λz=>q (cR.mp z).2;simp [this]
def kY.rnd(I:kY F M best){j:Nat}{c:Ae}(h:(fA F M best)[j]?=some c):(rst F best (fA F M best) j c).Nodup:=by
 have lc:=(lQ I.f1 (aG h)).1;have nm:((List.range F).map (bQ c)).Nodup:=nodup_map_on (λx hx y _ e=>YI (by have:=bU.mp hx;exact Oo) e) List.nodup_range;refine List.nodup_append.mpr ⟨(I.nd.sublist List.filter_sublist).sublist (List.drop_sublist _ _),nm.sublist List.filter_sublist,λa ha b hb e=>?_⟩;subst e;have h1:=List.mem_of_mem_drop ha;have h2:=(cR.mp hb).2;simp [h1] at h2
def kY.len(I:kY F M best){j:Nat}{c:Ae}(h:(fA F M best)[j]?=some c)(h0:best c=0):(rst F best (fA F M best) j c).length<=(fA F M best).length :=
 mG (I.rnd h) λd hd=>List.mem_of_mem_drop (cR.mp ((I.mem h h0 d).mp hd)).1
def kY.next(I:kY F M best){j:Nat}{c:Ae}(h:(fA F M best)[j]?=some c)(h0:best c=0){rs:Ab}(hm:∀d,d∈rs↔d∈rst F best (fA F M best) j c)(hs:(rs.map rk).Pairwise λa b=>jX a b=true) :
  (tW F best (fA F M best) j).take (j+1)++rs=tW F best (fA F M best) (j+1):=by
 have lj:=(aF.mp h).1;have e1:(tW F best (fA F M best) j).take (j+1)=(fA F M best).take (j+1):=by
  rw [I.split (j:=j) (aI _),List.take_left' (by rw [cK];exact Oo)]
 have e2:rs.map rk=(((fA F M best).drop (j+1)).filter (NG F best (fA F M best) (j+1))).map rk:=by
  refine tS hs (I.rank.sublist (List.Sublist.map rk (List.Sublist.trans List.filter_sublist (List.drop_sublist _ _)))) λx=>?_;rw [aX,aX];constructor
  ·rintro ⟨d,hd,rfl⟩;exact ⟨d,(I.mem h h0 d).mp ((hm d).mp hd),rfl⟩
  ·rintro ⟨d,hd,rfl⟩;exact ⟨d,(hm d).mpr ((I.mem h h0 d).mpr hd),rfl⟩
 have e3:rs=((fA F M best).drop (j+1)).filter (NG F best (fA F M best) (j+1)):=(List.map_inj_right λx y e=>QI e).mp e2;rw [e1,e3,I.split (j:=j+1) (k:=j+1) Oo]
def kY.at(I:kY F M best){j:Nat}{c:Ae}(h:(fA F M best)[j]?=some c):(tW F best (fA F M best) j)[j]?=some c:=by
 have lj:=(aF.mp h).1;rw [I.split (j:=j) (aI _),cO (by rw [cK];exact Oo),List.getElem?_take_of_lt Oo];exact h
def kY.dlen(j:Nat):(tW F best (fA F M best) j).length<=(fA F M best).length:=List.length_filter_le ..
end
end Kw
namespace L2
open PySem PySem.Spec PyProof.Rows
def CZ(X:Cx)(scope:Scope)(x:Str)(C:Addr)(fp:List Addr)(s₀:Shared)(H₀:Hp)(N':Ah):Cx :=
 { mI X scope C fp s₀ H₀ N' with env:=compEnvC scope ((x,C+1)::wH X scope) C X.env,fn:=λy=>y == x }
structure jA(X:Cx)(scope:Scope)(x:Str)(N':Ah)(js:Ae):Prop where
 calm:X.calm=true
 free:∀y∈scope.names,y.2=.free->X.env.kindOf y.1=some .cell
 only:(scope.names.filter λy=>y.2 == .cell)=[(x,NameKind.cell)]
 kind:scope.kind=.function
 names:∀y∈scope.names,y.2=.local->scope.names.lookup y.1=some .local
 own:scope.names.lookup x=some .cell
 nofl:∀y,(y,NameKind.free)∈scope.names->scope.names.lookup y=some .local->False
 nofx:(x,NameKind.free) ∉ scope.names
 len:N'.length=js.length+1
 zero:N'[0]?=some x
 nd:N'.Nodup
 slot:∀(i:Nat) (j:Nat),js[i]?=some j->∃y,N'[i+1]?=some y/\X.N[j]?=some y/\(y,NameKind.free)∈scope.names
theorem yJ:∀{names:List (Str × NameKind)}{n:Nat}{acc:List (Str × Addr)}{h:Heap},(names.filter λy=>y.2 == .cell)=[]->cellsFrom n names acc=acc/\pushCells h names=h
 | [],_,_,_,_=>⟨rfl,rfl⟩
 | (a,k)::r,n,acc,h,e=>by
  rw [List.filter_cons] at e;by_cases q:(k == NameKind.cell)=true
  ·rw [if_pos q] at e;cases e
  ·rw [if_neg q] at e;unfold cellsFrom pushCells;rw [if_neg q,if_neg q];exact yJ e
theorem AR{x:Str}:∀{names:List (Str × NameKind)}{n:Nat}{acc:List (Str × Addr)}{h:Heap},(names.filter λy=>y.2 == .cell)=[(x,NameKind.cell)]->cellsFrom n names acc=(x,n)::acc/\pushCells h names=h.push { cls:=.type "cell",data:=.cell none }
 | [],_,_,_,e=>by cases e
 | (a,k)::r,n,acc,h,e=>by
  rw [List.filter_cons] at e;by_cases q:(k == NameKind.cell)=true
  ·rw [if_pos q] at e;injection e with e1 e2;have ea:a=x:=congrArg Prod.fst e1;subst ea;unfold cellsFrom pushCells;rw [if_pos q,if_pos q];exact yJ e2
  ·rw [if_neg q] at e;unfold cellsFrom pushCells;rw [if_neg q,if_neg q];exact AR e
def HZ{M:Model}{A:Around}{E:Value->Shared->Prop}{s:Shared}{scope:Scope}{g:Addr}{cl:List (Str × Addr)}{q:Str}{env:Env}{x:Str}{Q:Env->Shared->Prop}(ho:(scope.names.filter λy=>y.2 == .cell)=[(x,NameKind.cell)])
  (h:Q { scope,locals:=s.heap.objs.size,globals:=g,cells:=(x,s.heap.objs.size+1)::cl,qual:=q,func:=none,code:=env.code,frame:=env.frame,builtins:=env.builtins } { s with heap:=(s.heap.push { cls:=.type "dict",data:=.dict #[] }).push { cls:=.type "cell",data:=.cell none } }) :
  wpAny M A (newFunctionEnv scope g cl [] q none .none (some env)) Q E s:=by
 simp only [newFunctionEnv,Option.isSome_some,if_true];refine wpAny_bind (wpAny_alloc ?_);refine wpAny_bind (wpAny_layCells _ (λname kind cells=>by cases hkc:kind == NameKind.cell <;> simp [hkc]) _ _ _ _ ?_);obtain ⟨e1,e2⟩:=AR (n:=({ s with heap:=s.heap.push { cls:=.type "dict",data:=.dict #[] } }:Shared).heap.objs.size) (acc:=cl) (h:=s.heap.push { cls:=.type "dict",data:=.dict #[] }) ho;rw [e1,e2];rw [List.forIn_nil];refine wpAny_bind (wpAny_pure (wpAny_pure ?_));rw [show ({ s with heap:=s.heap.push { cls:=.type "dict",data:=.dict #[] } }:Shared).heap.objs.size=s.heap.objs.size+1 from fG ..];exact h
theorem oZ{env:Env}:∀{names:List (Str × NameKind)}{x:Str},names.lookup x=some .cell ->
  (names.map λ(n,k)=>if (k == NameKind.free&&env.scope.kind == .function&&env.kindOf n == some .cell) then (n,NameKind.cell) else (n,k)).lookup x=some .cell
 | [],_,h=>by cases h
 | (n,k)::r,x,h=>by
  rw [List.lookup_cons] at h;rw [bI];dsimp only;by_cases hq:(k == NameKind.free&&env.scope.kind == .function&&env.kindOf n == some .cell)=true
  ·rw [if_pos hq,List.lookup_cons];by_cases e:(x == n)=true
   ·rw [e]
   ·have e':(x == n)=false:=by simpa using e
    rw [e'] at h ⊢;exact oZ h
  ·rw [if_neg hq,List.lookup_cons];by_cases e:(x == n)=true
   ·rw [e] at h ⊢;exact h
   ·have e':(x == n)=false:=by simpa using e
    rw [e'] at h ⊢;exact oZ h
theorem mW{env:Env}{x:Str}:∀{names:List (Str × NameKind)}{y:Str}{k:NameKind},(names.map λ(n,k)=>if (k == NameKind.free&&env.scope.kind == .function&&env.kindOf n == some .cell) then (n,NameKind.cell) else (n,k)).lookup y=some k ->
  (k=.cell\/k=.free)->(∀z∈names,z.2=.cell->z.1=x)->y=x\/(y,NameKind.free)∈names
 | [],_,_,h,_,_=>by cases h
 | (n,q)::r,y,k,h,hk,hc=>by
  rw [bI,List.lookup_cons] at h;have ih:=λh=>@mW env x r y k h hk λz hz=>hc z (aT _ hz);have up:y=x\/(y,NameKind.free)∈r->y=x\/(y,NameKind.free)∈(n,q)::r:=λz=>z.imp id (aT _);by_cases hq:(q == NameKind.free&&env.scope.kind == .function&&env.kindOf n == some .cell)=true
  ·dsimp only at h;rw [if_pos hq] at h;have qf:q=.free:=by
    rw [cQ,cQ] at hq;simpa using hq.1.1
   subst qf;by_cases e:(y == n)=true
   ·have:y=n:=by simpa using e
    subst this;exact .inr aS
   ·have e':(y == n)=false:=by simpa using e
    dsimp only at h;rw [e'] at h;exact up (ih h)
  ·dsimp only at h;rw [if_neg hq] at h;by_cases e:(y == n)=true
   ·have:y=n:=by simpa using e
    subst this;dsimp only at h;rw [e] at h;have hkq:k=q:=by injection h with h;exact h.symm
    subst hkq;rcases hk with rfl | rfl
    ·exact .inl (hc _ aS rfl)
    ·exact .inr aS
   ·have e':(y == n)=false:=by simpa using e
    dsimp only at h;rw [e'] at h;exact up (ih h)
section
variable{X:Cx}{pins:Ad}{σ:St}{H:Hp}{s:Shared}{scope:Scope}{x:Str}{N':Ah}{js:Ae}{fp:List Addr}
theorem jA.cells(S:jA X scope x N' js)(ok:X.Ok):∀y∈scope.names,y.2=.free->∃c,X.env.cells.lookup y.1=some c:=λy hy hf=>ok.has _ (.inl (S.free y hy hf))
theorem jA.cell(S:jA X scope x N' js):∀z∈scope.names,z.2=.cell->z.1=x:=λz hz e=>by
 have:z∈scope.names.filter λy=>y.2 == .cell:=cR.mpr ⟨hz,by rw [e];rfl⟩;rw [S.only] at this;rw [bJ.mp this]
def oQ{y:Str}{C c:Addr}{cl:List (Str × Addr)}(h:((x,C)::cl).lookup y=some c):(y=x/\c=C)\/(y≠x/\cl.lookup y=some c):=by
 rw [List.lookup_cons] at h;by_cases e:(y == x)=true
 ·rw [e] at h;cases h;exact .inl ⟨by simpa using e,rfl⟩
 ·have e':(y == x)=false:=by simpa using e
  rw [e'] at h;exact .inr ⟨λz=>e (by simp [z]),h⟩
def GH{y:Str}{C c:Addr}{cl:List (Str × Addr)}(n:y≠x)(h:cl.lookup y=some c):((x,C)::cl).lookup y=some c:=by
 rw [List.lookup_cons,show (y == x)=false by simpa using n];exact h
def aBH(S:jA X scope x N' js)(I:cI X pins σ H s)(hf:∀b∈fp,jE X pins H b)(hb:∀b∈fp,b<s.heap.objs.size):(CZ X scope x s.heap.objs.size fp s H N').Ok:=by
 have old:∀y c,(wH X scope).lookup y=some c->c<s.heap.objs.size:=λy c h=>by
  obtain ⟨v,o,e,_⟩:=I.cell y c (fP (S.cells I.ok) h);exact aV e
 exact {
  mod:=I.ok.mod
  kind:=S.kind
  glob:=I.ok.glob
  blt:=I.ok.blt
  above:=aI _
  inj:=λy z c h1 h2=>by
   rcases oQ h1 with ⟨a1,a2⟩ | ⟨a1,a2⟩ <;> rcases oQ h2 with ⟨b1,b2⟩ | ⟨b1,b2⟩
   ·rw [a1,b1]
   ·have:=old _ _ b2;rw [a2] at this;exact absurd (Nat.lt_of_succ_lt this) (bL _)
   ·have:=old _ _ a2;rw [b2] at this;exact absurd (Nat.lt_of_succ_lt this) (bL _)
   ·exact I.ok.inj y z c (fP (S.cells I.ok) a2) (fP (S.cells I.ok) b2)
  has:=λy hy=>by
   have hm:y=x\/(y,NameKind.free)∈scope.names:=by
    rcases hy with hy | hy
    ·exact mW (env:=X.env) hy (.inl rfl) S.cell
    ·exact mW (env:=X.env) hy (.inr rfl) S.cell
   by_cases q:y=x
   ·subst q;exact ⟨s.heap.objs.size+1,by show List.lookup y ((y,_)::_)=_;rw [List.lookup_cons,show (y == y)=true by simp]⟩
   ·have hm:=hm.resolve_left q;obtain ⟨c,hc⟩:=S.cells I.ok _ hm rfl;exact ⟨c,GH q (kI (S.cells I.ok) hm hc)⟩
  cab:=λy c hy h=>by
   rcases oQ h with ⟨_,a2⟩ | ⟨a1,_⟩
   ·rw [a2];exact Nat.le_succ _
   ·exact absurd (by simpa [CZ] using hy) a1
  hd:=λ_=>I.ok.hd S.calm
  frames:=I.ok.frames
  stk:=.inl rfl
  exf:=λb hb'=>⟨λe=>by have:=hb b hb';rw [e] at this;exact bL _ this,λy c h=>by
   rcases oQ h with ⟨_,a2⟩ | ⟨_,a2⟩
   ·intro e;have:=hb b hb';rw [<-e,a2] at this;exact absurd (Nat.lt_of_succ_lt this) (bL _)
   ·exact (hf b hb').2.2.2.2.1 y c (fP (S.cells I.ok) a2)⟩
  bs:=I.bs
  bsz:=aM I.ok.bsz I.sz
  noex:=λb o e hb'=>by
   rcases (hf b hb').2.2.2.1 with h | h
   ·exact I.ok.noex b o e h
   ·exact absurd (aN (aV e) (aM I.ok.bsz h)) (bL _)
  exfs:=λb hb' hs=>by
   have h2:=I.stkSub b hs;rcases aZ.mp h2 with h2 | h2
   ·exact (hf b hb').2.1 h2
   ·exact (hf b hb').2.2.1 h2
  funs:=I.stack
  frf:=I.stkFree }
def XQ{h':Heap}{tk:Nat}(S:jA X scope x N' js)(I:cI X pins σ H s)(hf:∀b∈fp,jE X pins H b)(hb:∀b∈fp,b<s.heap.objs.size)
  (hn:h'.Ns s.heap.objs.size (λ_=>none)) (hk:∀b o,s.heap.get? b=some o->h'.get? b=some o) (hc0:h'.IsCell (s.heap.objs.size+1) none):cI (CZ X scope x s.heap.objs.size fp s H N') [] (none::slots σ js) H { s with heap:=h',toks:=tk } where
 ok:=aBH S I hf hb
 os:=rfl
 bare:=I.bare
 base:=Un.kept hk
 loc:=by
  refine ⟨_,hn,λi y v hi hv hvis=>?_⟩;cases i with
  | zero=>cases hv
  | succ i =>
   have hv':(slots σ js)[i]?=some (some v):=hv;have hlt:i<js.length:=by
    have:=(aF.mp hv').1;unfold slots at this
    rwa [aA] at this
   have hj:js[i]?=some js[i]:=aB hlt;obtain ⟨z,h1,h2,h3⟩:=S.slot i _ hj;have hzy:z=y:=by
    have:N'[i+1]?=some y:=hi;rw [h1] at this;cases this;rfl
   subst hzy;rw [uV hj] at hv';have hσ:σ[js[i]]?=some (some v):=by
    cases q:σ[js[i]]? with
    | none=>rw [q] at hv';cases hv'
    | some o=>rw [q] at hv';cases hv';rfl
   have hkc:X.env.kindOf z=some .cell:=S.free _ h3 rfl;obtain ⟨m,hm,hl⟩:=I.loc;obtain ⟨u,ru,lk⟩:=hl _ z v h2 hσ (.inr (.inl hkc));rcases lk with ⟨hk1,_⟩ | ⟨_,c,hc,hcell⟩
   ·rw [hkc] at hk1;cases hk1
   ·have nzx:z≠x:=λq=>S.nofx (q ▸ h3);refine ⟨u,ru,.inr ⟨?_,c,GH nzx (kI (S.cells I.ok) h3 hc),?_⟩⟩
    ·rcases hvis with hvis | hvis | hvis
     ·exfalso;have hcl:=kI (S.cells I.ok) h3 hc;have hm2:=mZ (l:=(relabel scope X.env).names) hvis;unfold relabel at hm2;obtain ⟨⟨n,k⟩,hmem,he⟩:=aX.mp hm2;dsimp only at he;by_cases hq:(k == NameKind.free&&X.env.scope.kind == .function&&X.env.kindOf n == some .cell)=true
      ·rw [if_pos hq] at he;cases he
      ·rw [if_neg hq] at he;cases he;have:=S.names _ hmem rfl;have l2:=mY h3;obtain ⟨c',l2⟩:=l2;dsimp only at this;rw [this] at l2;have key:(relabel scope X.env).names.lookup z=some .local:=lookup_relabel_local this;have hck:scope.names.lookup z=some .local:=this;exact S.nofl z h3 hck
     ·exact .inl hvis
     ·exact .inr hvis
    ·obtain ⟨o,e,r⟩:=hcell;exact ⟨o,hk _ _ e,r⟩
 cell:=λy c h=>by
  rcases oQ h with ⟨_,a2⟩ | ⟨_,a2⟩
  ·rw [a2];exact ⟨none,hc0⟩
  ·obtain ⟨v,o,e,r⟩:=I.cell y c (fP (S.cells I.ok) a2);exact ⟨v,o,hk _ _ e,r⟩
 free:=I.hok.fresh (aI _)
 freeC:=λy c h=>by
  rcases oQ h with ⟨_,a2⟩ | ⟨_,a2⟩
  ·rw [a2];exact I.hok.fresh (Nat.le_succ _)
  ·exact I.freeC y c (fP (S.cells I.ok) a2)
 pin:=λp hp=>by cases hp
 hok:=I.hok.kept hk
 len:=by
  show (slots σ js).length+1=N'.length;unfold slots;rw [aA,S.len]
def SK{H2:Hp}{σ':St}{s2:Shared}{h'':Heap}(S:jA X scope x N' js)(I:cI X pins σ H s)(hf:∀b∈fp,jE X pins H b)
  (J:cI (CZ X scope x s.heap.objs.size fp s H N') [] σ' H2 s2) (hs:Heap.SameBut s.heap.objs.size s2.heap h''):cI X pins σ H2 { s2 with heap:=h'' }:=by
 have hC:H2 s.heap.objs.size=none:=J.free;have ne:∀{b:Addr} {o:Obj},s.heap.get? b=some o->b≠s.heap.objs.size:=λe q=>by
  have:=aV e;rw [q] at this;exact bL _ this
 refine I.call' (s':={ s2 with heap:=h'' }) (ch:=fp) (by rw [show ({ s2 with heap:=h'' }:Shared).os=s2.os from rfl];exact J.os) ?_ (J.hok.but hC λb u hb q=>hs.extBut b u hb q) J.bare λb hb=>⟨(hf b hb).2.2.2.1,(hf b hb).2.1,(hf b hb).2.2.2.2.1,(hf b hb).2.2.2.2.2⟩;have U:=J.base;exact {
  keep:=λb o e n h1 h2=>hs.extBut b o (ne e) (U.keep b o e n h1 h2)
  slot:=λb o e n h1 h2=>by
   obtain ⟨sl,q⟩:=U.slot b o e n h1 h2;exact ⟨sl,hs.extBut b _ (ne e) q⟩
  free:=U.free
  there:=λb o e h2=>by
   obtain ⟨o',q⟩:=U.there b o e h2;exact ⟨o',hs.extBut b _ (ne e) q⟩
  tups:=U.tups
  frzs:=U.frzs
  tbls:=U.tbls }
end
section
variable{X:Cx}{pins:Ad}{σ:St}{H:Hp}{s:Shared}{scope:Scope}{x:Str}{N':Ah}{js:Ae}{fp:List Addr}{elt iter:Expr}{px pos:Pos}{ifs:List Expr}{tc:TT}{te:TE}
def GD{J:It}{it:Addr}{tn:Nat->Heap->Prop}{RR:Value->Addr->Result->Shared->Prop}{E:Value->Shared->Prop}{Q:VK}
  (S:jA X scope x N' js) (I:cI X pins σ H s) (T:DO X.prog X.w X.K (.Name x px) J fp it tn) (h0:tn 0 s.heap) (hf:∀b∈fp,jE X pins H b)
  (ht:∀C fp s₀ H₀,LM (CZ X scope x C fp s₀ H₀ N') ifs tc) (he:∀C fp s₀ H₀,PE (CZ X scope x C fp s₀ H₀ N') elt te)
  (R:∀D,H D=none->∃W:Nat->Nat->Al->Hp->Prop,(∃m,W 0 m [] (upd H D (.lst []))) /\
   ∀i m ys H2,W i m ys H2->H2 D=some (.lst ys)/\((J.stop i H2/\Q (.ref D) H2)\/(J.go i H2/\ys.length<sizeLine/\∀x H3,J.yld i H2 x H3 ->
    tc (some x::slots σ js) H3 λb H4=>if b=true then te (some x::slots σ js) H4 λy H5=>H5 D=some (.lst ys)/\∃m',m' < m/\W (i+1) m' (ys++[y]) (upd H5 D (.lst (ys++[y])))
     else H4 D=some (.lst ys)/\∃m',m' < m/\W (i+1) m' ys H4)))
  (hRR:∀(D:Addr) (H3:Hp) (s3:Shared) (σ':St) (H':Hp) (s':Shared),cI X pins σ H3 s3->(∀b∈fp,jE X pins H3 b)->cI (CZ X scope x s3.heap.objs.size fp s3 H3 N') [] σ' H' s'->Q (.ref D) H'->RR (.ref D) s3.heap.objs.size (.ok .next) s') :
  wpAny (model X.prog X.w) X.A (newList []) (λacc s₃=>wpAny (model X.prog X.w) X.A (newFunctionEnv scope X.env.globals (wH X scope) [] X.env.qual none .none (some X.env)) (λcenv s₄ =>
   codeAny (model X.prog X.w) X.A (.compStart (.ListComp elt [⟨.Name x px,iter,ifs,0⟩] scope pos) 0 (.ref it) acc { cenv with scope:=relabel scope X.env }) (RR acc cenv.locals) s₄) E s₃) E s:=by
 have hb:∀b∈fp,b<s.heap.objs.size:=λb hb=>by
  obtain ⟨o,e,_⟩:=T.obj 0 _ h0 b hb;exact aV e
 refine wpAny_newObj_type (HZ S.only ?_);have hDn:H s.heap.objs.size=none:=I.hok.fresh (aI _);obtain ⟨W,⟨m0,hw0⟩,hW⟩:=R _ hDn;have I3:cI X pins σ (upd H s.heap.objs.size (.lst [])) { s with heap:=s.heap.push { cls:=.type "list",dict:=none,data:=.seq ([]:Ag).toArray } }:=I.lnew (its:=[]) (ys:=[]) (t':=s.toks) .nil (cG _);have hf3:∀b∈fp,jE X pins (upd H s.heap.objs.size (.lst [])) b:=λb hb' =>
  ⟨by rw [dC (λe=>by have:=hb b hb';rw [e] at this;exact bL _ this)];exact (hf b hb').1,(hf b hb').2⟩
 have hb3:∀b∈fp,b<(s.heap.push { cls:=.type "list",dict:=none,data:=.seq ([]:Ag).toArray }).objs.size:=λb hb'=>by
  rw [fG];exact Nat.lt_succ_of_lt (hb b hb')
 have hns₁:=(Heap.Ns.new (s.heap.push { cls:=.type "list",dict:=none,data:=.seq ([]:Ag).toArray }) (.type "dict")).keeps λb o e=>aC { cls:=.type "cell",data:=.cell none } e;have hcl₁:(((s.heap.push { cls:=.type "list",dict:=none,data:=.seq ([]:Ag).toArray }).push { cls:=.type "dict",data:=.dict #[] }).push { cls:=.type "cell",data:=.cell none }).IsCell ((s.heap.push { cls:=.type "list",dict:=none,data:=.seq ([]:Ag).toArray }).objs.size+1) none :=
  ⟨_,by rw [<-fG (s.heap.push { cls:=.type "list",dict:=none,data:=.seq ([]:Ag).toArray }) { cls:=.type "dict",data:=.dict #[] }];exact bB _ rfl,rfl⟩
 have hkp₁:∀b o,(s.heap.push { cls:=.type "list",dict:=none,data:=.seq ([]:Ag).toArray }).get? b=some o->(((s.heap.push { cls:=.type "list",dict:=none,data:=.seq ([]:Ag).toArray }).push { cls:=.type "dict",data:=.dict #[] }).push { cls:=.type "cell",data:=.cell none }).get? b=some o:=λb o e=>aC _ (aC _ e);show codeAny _ _ (.compStart _ 0 (.ref it) (.ref s.heap.objs.size) (compEnvC scope ((x,(s.heap.push { cls:=.type "list",dict:=none,data:=.seq ([]:Ag).toArray }).objs.size+1)::wH X scope) (s.heap.push { cls:=.type "list",dict:=none,data:=.seq ([]:Ag).toArray }).objs.size X.env)) _ { s with heap:=(((s.heap.push { cls:=.type "list",dict:=none,data:=.seq ([]:Ag).toArray }).push { cls:=.type "dict",data:=.dict #[] }).push { cls:=.type "cell",data:=.cell none }) };generalize ((s.heap.push { cls:=.type "list",dict:=none,data:=.seq ([]:Ag).toArray }).push { cls:=.type "dict",data:=.dict #[] }).push { cls:=.type "cell",data:=.cell none }=h₁ at hns₁ hcl₁ hkp₁ ⊢;have hkeep:∀b o,(s.heap.push { cls:=.type "list",dict:=none,data:=.seq ([]:Ag).toArray }).get? b=some o->h₁.get? b=some o:=hkp₁;have J4:=XQ (h':=h₁) (tk:=s.toks) S I3 hf3 hb3 hns₁ hkeep hcl₁;have t4:tn 0 h₁:=T.keep 0 _ _ h0 λb hb' o e=>hkeep b o (aC _ e)
 have loop:codeAny (model X.prog X.w) X.A (.compLoop (.ListComp elt [⟨.Name x px,iter,ifs,0⟩] scope pos) 0 (.ref it) (.ref s.heap.objs.size) (compEnvC scope ((x,(s.heap.push { cls:=.type "list",dict:=none,data:=.seq ([]:Ag).toArray }).objs.size+1)::wH X scope) (s.heap.push { cls:=.type "list",dict:=none,data:=.seq ([]:Ag).toArray }).objs.size X.env))
   (RR (.ref s.heap.objs.size) (s.heap.push { cls:=.type "list",dict:=none,data:=.seq ([]:Ag).toArray }).objs.size) { s with heap:=h₁ }:=by
  refine pI (λn s'=>∃(i:Nat) (ys:Al) (H2:Hp) (o:Am),cI (CZ X scope x _ fp _ _ N') [] (o::slots σ js) H2 s'/\tn i s'.heap/\(∀b∈fp,H2 b=none)/\W i n ys H2) ?_ m0 ⟨0,[],_,none,J4,t4,λb hb'=>(hf3 b hb').1,hw0⟩;rintro n s' ⟨i,ys,H2,o,J2,t2,f2,w2⟩;obtain ⟨hD,hcase⟩:=hW i n ys H2 w2;have Fp:∀b∈fp,jE (CZ X scope x (s.heap.push { cls:=.type "list",dict:=none,data:=.seq ([]:Ag).toArray }).objs.size fp { s with heap:=s.heap.push { cls:=.type "list",dict:=none,data:=.seq ([]:Ag).toArray } } (upd H s.heap.objs.size (.lst [])) N') [] H2 b:=λb hb' =>
   ⟨f2 b hb',(J2.ok.exf b hb').1,J2.ok.exfs b hb',.inl hb',(J2.ok.exf b hb').2,λp hp=>by cases hp⟩
  rcases hcase with ⟨hstop,hq⟩ | ⟨hgo,hz,hturn⟩
  ·refine wpAny_mono (T.done (CZ X scope x _ fp _ _ N') rfl rfl rfl rfl i [] s' _ H2 OD J2 Fp t2 hstop) (λr s1 ⟨hr,J5⟩=>?_) λ_ _ f=>f;subst hr;exact hRR _ _ _ _ _ _ I3 hf3 J5 hq
  ·refine wpAny_mono (T.item (CZ X scope x _ fp _ _ N') rfl rfl rfl rfl i [] s' _ H2 OD J2 Fp t2 hgo) (λr s1 ⟨u,hr,hx⟩=>?_) λ_ _ f=>f;subst hr;refine wpAny_mono hx (λ_ s2 ⟨v,H3,J3,rv,hy,t3,f3⟩=>?_) λ_ _ f=>f;have Fp3:∀b∈fp,jE (CZ X scope x (s.heap.push { cls:=.type "list",dict:=none,data:=.seq ([]:Ag).toArray }).objs.size fp { s with heap:=s.heap.push { cls:=.type "list",dict:=none,data:=.seq ([]:Ag).toArray } } (upd H s.heap.objs.size (.lst [])) N') [] H3 b:=λb hb' =>
    ⟨f3 b hb',(J3.ok.exf b hb').1,J3.ok.exfs b hb',.inl hb',(J3.ok.exf b hb').2,λp hp=>by cases hp⟩
   have P3:=J3.pinned Fp3 (T.obj (i+1) _ t3);have keepT:∀{σ':St} {Hx:Hp} {sx:Shared},cI (CZ X scope x (s.heap.push { cls:=.type "list",dict:=none,data:=.seq ([]:Ag).toArray }).objs.size fp { s with heap:=s.heap.push { cls:=.type "list",dict:=none,data:=.seq ([]:Ag).toArray } } (upd H s.heap.objs.size (.lst [])) N') ([]++sF fp s2.heap) σ' Hx sx->tn (i+1) sx.heap/\∀b∈fp,Hx b=none:=λJx =>
    ⟨T.keep (i+1) _ _ t3 λb hb' ob e=>(Jx.pin (b,ob) (aO _ (aO _ (iT hb' e)))).1,λb hb'=>by
     obtain ⟨ob,e,_⟩:=T.obj (i+1) _ t3 b hb';exact (Jx.pin (b,ob) (aO _ (aO _ (iT hb' e)))).2.1⟩
   refine wpAny_assign_Name (oF P3 (i:=0) (x:=x) (v:=v) ?nd ?hi ?hx rv (λs5 J5=>?_) ?hfn)
   case nd=>exact S.nd
   case hi=>exact S.zero
   case hx=>exact .inr (oZ S.own)
   case hfn=>exact .inl (by simp [CZ])
   have J5':cI _ _ (some v::slots σ js) H3 s5:=J5;refine wpAny_mono (ht _ _ _ _ _ _ _ _ _ J5' (hturn v H3 hy)) (λok s6 ⟨H6,J6,q6⟩=>?_) λ_ _ f=>f;dsimp only at q6;by_cases hok:ok=true
   ·rw [if_pos hok] at q6 ⊢;refine wpAny_mono (he _ _ _ _ _ _ _ _ _ J6 q6) (λy s7 ⟨w',H7,J7,r7,hD7,m',hm',w7⟩=>?_) λ_ _ f=>f;refine wpAny_mono (rF (X:=CZ X scope x _ fp _ _ N') _ _ _ _ (.ref s.heap.objs.size) [w'] (.ref s.heap.objs.size) [y] (λ_ H8=>H8=upd H7 s.heap.objs.size (.lst (ys++[w']))) J7 rfl (.cons r7 .nil) ⟨_,_,_,rfl,rfl,hD7,hz,rfl⟩) (λ_ s8 ⟨_,H8,J8,_,e8⟩=>?_) λ_ _ f=>f;subst e8;obtain ⟨k1,k2⟩:=keepT J8;exact ⟨m',hm',i+1,ys++[w'],_,some v,J8.unpinned,k1,k2,w7⟩
   ·rw [if_neg hok] at q6 ⊢;obtain ⟨_,m',hm',w7⟩:=q6;obtain ⟨k1,k2⟩:=keepT J6;exact ⟨m',hm',i+1,ys,_,some v,J6.unpinned,k1,k2,w7⟩
 refine codeAny_compStart_list loop (T.self X.A 0 _ _ _ t4 loop)
def FA{wi:TI}{y:Str}{py spos:Pos}{i:Nat}(S:jA X scope x N' js)(hN:X.N.Nodup)(hiN:X.N[i]?=some y)(hy:X.env.kindOf y=some .local)(hi:PI X (.Name x px) iter wi)(ht:∀C fp s₀ H₀,LM (CZ X scope x C fp s₀ H₀ N') ifs tc)(he:∀C fp s₀ H₀,PE (CZ X scope x C fp s₀ H₀ N') elt te)
  (hsw:swapsWith (.ListComp elt [⟨.Name x px,iter,ifs,0⟩] scope pos) (some (.Name y py)) spos.line X.env=pure true) (hs:∀x,foldedSetIterable iter X.env x=pure x:=by intro _;rfl) :
  PS X (.Assign [.Name y py] (.ListComp elt [⟨.Name x px,iter,ifs,0⟩] scope pos) spos) (yW (PB wi js tc te) (nE i)):=by
 intro pins s σ H D0 I h;rw [exec_Assign_Name_used _ _ _ _ hsw];refine wpAny_bind (wpAny_standAt (wpAny_bind ?_));show wpAny _ X.A (do let _ <-comprehension (.ListComp elt [⟨.Name x px,iter,ifs,0⟩] scope pos) scope X.env _ (newList []) false (eval iter X.env) (some (assign (.Name y py) X.env))) _ _ s;refine wpAny_bind (wpAny_mono (wpAny_comprehension_free (use:=some (assign (.Name y py) X.env)) (Q:=λ_ s'=>SP X pins D0 .next s') rfl hs (jO (S.cells I.ok)) S.kind S.names (wpAny_mono (hi pins s σ H _ I h) (λv s1 h1=>?_) λ_ _ e=>e)) (λ_ s' hq=>wpAny_pure (wpAny_pure hq)) λ_ _ e=>e);refine wpAny_mono h1 (λitv s2 ⟨it,fp,tn,J,H2,e,I2,T,t0,hf,R⟩=>?_) λ_ _ e=>e;subst e;refine GD (Q:=λv H'=>nE i v σ H' D0.nx) S I2 T t0 hf ht he R ?_;intro D H3 s3 σ' H' s' I3 hf3 J3 q;obtain ⟨m,hm,_⟩:=J3.loc;have IX:cI X pins σ H' s':=SK S I3 hf3 J3 (Heap.SameBut.refl ..);have hCL:s3.heap.objs.size≠X.env.locals:=λe=>by have:=I3.lt;rw [e] at this;exact bL _ this
 show wpAny _ X.A (assign (.Name y py) X.env (.ref D)) _ _ _;refine wpAny_assign_Name (rA IX hN hiN (.inl hy) (v:=.ref D) rfl (λs5 I5 hsb=>?_) (.inr hy));obtain ⟨a,hsb,ha⟩:=hsb;have hCa:s3.heap.objs.size≠a:=by
  rcases ha with rfl | ha
  ·exact hCL
  ·intro e;obtain ⟨v,o,eo,_⟩:=I3.cell y a ha;have:=aV eo;rw [<-e] at this;exact bL _ this
 refine ⟨m,hm.sameBut hsb hCa,λh' hs'=>⟨_,H',?_,q⟩⟩;exact I5.turned (it:=s3.heap.objs.size) (t':=s5.toks) (λb o n e=>hs'.extBut b o n e) J3.free hCL (.inr I3.sz)
  (λz c hz e=>by
   obtain ⟨v,o,eo,_⟩:=I3.cell z c hz;have:=aV eo;rw [e] at this;exact bL _ this)
  (λp hp e=>by
   have:=aV (I3.pin p hp).1;rw [e] at this;exact bL _ this)
def EA{wi:TI}{y:Str}{py spos:Pos}{i:Nat}(S:jA X scope x N' js)(hN:X.N.Nodup)(hiN:X.N[i]?=some y)(hy:X.env.kindOf y=some .local)(hi:TW X (.Name x px) iter wi)(ht:∀C fp s₀ H₀,IT (CZ X scope x C fp s₀ H₀ N') ifs tc)(he:∀C fp s₀ H₀,iN (CZ X scope x C fp s₀ H₀ N') elt te)
  (hsw:swapsWith (.ListComp elt [⟨.Name x px,iter,ifs,0⟩] scope pos) (some (.Name y py)) spos.line X.env=pure true:=by rfl) (hs:∀x,foldedSetIterable iter X.env x=pure x:=by intro _;rfl) :
  GQ X (.Assign [.Name y py] (.ListComp elt [⟨.Name x px,iter,ifs,0⟩] scope pos) spos) (yW (uP wi js tc te) (nE i)) :=
 ⟨by unfold uP lM;exact FA S hN hiN hy hi.p (λC fp s₀ H₀=>(ht C fp s₀ H₀).p.mono) (λC fp s₀ H₀=>(he C fp s₀ H₀).p.mono) hsw hs⟩
end
def ZT(psc scope:Scope)(N:Ah)(x:Str)(N':Ah)(js:Ae):Bool :=
 (scope.names.all λy=>!(y.2 == .free) || psc.names.lookup y.1 == some .cell)&&(scope.names.filter λy=>y.2 == .cell) == [(x,NameKind.cell)]&&scope.kind == .function &&
 (scope.names.all λy=>!(y.2 == .local) || scope.names.lookup y.1 == some .local)&&scope.names.lookup x == some .cell &&
 (scope.names.all λy=>!(y.2 == .free) || (!(scope.names.lookup y.1 == some .local) && !(y.1 == x)))&&N'.length == js.length+1&&N'[0]? == some x&&decide N'.Nodup &&
 ((List.range js.length).all λi=>match js[i]?,N'[i+1]? with
  | some j,some y=>N[j]? == some y&&scope.names.contains (y,NameKind.free)
  | _,_=>false)
def jA.of{X:Cx}{psc scope:Scope}{N:Ah}{x:Str}{N':Ah}{js:Ae}(h:ZT psc scope N x N' js=true)(hX:X.env.scope=psc)(hN:X.N=N)(hc:X.calm=true):jA X scope x N' js:=by
 unfold ZT at h;simp only [cQ] at h;obtain ⟨⟨⟨⟨⟨⟨⟨⟨⟨h1,h2⟩,h3⟩,h4⟩,h5⟩,h6⟩,h7⟩,h8⟩,h9⟩,h10⟩:=h;rw [List.all_eq_true] at h1 h4 h6 h10;refine ⟨hc,λy hy e=>?_,by simpa using h2,by simpa using h3,λy hy e=>?_,by simpa using h5,λy hy e=>?_,λhy=>?_,by simpa using h7,by simpa using h8,of_decide_eq_true h9,λi j hj=>?_⟩
 ·have:=h1 y hy;rw [e] at this;show X.env.scope.names.lookup y.1=_;rw [hX];simpa using this
 ·have:=h4 y hy;rw [e] at this;simpa using this
 ·have:=h6 _ hy;simp [e] at this
 ·have:=h6 _ hy;simp at this
 ·have hi:i<js.length:=(aF.mp hj).1;have:=h10 i (bU.mpr hi);rw [hj] at this;cases q:N'[i+1]? with
  | none=>rw [q] at this;simp at this
  | some y =>
   rw [q] at this;simp only [cQ] at this;exact ⟨y,rfl,by rw [hN];simpa using this.1,List.contains_iff_mem.mp this.2⟩
end L2
namespace Kw
open PySem L2 Mf
abbrev aAN:Stmt:=(top 60)
def aEJ:bZ ["_law_counts_here"] ["_law_counts_here"] (aY aAN):=⟨rfl,rfl,rfl,Kk,rfl,Kk,Kk⟩
abbrev sQ9:Stmt:=(top 59)
def XY:bZ ["_law_rule","_law_faces","_law_ways","_law_most","_law_due","_law_at","_law_says","_law_plain","_law_more_here","_law_rest"] ["_law_rule","_law_faces","_law_ways","_law_most"] (aY sQ9):=⟨rfl,rfl,rfl,Kk,rfl,Kk,Kk⟩
@[irreducible] def pY:Sp:=λvs H Q _=>∃(cv:V) (cc:Ae),vs=[cv]/\cE H (kJ cc) cv/\∀v H',aU H H'->cE H' (RU (rk cc)) v->Q v H'
def HG(h1:cE H (kJ cc) cv)(k:∀v H',aU H H'->cE H' (RU (rk cc)) v->Q v H'):pY [cv] H Q E:=by
 unfold pY;exact ⟨cv,cc,rfl,h1,k⟩
def rkD(cc:Ae):RU (rk cc)=.tuple [.int (cc.sum:Int),kJ cc]:=by
 show PyData.tuple [.int (cc.sum:Int),PyData.tuple ((ci cc).map .int)]=_;rw [ctI]
theorem zJ.k{K:Aa}{H:Hp}{f:Fr}{x:V}(h:zJ K H f x):jZ K H (gF f) x:=by
 rcases h with h | ⟨a,rfl,h⟩
 ·exact h.k
 ·exact jZ.tup (EL h) (gC.ints [f.1,f.2])
theorem qU.k{K:Aa}{H:Hp}:∀{fs:Ak}{xs:Al},qU K H fs xs->gC K H (fs.map gF) xs
 | [],xs,h=>by
  have:xs=[]:=List.eq_nil_of_length_eq_zero h.len;subst this;unfold gC;rfl
 | f::fs,[],h=>by have:=h.len;simp at this
 | f::fs,x::xs,h=>by
  rw [bI];unfold gC;obtain ⟨g,h1,h2⟩:=h.at_ 0 x rfl;cases h1;exact ⟨x,xs,rfl,h2.k,qU.k ⟨by have:=h.len;simpa using this,λi y hy=>h.at_ (i+1) y (by simpa using hy)⟩⟩
theorem NX.k{K:Aa}{H:Hp}{fs:Ak}{z:V}(h:NX K H fs z):jZ K H (pP fs) z:=by
 obtain ⟨sa,sx,rfl,h1,h2⟩:=h;exact jZ.tup (iJ.of h1) h2.k
def aBa{W b:Nat}:∀f∈rE W b,nG 1900 f:=λf hf=>by
 obtain ⟨k,_,rfl⟩:=aX.mp hf;have e:(1:Nat)<2^1900:=Nat.one_lt_two_pow Dd;split
 ·exact ⟨e,e⟩
 ·exact ⟨Nat.lt_trans Nat.zero_lt_one e,e⟩
def QX{W b:Nat}(h:W<=4):Sw 3 19264 (pP (rE W b)):=Sw.frs (k:=5) aBa (by unfold rE;rw [aA,bA];exact Oo)
def CU(f g:Fr):PyData.eqv (gF f) (gF g)=decide (f=g):=by
 have:=XN [f.1,f.2] [g.1,g.2];rw [show PyData.eqv (gF f) (gF g)=PyData.eqv (cD [f.1,f.2]) (cD [g.1,g.2]) from rfl,this];by_cases h:f=g
 ·subst h;simp
 ·have:¬[f.1,f.2]=[g.1,g.2]:=λz=>h (by
   injection z with z1 z2;injection z2 with z2 _;exact Prod.ext z1 z2)
  rw [cJ h,cJ this]
def mH(f:Fr):SeqAt.shaped (gF f)=true:=rfl
@[irreducible] def oI(K:Aa):Sp:=λvs H Q _=>∃(r:V) (F W M:Nat) (best:Ae->Nat),vs=[r,.int (F:Int),.int (W:Int),.int (M:Int)]/\IQ K H (rul F W M best) r/\sL F W M best/\2<=F/\(∀c∈rise F M,best c<=W)/\(rise F M).length<=56/\∀H',aU H H'->Q (.bl true) H'
def EO{K:Aa}(h1:IQ K H (rul F W M best) r)(h2:sL F W M best)(h3:2<=F)(h4:∀c∈rise F M,best c<=W)(h5:(rise F M).length<=56)(k:∀H',aU H H'->Q (.bl true) H'):oI K [r,.int (F:Int),.int (W:Int),.int (M:Int)] H Q E:=by
 unfold oI;exact ⟨r,F,W,M,best,rfl,h1,h2,h3,h4,h5,k⟩
section
def aEf(F:jP K "_law_rank" "_law_rank" aAN f fd)(T:kX K mg c):eC P w K mg base dR 1 f fd ["_law_counts_here"] pY:=by
 refine F.oky aEJ λvs H Q E h=>?_;unfold pY at h;obtain ⟨cv,cc,rfl,rc,k⟩:=h;refine ⟨rfl,λcdv A outer s hr=>?_⟩;obtain ⟨ac,rfl,hac⟩:=gK rc;refine ⟨_,(bD (cH (dI (aJ (dX (pJ K rfl) (by rfl) T.b_sum Kk (aJ (aD 0) aE)) (aJ (aD 0) aE))))),⟨_,rfl,rsT (ns:=ci cc) (by rw [eJ];exact iJ.of hac) ?_⟩⟩;rw [vJ];refine ⟨_,rfl,?_⟩;refine nZ (by show 2<=64;decide) λq1 H1 hq1 e1 s1=>k _ H1 s1 ?_;rw [rkD];exact cE.tup e1 (aQ.cons (cE.int _) (aQ.cons (rc.same s1) aQ.nil))
def oQ9(F:jP K "_law_is_plain_rule" "_law_is_plain_rule" sQ9 f fd)(T:kX K mg c)(FQ12:gR dR P w K mg base 1 "_law_more" ["_law_counts_here","_law_face"] fM)(FQ16:gR dR P w K mg base 1 "_law_rank" ["_law_counts_here"] pY):eC P w K mg base dR 4 f fd ["_law_rule","_law_faces","_law_ways","_law_most"] (oI K):=by
 refine F.oky XY λvs H Q E h=>?_;unfold oI at h;obtain ⟨r,F,W,M,best,rfl,rr,PL,f2,bw,r56,k⟩:=h;refine ⟨rfl,λcdv A outer s hr=>?_⟩;obtain ⟨a,xs,rfl,ha,lx,hxs⟩:=rr;have f1:=PL.f1;have f4:=PL.f4;have w4:=PL.w4;have m5:=PL.m5;have I:kY F M best:=⟨f1,f4,m5,PL.on⟩;have lxR:xs.length=(fA F M best).length:=by rw [lx];unfold rul;rw [aA]
 have lR:(fA F M best).length<=56:=aM (iE f1).length_le r56;have lR0:0<(fA F M best).length:=by obtain ⟨r,hr⟩:=xL (F:=F) (M:=M) (best:=best);rw [hr];exact Nat.succ_pos _
 refine ⟨_,(aH (jF (BD (sB (dX SV (by rfl) T.b_isinstance Kk (aJ (aD 0) (aJ (JD (v:=.ty "tuple") (u:=.type "tuple") rfl T.b_tuple Kk rfl) aE))))) (bD (cH rQ)) fK)
  (aH (bN (i:=4) XY.nd rfl (Or.inr rfl) (iD (aJ (bX CG (dI (aJ aK aE)) (aD 1)) aE)))
  (aH (bN (i:=5) XY.nd rfl (Or.inr rfl) aK)
  (aH (sO PassesOwn.never (DZ (BB (eO xR (aD 5) (dX gG (by rfl) T.b_len Kk (aJ (aD 4) aE)) (nomark _)) (wI (eO xR (aD 5) (dX gG (by rfl) T.b_len Kk (aJ (aD 0) aE)) (nomark _))))) (aH (jF (sN (DZ (DY (BD (sB (dX SV (by rfl) T.b_isinstance Kk (aJ (bP bK (aD 0) (aD 5) (λ_ _=>rfl)) (aJ (JD (v:=.ty "tuple") (u:=.type "tuple") rfl T.b_tuple Kk rfl) aE))))) (DY (eO FD (dX gG (by rfl) T.b_len Kk (aJ (bP bK (aD 0) (aD 5) (λ_ _=>rfl)) aE)) aK (nomark _)) (BA (eO FD (dX (tZ hr.gd hr.units) (by rfl) T.b_repr Kk (aJ (bP bK (bP bK (aD 0) (aD 5) (λ_ _=>rfl)) aK (λ_ _=>rfl)) aE)) (dX (tZ hr.gd hr.units) (by rfl) T.b_repr Kk (aJ (bP bK (aD 4) (aD 5) (λ_ _=>rfl)) aE)) (nomark _))))))) (bD (cH rQ)) fK)
  (aH (bN (i:=6) XY.nd rfl (Or.inl rfl) (bP bK (bP bK (aD 0) (aD 5) (λ_ _=>rfl)) aK (λ_ _=>rfl)))
  (aH (EA (i:=7) (jA.of (psc:=aY sQ9) (N:=["_law_rule","_law_faces","_law_ways","_law_most","_law_due","_law_at","_law_says","_law_plain","_law_more_here","_law_rest"]) (N':=["_law_place","_law_ways"]) (js:=[2]) Kk rfl rfl rfl) XY.nd rfl rfl (cS rfl T.b_range (aJ (bX eB aK (aD 2)) aE)) (λ_ _ _ _=>dW) (λ_ _ _ _=>(pK (XV K) (by rfl) T.b_tuple Kk (aJ (gI (dP.of (N:=["_law_place","_law_ways"]) (N':=["_law_k","_law_place"]) (js:=[0]) (by kernel_rfl) rfl rfl rfl) (cS rfl T.b_range (aJ (bX eB aK (aD 1)) aE)) (λ_ _ _ _=>dW) (λ_ _ _ _=>(dI (aJ (pK NO (by rfl) T.b_int Kk (aJ (BF vX (aD 0) (aD 1) (nomark _)) aE)) (aJ aK aE))))) aE))))
  (aH (jF (sN (DZ (DY (eO CF (dX (SU K hr.gd hr.units) (by rfl) T.b_repr Kk (aJ (aD 6) aE)) (gI (dP.of (psc:=aY sQ9) (N:=["_law_rule","_law_faces","_law_ways","_law_most","_law_due","_law_at","_law_says","_law_plain","_law_more_here","_law_rest"]) (N':=["_law_one"]) (js:=[]) Kk rfl rfl rfl) (eZ (aD 7)) (λ_ _ _ _=>dW) (λ_ _ _ _=>(dX (tZ hr.gd hr.units) (by rfl) T.b_repr Kk (aJ (aD 0) aE)))) (by with_unfolding_all rfl)) (BA (DZ (BB (eO (RG K hr.units) (bP bK (aD 6) aK (λ_ _=>rfl)) (dI (aJ aK (aJ aK aE))) (nomark _)) (wI (eO vX (dX (pJ K rfl) (by rfl) T.b_sum Kk (aJ (bP bK (aD 4) (aD 5) (λ_ _=>rfl)) aE)) (aD 3) (nomark _))))))))) (bD (cH rQ)) fK)
  (aH (GU (jF (eO (RG K hr.units) (bP bK (aD 6) aK (λ_ _=>rfl)) (dI (aJ aK (aJ aK aE))) (nomark _)) (aH (iB (i:=8) (dP.of (psc:=aY sQ9) (N:=["_law_rule","_law_faces","_law_ways","_law_most","_law_due","_law_at","_law_says","_law_plain","_law_more_here","_law_rest"]) (N':=["_law_face","_law_due","_law_at"]) (js:=[4,5]) Kk rfl rfl rfl) XY.nd rfl rfl (cS rfl T.b_range (aJ (aD 1) aE)) (λ_ _ _ _=>dW) (λ_ _ _ _=>(bV FQ12 (hr.mono Dd) (aJ (bP (iZ K) (aD 1) (aD 2) (λ_ _=>rfl)) (aJ (aD 0) aE)))))
  (aH (bN (i:=9) XY.nd rfl (Or.inl rfl) (bX xS (jG (qG K) (aD 4) (kZ (bX eB (aD 5) aK)) lA) (gI (dP.of (psc:=aY sQ9) (N:=["_law_rule","_law_faces","_law_ways","_law_most","_law_due","_law_at","_law_says","_law_plain","_law_more_here","_law_rest"]) (N':=["_law_one","_law_due"]) (js:=[4]) Kk rfl rfl rfl) (eZ (aD 8)) (λ_ _ _ _=>BC (eO (MU K hr.units) (aD 0) (aD 1) (by with_unfolding_all rfl))) (λ_ _ _ _=>(aD 0)))))
  (bD (bN (i:=4) XY.nd rfl (Or.inr rfl) (bX xS (jG (qG K) (aD 4) lA (kZ (bX eB (aD 5) aK))) (UL K FQ16 (hr.mono Dd) (by rfl) T.b_sorted (aD 9))))))) fK))
  (bD (bN (i:=5) XY.nd rfl (Or.inr rfl) (bX eB (aD 5) aK)))))))))
  (bD (cH (BF vX (dX gG (by rfl) T.b_len Kk (aJ (aD 4) aE)) (dX gG (by rfl) T.b_len Kk (aJ (aD 0) aE)) (nomark _)))))))),?_⟩
 refine ⟨_,rfl,rist ha ?_⟩;refine ⟨_,rfl,NB ?_⟩;refine nZ (by show 1<=64;decide) λq1 H1 hq1 e1 s1=>⟨_,rfl,?_⟩;refine aBn (k:=F) e1 f2 Oo λq2 H2 s2 e2=>CI (by show 1<=64;decide) λL H3 hL e3 s3=>?_;have S3:=(s1.trans s2).trans s3;have du0:tW F best (fA F M best) 0=[List.replicate F 0]:=by
  obtain ⟨r,hr⟩:=xL (F:=F) (M:=M) (best:=best);have:=I.split (j:=0) (k:=1) (aI _);rw [this];have e:((fA F M best).drop 1).filter (NG F best (fA F M best) 0)=[]:=by
   refine List.filter_eq_nil_iff.mpr λd hd hb=>?_;rw [rJ] at hb;rcases hb with hb | ⟨c,hc,_⟩
   ·have nd:=I.nd;rw [hr,List.nodup_cons] at nd;rw [hr,List.drop_one,List.tail_cons] at hd;exact nd.1 (hb ▸ hd)
   ·rw [List.take_zero] at hc;cases hc
  rw [e,List.append_nil,hr];rfl
 have L3:iK H3 L (tW F best (fA F M best) 0):=by
  rw [du0];refine ⟨_,e3,aQ.cons (nU ?_) aQ.nil⟩;rw [s3 _ _ e2,List.map_replicate];rfl
 refine wK (λm σ H'=>∃(L:Addr) (j:Nat) (o6 o7 o8 o9:Option V),σ=[some (.ref a),some (.int (F:Int)),some (.int (W:Int)),some (.int (M:Int)),some (.ref L),some (.int (j:Int)),o6,o7,o8,o9]/\aU H H'/\iK H' L (tW F best (fA F M best) j)/\j<=(fA F M best).length/\m=(fA F M best).length-j)
  (λσ H'=>∃(L:Addr) (j:Nat) (o6 o7 o8 o9:Option V),σ=[some (.ref a),some (.int (F:Int)),some (.int (W:Int)),some (.int (M:Int)),some (.ref L),some (.int (j:Int)),o6,o7,o8,o9]/\aU H H'/\iK H' L (fA F M best))
  _ ⟨L,0,_,_,_,_,rfl,S3,L3,cG _,rfl⟩ ?_ ?_
 ·clear e1 e2 e3 s1 s2 s3 S3 L3 hL hq1 du0;rintro m σ H1 ⟨L,j,o6,o7,o8,o9,rfl,S1,LS,hj,rfl⟩;obtain ⟨vs,eL,rL,lL⟩:=LS.len;have ld:=kY.dlen (F:=F) (M:=M) (best:=best) j;have ha1:=S1 _ _ ha;by_cases hlt:j<(fA F M best).length
  ·obtain ⟨cc,hc⟩:∃cc,(fA F M best)[j]?=some cc:=⟨_,aB hlt⟩;have hcm:=aG hc;have hcr:=(iE f1).subset hcm;obtain ⟨lc,sc⟩:=(gP f1).mp hcr;have hat:=I.at hc;have ldj:j<(tW F best (fA F M best) j).length:=(aF.mp hat).1;obtain ⟨y,hy,ry⟩:=eG rL hat;obtain ⟨x,hx⟩:∃x,xs[j]?=some x:=⟨_,aB Oo⟩;obtain ⟨e,he,en⟩:=hxs j x hx;have ee:e=plE W best cc:=by
    unfold rul at he;rw [aL,hc] at he;simpa using he.symm
   subst ee;obtain ⟨b,cu,z,rfl,hb,hcu,sz⟩:=en.t S1.t;have hcu:H1 cu=some (.tup (cc.map AO)):=hcu;have sz:NX K H1 (rE W (best cc)) z:=sz;refine ⟨_,rfl,_,rfl,QH eL ?_⟩;refine ⟨_,_,rfl,rfl,_,rfl,FS (cL Oo) ?_⟩;refine ⟨_,rfl,_,rfl,ML ha1 ?_⟩;refine ⟨_,_,rfl,rfl,_,rfl,FS (cL Oo) ?_⟩;have sw:Sw 2 7700 (kJ cc):=(Sw.cts (k:=4) (c:=cc) (λn hn=>by
    obtain ⟨i,hi⟩:=cZ.mp hn;have:=JI hi;exact Oo) Oo).le
   refine ⟨λb H'=>H'=H1/\b=false,?_,?_⟩
   ·refine ⟨_,rfl,_,rfl,jS ha1 (cV hx) ?_⟩;refine rist hb ⟨_,rfl,pO rfl ?_⟩;refine ⟨_,rfl,_,rfl,jS ha1 (cV hx) ?_⟩;refine ML hb ⟨rfl,_,rfl,pO (by simp) ?_⟩;refine ⟨_,rfl,_,rfl,jS ha1 (cV hx) ?_⟩;refine jS hb rfl (rrW (nU hcu) sw Dd Dd ?_);refine ⟨_,rfl,_,rfl,FR eL (cV hy) ?_⟩;exact rrW ry sw Dd Dd ⟨rfl,_,rfl,rfl,by simp⟩
   rintro b' H' ⟨rfl,rfl⟩;refine NB ⟨_,rfl,_,rfl,jS ha1 (cV hx) ?_⟩;refine jS hb rfl ⟨_,rfl,_,_,rfl,rfl,⟨_,rfl,Oo,Oo,hJ (λi y H'=>i<1+W/\cE H' (pP (rE W i)) y) (λi y Ha Hb s ⟨h0,h⟩=>⟨h0,h.flat s (kF _)⟩) Oo (λi H4 Q4 hi s4 k4=>?_) (λD ps H4 hD e4 s4 hy4 hr4=>?_)⟩⟩
   ·have hi:i<1+W:=Oo;refine ⟨_,rfl,_,_,rfl,rfl,⟨_,rfl,Oo,Oo,hJ (λq y H'=>q<1+W/\cE H' (gF (if q=i then (1,1) else (0,1))) y) (λq y Ha Hb s ⟨h0,h⟩=>⟨h0,h.flat s (cT _)⟩) Oo (λq H5 Q5 hq s5 k5=>?_) (λD5 ys H5 hD5 e5 s5 hy5 hr5=>?_)⟩⟩
    ·refine ⟨_,rfl,_,rfl,rfl,.inr ⟨_,rfl,?_⟩⟩;refine nZ (by show 2<=64;decide) λq6 H6 hq6 e6 s6=>k5 _ H6 s6 ⟨Oo,dJ (f:=if q=i then (1,1) else (0,1)) ?_⟩;rw [e6,Int.zero_add,Int.zero_add];by_cases h:q=i
     ·subst h;rw [if_pos rfl,if_pos (cL rfl)]
     ·rw [if_neg h,if_neg (by rw [decide_eq_true_eq];exact λz=>h (by injection z with z;exact Oo))]
    ·refine ⟨D5,ys,rfl,.inl ⟨fI.of e5,λl hl=>?_⟩⟩;have sl:=aU.upd (o:=.tup ys) hl;refine k4 _ _ (s5.trans sl) ⟨hi,cE.tup bO (aQ.ofIdx (by unfold rE;rw [aA,aA,bA];exact Oo) λq y hq=>?_)⟩;obtain ⟨h1,h2⟩:=hr5 q y hq;exact ⟨_,by unfold rE;rw [aL,aL,cN h1];rfl,h2.same sl⟩
   have lps:ps.length=1+W:=Oo;have S4:=S1.trans s4;have sz4:=sz.t s4.t;have bW:=bw cc hcr;obtain ⟨sa,sx,ez,hsa,rsx⟩:=id sz4;have epl:(rE W (best cc))[0]?=some (if 0=best cc then (1,1) else (0,1)):=by unfold rE;rw [aL,cN Oo];rfl
   obtain ⟨y0,hy0,fy0⟩:=rsx.get epl;have LS4:=LS.same s4;obtain ⟨vs4,eL4,rL4,lL4⟩:=LS4.len;obtain ⟨y4,hy4',ry4⟩:=eG rL4 hat;refine ⟨λb H'=>aU H4 H'/\b=false,?_,?_⟩
   ·refine ⟨_,rfl,?_⟩;have swp:=QX (b:=best cc) w4;refine rrK sz4.k swp.sh swp.nd (aM swp.dp Dd) (aM (xK _ swp.sh swp.nd) (aM swp.wd Dd)) ⟨_,rfl,D,rfl,⟨_,fI.of e4⟩,hV (λi y _=>i<1+W/\y=.str (PyData.shown (pP (rE W i)))) (λ_ _ _ _ _ h=>h) Oo e4 (λi y H5 Q5 hy5 s5 k5=>?_) (λD6 ts H6 hD6 e6 s6 hy6 hr6=>?_)⟩
    ·obtain ⟨hi,ri⟩:=hr4 i y hy5;refine ⟨_,rfl,rrW (ri.same s5) (QX w4) Dd Dd ?_⟩;exact k5 _ H5 (aU.refl _) ⟨hi,rfl⟩
    ·refine ⟨D6,ts,rfl,.inl (fI.of e6),rfl,?_,?_⟩
     ·refine List.all_eq_true.mpr λt ht=>?_;obtain ⟨i,hi⟩:=cZ.mp ht;rw [(hr6 i t hi).2];rfl
     ·have hin:inV (.str (PyData.shown (pP (rE W (best cc))))) ts=true:=by
       unfold inV;refine List.any_eq_true.mpr ?_;obtain ⟨t,ht⟩:∃t,ts[best cc]?=some t:=⟨_,aB Oo⟩;refine ⟨t,aG ht,?_⟩;rw [(hr6 _ t ht).2];show (_ == _)=true;simp
      rw [hin];refine ⟨_,rfl,pO rfl ?_⟩;refine ⟨_,rfl,?_⟩;subst ez;refine jS (s6 _ _ hsa) (cV (j:=0) hy0) (nZ (by show 2<=64;decide) λq7 H7 hq7 e7 s7=>?_);refine reK (d:=gF (if 0=best cc then (1,1) else (0,1))) (d':=gF (1,1)) ((fy0.t s6.t).t s7.t).k (cE.k (dJ (f:=(1,1)) e7)) (mH _) (mH _) ?_;rw [CU,Bool.true_beq];refine ⟨_,rfl,?_⟩;by_cases h0:best cc=0
      ·rw [if_pos h0.symm];refine XJ ⟨_,rfl,_,rfl,?_⟩;have s47:=s6.trans s7;refine FR (s47 _ _ eL4) (cV hy4') ?_;obtain ⟨ac,rfl,hac⟩:=gK (ry4.same s47);refine rsT (ns:=ci cc) (by rw [eJ];exact iJ.of hac) ?_;rw [vJ];refine ⟨_,rfl,rfl,_,rfl,s47,?_⟩;have:=PL.on cc h0;refine cJ λz=>?_;injection z with z;exact Oo
      ·rw [if_neg λz=>h0 z.symm];exact pO rfl ⟨s6.trans s7,rfl⟩
   rintro b5 H5 ⟨s5,rfl⟩;refine NB ?_;have S5:=S4.trans s5;have eL5:=s5 _ _ eL4;have rL5:=rL4.same s5;subst ez;refine ⟨λσ H'=>∃(L:Addr) (o8 o9:Option V),σ=[some (.ref a),some (.int (F:Int)),some (.int (W:Int)),some (.int (M:Int)),some (.ref L),some (.int (j:Int)),some (.ref sa),some (.ref D),o8,o9]/\aU H H'/\iK H' L (tW F best (fA F M best) (j+1)),?_,?_⟩
   ·rintro σ H' ⟨L',o8',o9',rfl,S',L'⟩;exact ⟨_,rfl,_,_,rfl,rfl,⟨_,Oo,_,j+1,_,_,_,_,by rfl,S',L',Oo,rfl⟩⟩
   ·refine ⟨_,rfl,jS (s5 _ _ hsa) (cV (j:=0) hy0) ?_⟩;refine nZ (by show 2<=64;decide) λq6 H6 hq6 e6 s6=>reK (d:=gF (if 0=best cc then (1,1) else (0,1))) (d':=gF (1,1)) ((fy0.t s5.t).t s6.t).k (cE.k (dJ (f:=(1,1)) e6)) (mH _) (mH _) ?_;rw [CU,Bool.true_beq];refine ⟨_,rfl,?_⟩;by_cases h0:best cc=0
    ·rw [if_pos h0.symm];refine XJ ?_;have eL6:=s6 _ _ eL5;have rL6:=rL5.same s6;refine ⟨_,rfl,_,rfl,Oo,Oo,hJ (λi y H'=>i<F/\cE H' (kJ (bQ cc i)) y) (λi y Ha Hb s ⟨h0,h⟩=>⟨h0,h.flat s (kH _)⟩) Oo (λi H7 Q7 hi s7 k7=>?_) (λD7 ms H7 hD7 e7 s7 hy7 hr7=>?_)⟩
     ·have hi:i<F:=Oo;rw [Int.zero_add];refine ⟨_,rfl,_,rfl,FR (s7 _ _ eL6) (cV hy4') ?_⟩;refine ⟨_,rfl,?_⟩;exact jI ((((ry4.same s5).same s6)).same s7) Oo Oo λv8 H8 s8 r8=>k7 _ H8 s8 ⟨hi,r8⟩
     have lms:ms.length=F:=Oo;have rm:aQ H7 (((List.range F).map (bQ cc)).map kJ) ms:=aQ.ofIdx (by rw [aA,aA,bA];exact lms) λi y hi=>by
      obtain ⟨h1,h2⟩:=hr7 i y hi;exact ⟨_,by rw [aL,aL,cN h1];rfl,h2⟩
     refine ⟨_,rfl,_,rfl,_,_,rfl,rfl,_,rfl,?_⟩;have eL7:=s7 _ _ eL6;have rL7:=rL6.same s7;refine slL (lo:=some ((j:Int)+1)) (hi:=none) eL7 (ys:=vs4.drop (j+1)) (by rw [show (j:Int)+1=((j+1:Nat):Int) by omega];exact DA _ _) λq8 H8 hq8 e8 s8=>⟨_,rfl,D7,rfl,⟨_,fI.of (s8 _ _ e7)⟩,?_⟩;have S8:=((S5.trans s6).trans s7).trans s8;refine AM (g:=kJ) (rm.same s8) (λd=>!decide (d∈tW F best (fA F M best) j)) Oo (s8 _ _ e7) (λy d H9 Q9 hd ry s9 k9=>?_) (λy H9 Q9 q=>⟨_,rfl,q⟩) (λD9 ns H9 hD9 e9 s9 r9=>?_)
     ·refine ⟨_,rfl,_,rfl,?_⟩;have rl:aQ H9 (((tW F best (fA F M best) j).map ci).map cD) vs4:=by
       rw [List.map_map,show (tW F best (fA F M best) j).map (cD ∘ ci)=(tW F best (fA F M best) j).map kJ from eI λc _=>ctI c];exact (rL7.same s8).same s9
      refine riT (c:=ci d) (.inl (fI.of (s9 _ _ (s8 _ _ eL7)))) rl (by rw [show cD (ci d)=kJ d from ctI d];exact ry.k) ?_;rw [if_pos rfl];refine ⟨_,rfl,?_⟩;have:decide (ci d∈(tW F best (fA F M best) j).map ci)=decide (d∈tW F best (fA F M best) j):=by
       refine decide_eq_decide.mpr ⟨λh=>?_,λh=>List.mem_map_of_mem h⟩;obtain ⟨d',hd',e'⟩:=aX.mp h;rw [<-kU e'];exact hd'
      rw [this];exact k9 H9 (aU.refl _)
     have lm9:ns.length<=4:=by
      rw [r9.len,aA];have:=List.length_filter_le (λd=>!decide (d∈tW F best (fA F M best) j)) ((List.range F).map (bQ cc));rw [aA,bA] at this;exact Oo
     refine SX (s9 _ _ e8) e9 (by rw [List.length_drop];exact Oo) λq10 H10 hq10 e10 s10=>?_;have rr10:aQ H10 ((rst F best (fA F M best) j cc).map kJ) (vs4.drop (j+1)++ns):=by
      unfold rst;rw [bF];refine aQ.app ?_ (r9.same s10);rw [List.map_drop];exact aQ.drop _ (((rL7.same s8).same s9).same s10)
     have lr10:(vs4.drop (j+1)++ns).length=(rst F best (fA F M best) j cc).length:=by rw [rr10.len,aA]
     have lr56:=I.len hc h0;have S10:=(S8.trans s9).trans s10;refine ⟨_,rfl,_,rfl,_,_,rfl,rfl,_,rfl,?_⟩;have s710:=(s8.trans s9).trans s10;refine slL (lo:=none) (hi:=some ((j:Int)+1)) (s710 _ _ eL7) (ys:=vs4.take (j+1)) (by rw [show (j:Int)+1=((j+1:Nat):Int) by omega];exact DB _ _) λq11 H11 hq11 e11 s11=>⟨_,rfl,?_⟩;refine aCv (kz:=(rst F best (fA F M best) j cc).map rk) (s11 _ _ e10) Oo ⟨by rw [aA,lr10],λk hk=>?_,λi y k H' hy hk s'=>?_⟩ λD12 ix H12 pm srt hD12 e12 s12=>?_
     ·obtain ⟨d,_,rfl⟩:=aX.mp hk;unfold rk;exact List.cons_ne_nil _ _
     ·obtain ⟨d,hd,rd⟩:=fC (rr10.same s11) hy;rw [aL,hd] at hk;cases hk;exact HG (rd.same s') λv H'' s'' r''=>⟨s'',r''⟩
     have nk:((rst F best (fA F M best) j cc).map rk).Nodup:=nodup_map_on (λx _ y _ e=>QI e) (I.rnd hc);have hix:∀i∈ix,i<(rst F best (fA F M best) j cc).length:=λi hi=>by
      have:=pm.mem_iff.mp hi;rw [bU] at this;exact Oo
     have emap:(ix.map λi=>((rst F best (fA F M best) j cc).map rk).getD i [])=(ix.map λi=>(rst F best (fA F M best) j cc).getD i []).map rk:=by
      rw [List.map_map];refine eI λi hi=>?_;have h1:=hix i hi;show ((rst F best (fA F M best) j cc).map rk).getD i []=rk ((rst F best (fA F M best) j cc).getD i []);rw [bH,bH,aL,aB h1];rfl
     have srt2:=srt nk;rw [emap] at srt2;have hmem:∀d,d∈(ix.map λi=>(rst F best (fA F M best) j cc).getD i [])↔d∈rst F best (fA F M best) j cc:=λd=>by
      rw [aX];constructor
      ·rintro ⟨i,hi,rfl⟩;exact eV (hix i hi)
      ·intro hd;obtain ⟨i,hi⟩:=cZ.mp hd;have li:=(aF.mp hi).1;exact ⟨i,pm.mem_iff.mpr (bU.mpr Oo),gJ hi⟩
     have nx:=I.next hc h0 hmem srt2;have lix:ix.length=(rst F best (fA F M best) j cc).length:=by rw [pm.length_eq,bA,lr10]
     have rs12:aQ H12 ((ix.map λi=>(rst F best (fA F M best) j cc).getD i []).map kJ) (ix.map λi=>(vs4.drop (j+1)++ns).getD i .non):=by
      refine aQ.ofIdx (by rw [aA,aA,aA]) λq y hq=>?_;rw [aL] at hq;obtain ⟨i,hi,rfl⟩:=cU.mp hq;have h1:=hix i (aG hi);obtain ⟨d,hd⟩:∃d,(rst F best (fA F M best) j cc)[i]?=some d:=⟨_,aB h1⟩;obtain ⟨v,hv,rv⟩:=eG (((rr10.same s11)).same s12) hd;refine ⟨kJ d,by rw [aL,aL,hi];show some (kJ ((rst F best (fA F M best) j cc).getD i []))=_;rw [gJ hd],?_⟩;rw [gJ hv];exact rv
     refine SX (s12 _ _ e11) e12 (by rw [cK,aA];exact Oo) λq13 H13 hq13 e13 s13=>⟨q13,_,_,rfl,(((S10.trans s11).trans s12).trans s13),?_⟩;rw [<-nx];refine ⟨_,e13,?_⟩;rw [bF];refine aQ.app ?_ (rs12.same s13);rw [List.map_take];exact aQ.take _ ((((rL7.same s710).same s11).same s12).same s13)
    ·rw [if_neg λz=>h0 z.symm];refine pO rfl ⟨L,_,_,rfl,S5.trans s6,?_⟩;rw [I.stop hc h0];exact (LS4.same s5).same s6
  ·have ej:j=(fA F M best).length:=Oo;have ed:tW F best (fA F M best) j=fA F M best:=I.all Oo;rw [ed] at LS lL;refine ⟨_,rfl,_,rfl,QH eL ?_⟩;refine ⟨_,_,rfl,rfl,_,rfl,pO (cJ Oo) ?_⟩;exact ⟨L,j,_,_,_,_,rfl,S1,LS⟩
 ·rintro σ H1 ⟨L,j,o6,o7,o8,o9,rfl,S1,LS⟩;obtain ⟨vs,eL,rL,lL⟩:=LS.len;refine ⟨_,rfl,QH eL ?_⟩;refine ⟨_,rfl,ML (S1 _ _ ha) ?_⟩;refine ⟨rfl,?_⟩;rw [cL (by rw [lL,lxR])];exact k H1 S1
end
end Kw
namespace L2
open PySem PySem.Spec PySem.W PyProof.Rows HT
theorem EF{M:Model}{A:Around}{E:Value->Shared->Prop}{s:Shared}{items:Ai}{x:Value}{b:Nat->Bool}{j:Nat}{Q:Option PySem.Fin × Unit->Shared->Prop}(hj:j<items.size)(hit:b j=true)(hno:∀m,m<j->b m=false)
    (he:∀m y,items[m]?=some y->∀(Q:Bool->Shared->Prop),Q (b m) s->wpAny M A (eqBool y x) Q E s) (q:Q (some (.done (.ret (.int (j:Int) s.toks))),()) { s with toks:=s.toks+1 }) :
    ∀ (n lo : Nat), lo + n = items.size -> lo <= j -> wpAny M A (forIn (List.range' lo n 1) (none, ()) λ(i : Nat) (__s : Option PySem.Fin × Unit) => (match items[i]? with
                    | some y=>do
                      let __do_lift <-eqBool y x
                      if __do_lift=true then do
                          let __do_lift <-retInt (i:Int)
                          pure (ForInStep.done (some __do_lift,()))
                        else pure (ForInStep.yield (none,()))
                    | x=>pure (ForInStep.yield (none,())))) Q E s
  | 0,lo,h,hl=>Oo
  | n+1,lo,h,hl=>by
    rw [List.range'_succ,List.forIn_cons];have e:items[lo]?=some items[lo]:=Array.getElem?_eq_getElem Oo;refine wpAny_bind ?_;rw [e];refine wpAny_bind (he lo _ e _ ?_);by_cases z:lo=j
    · subst z
      rw [hit,if_pos rfl];refine wpAny_bind ?_;unfold retInt;refine wpAny_bind (wpAny_mkInt ?_);exact wpAny_pure (wpAny_pure (wpAny_pure q))
    · rw [hno lo Oo,if_neg Dd]
      exact wpAny_pure (EF hj hit hno he q n (lo+1) Oo Oo)
def HA(l:Addr)(items:Ai)(n:Nat)(dd:Option Addr)(sl:Array (Option Value))(x:Value)(b:Nat->Bool)(j:Nat)(hj:j<items.size)(hit:b j=true)(hno:∀m,m<j->b m=false) :
  Meets (Builtin.«tuple.index» ⟨[.ref l,x],[]⟩) λA R s=>s.heap.get? l=some { cls:=.type "tuple",dict:=dd,data:=.seq items n,slots:=sl }/\(∀m y,items[m]?=some y->SeqAt.EqAt A.in1 s y x (b m))/\R (.ok (.ret (.int (j:Int) s.toks))) { s with toks:=s.toks+1 }:=by
 intro prog w A R s ⟨h1,h2,h3⟩;unfold Builtin.«tuple.index»;refine wpAny_bind (m:=selfAndSome _ _ _ _ _) (wpAny_pure ?_);refine wpAny_bind (wpAny_tupleItemsOf h1 rfl ?_);refine wpAny_bind (wpAny_pure ?_);refine wpAny_bind (wpAny_pure ?_);refine wpAny_bind ?_;rw [Std.Legacy.Range.forIn_eq_forIn_range'];have e:(Std.Legacy.Range.size [0:min items.size items.size])=items.size:=by simp [Std.Legacy.Range.size]
 rw [e];refine EF hj hit hno (λm y hy Q q=>h2 m y hy prog w _ Q q) ?_ items.size 0 Oo Oo;exact wpAny_pure h3
@[irreducible] def JV(K:Aa):V->Al->Hp->VK->Prop:=λx vs H Q=>∃(l:Addr) (xs:Al) (cs:Ac) (c:Af) (y:V) (j:Nat),x=.ref l/\vs=[y]/\H l=some (.tup xs)/\gC K H (cs.map cD) xs/\jZ K H (cD c) y/\cs[j]?=some c/\(∀i,i<j->cs[i]? ≠ some c)/\Q (.int (j:Int)) H
def aEq{K:Aa}{H:Hp}{l:Addr}{xs:Al}{cs:Ac}{c:Af}{y:V}{j:Nat}{Q:VK}(h:H l=some (.tup xs))(r:gC K H (cs.map cD) xs)(ry:jZ K H (cD c) y)(h1:cs[j]?=some c)(h2:∀i,i<j->cs[i]? ≠ some c)(q:Q (.int (j:Int)) H):JV K (.ref l) [y] H Q:=by
 unfold JV;exact ⟨l,xs,cs,c,y,j,rfl,rfl,h,r,ry,h1,h2,q⟩
theorem zV{K:Aa}{H:Hp}:∀{ds:List PyData}{xs:Al}{i:Nat}{x:V},gC K H ds xs->xs[i]?=some x->∃d,ds[i]?=some d/\jZ K H d x
 | [],xs,i,x,h,hx=>by unfold gC at h;subst h;simp at hx
 | d::ds,xs,0,x,h,hx=>by
  unfold gC at h;obtain ⟨y,ys,rfl,h1,h2⟩:=h;cases hx;exact ⟨d,rfl,h1⟩
 | d::ds,xs,i+1,x,h,hx=>by
  unfold gC at h;obtain ⟨y,ys,rfl,h1,h2⟩:=h;exact zV (i:=i) h2 hx
theorem zU{K:Aa}{H:Hp}:∀{ds:List PyData}{xs:Al},gC K H ds xs->xs.length=ds.length
 | [],xs,h=>by unfold gC at h;subst h;rfl
 | d::ds,xs,h=>by
  unfold gC at h;obtain ⟨y,ys,rfl,h1,h2⟩:=h;rw [bT,bT,zU h2]
section
variable{X:Cx}
def XB(K:Aa)(hu:X.A.units+64<cLine)(hK:X.K=K:=by rfl):MtR X "tuple.index" (JV K):=by
 subst hK;unfold JV;intro pins s σ H x vs v us Q I rx rv h;obtain ⟨l,xs,cs,c,y,j,rfl,rfl,hH,r,ry,h1,h2,q⟩:=h;cases rx;obtain ⟨u,rfl,ru⟩:=kD rv;obtain ⟨as,ra⟩:=ry.reads I ru;obtain ⟨its,r',p,_⟩:=I.tuple (iJ.of hH);obtain ⟨⟨cls,dd,data,sl⟩,e,hcl,n,hdd⟩:=id p;simp only at hcl hdd;subst hcl hdd;have hl:=r'.length;have lx:=zU r;rw [aA] at lx;have lj:j<cs.length:=(aF.mp h1).1;refine call_meets F.slot_tuple_index ⟨_,e,rfl⟩ F.entry_tuple_index (F.args_tuple_index_2 _ _) (HA l its.toArray n _ _ u (λm=>decide (cs[m]?=some c)) j (by rw [aW];exact Oo) (cL h1) λm hm=>cJ (h2 m hm)) ⟨e,λm w hw=>?_,?_⟩
 ·have hw':its[m]?=some w:=by simpa using hw
  have lm:=(aF.mp hw').1;obtain ⟨v',hv',rv'⟩:∃v',xs[m]?=some v'/\dN v' w:=by
   obtain ⟨u',hu',ru'⟩:=r'.get (i:=m) (x:=xs[m]'Oo) (aB Oo);rw [hw'] at hu';cases hu';exact ⟨_,aB Oo,ru'⟩
  obtain ⟨d,hd,rd⟩:=zV r hv';rw [aL] at hd;obtain ⟨c',hc',rfl⟩:=cU.mp hd;obtain ⟨bs,rb⟩:=rd.reads I rv';have e2:decide (cs[m]?=some c)=PyData.eqv (cD c') (cD c):=by
   rw [XN,hc'];simp
  rw [e2];refine SeqAt.eqAt_reads (cD c') (cD c) _ s _ _ bs as rb ra (xY c') (xY c) ?_;have h1:(cD c').depth<=2:=by
   have:=KP c';simp only [PyData.depth];exact Oo
  have:X.A.in1.units<=X.A.units+1:=by
   first
    | exact aI _
    | (unfold Around.in1;simp)
  omega
 ·exact ⟨.int _,H,I.tok _,⟨_,rfl⟩,q⟩
end
@[irreducible] def JQ(K:Aa):Al->Hp->VK->Prop:=λxs H Q=>∃(p:Addr) (ns:Af),xs=[.ref p]/\H p=some (.lst (ns.map V.int))/\ns.length<64/\∀(D:Addr) (ns':Af) (H':Hp),ns'.Perm ns->ns'.Pairwise (· <= ·)->H D=none->H' D=some (.lst (ns'.map V.int))->aU H H'->Q (.ref D) H'
def aCw{K:Aa}{p:Addr}{ns:Af}{H:Hp}{Q:VK}(h:H p=some (.lst (ns.map V.int)))(hz:ns.length<64)(q:∀(D:Addr) (ns':Af) (H':Hp),ns'.Perm ns->ns'.Pairwise (· <= ·)->H D=none->H' D=some (.lst (ns'.map V.int))->aU H H'->Q (.ref D) H'):JQ K [.ref p] H Q:=by
 unfold JQ;exact ⟨p,ns,rfl,h,hz,q⟩
def LA{X:Cx}(K:Aa)(hK:X.K=K:=by rfl):iA X (.builtin "sorted") (JQ K):=by
 subst hK;unfold JQ;intro pins s σ H xs us Q I r h;obtain ⟨l,ns,rfl,hq,hz,q⟩:=h;obtain ⟨u,rfl,rx⟩:=kD r;cases rx;obtain ⟨its,r',pl,hz'⟩:=I.list (fI.of hq);have hl:s.heap.IsList l its.toArray:=by
  obtain ⟨o,n,ho,hcl,hdd,hd⟩:=pl;exact ⟨o,ho,hcl,n,hd⟩
 have hlen:=r'.length;rw [aA] at hlen hz';refine sorted_ints hl (nC r') Oo λout ns' a1 a2 a3=>?_;obtain ⟨e,he⟩:=sortedAll_at s.heap its out;have hn:=I.hok.fresh (a:=s.heap.objs.size+1) Oo;have hl2:ns'.length=ns.length:=a2.length_eq;refine ⟨.ref _,upd H (s.heap.objs.size+1) (.lst (ns'.map V.int)),I.laid (t':=s.toks) (λ_ _=>sortedAll_old) Oo ⟨by rw [aA];omega,_,e,OR a1,?_⟩,rfl,q _ ns' _ a2 a3 hn bO (aU.upd hn)⟩;rw [Array.toArray_toList];exact he
def ZV{X:Cx}{f:Value}{R S:Al->Hp->VK->Prop}(h1:iA X f R)(h2:iA X f S):iA X f (λxs H Q=>R xs H Q\/S xs H Q):=by
 intro pins s σ H xs us Q I r h;rcases h with h | h
 ·exact h1 _ _ _ _ _ _ _ I r h
 ·exact h2 _ _ _ _ _ _ _ I r h
theorem KA:∀{l m:Af},l.Perm m->l.Pairwise (· <= ·)->m.Pairwise (· <= ·)->l=m
 | [],m,h,_,_=>(List.Perm.nil_eq h)
 | a::l,[],h,_,_=>by have:=h.length_eq;simp at this
 | a::l,b::m,h,h1,h2=>by
  obtain ⟨a1,a2⟩:=List.pairwise_cons.mp h1;obtain ⟨b1,b2⟩:=List.pairwise_cons.mp h2;have e:a=b:=by
   have q1:=h.mem_iff (a:=a);have q2:=h.mem_iff (a:=b);rcases aZ.mp (q1.mp (aS ..)) with r | r
   ·exact r
   ·rcases aZ.mp (q2.mpr (aS ..)) with t | t
    ·exact t.symm
    ·have:=a1 b t;have:=b1 a r;exact Oo
  subst e;rw [KA ((List.perm_cons a).mp h) a2 b2]
end L2
namespace Kw
open PySem L2 Mf
abbrev aAF:Stmt:=(top 37)
def aEH:bZ ["trial","aim","prices"] ["trial","aim","prices"] (aY aAF):=⟨rfl,rfl,rfl,Kk,rfl,Kk,Kk⟩
abbrev aAQ:Stmt:=(top 61)
def aBN:bZ ["_law_trial_here","_law_first","_law_second"] ["_law_trial_here"] (aY aAQ):=⟨rfl,rfl,rfl,Kk,rfl,Kk,Kk⟩
abbrev sQ4:Stmt:=(top 62)
def cQ4:bZ ["_law_rule","_law_most","_law_k","_law_words","_law_counts_here","_law_says"] ["_law_rule","_law_most"] (aY sQ4):=⟨rfl,rfl,rfl,Kk,rfl,Kk,Kk⟩
def aBZ(ws:List (Str × Ak))(a0 b0 a1 b1:Fr):Prop:=∃n0 n1,ws=[(n0,[a0,b0]),(n1,[a1,b1])]/\rv b0<=rv b1
@[irreducible] def sX:Sp:=λvs H Q _=>∃(tv:V) (fs:Ah) (ws:List (Str × Ak)),vs=[tv]/\cE H (pL fs ws) tv/\TU 2 2 fs ws/\∀v ws' H' a0 b0 a1 b1,aU H H'->cE H' (pL fs ws') v->TU 2 2 fs ws'->aBZ ws' a0 b0 a1 b1->Q v H'
def MB(h1:cE H (pL fs ws) tv)(h2:TU 2 2 fs ws)(k:∀v ws' H' a0 b0 a1 b1,aU H H'->cE H' (pL fs ws') v->TU 2 2 fs ws'->aBZ ws' a0 b0 a1 b1->Q v H'):sX [tv] H Q E:=by
 unfold sX;exact ⟨tv,fs,ws,rfl,h1,h2,k⟩
def nR{α:Type}{l:List α}(h:l.length=2):∃a b,l=[a,b]:=by
 match l,h with
 | [a,b],_=>exact ⟨a,b,rfl⟩
def JH{f:Fr}(h:nG 1900 f):nG 4000 f:=by
 have e:(2:Nat)^1900<=2^4000:=aP Dd Dd;exact ⟨aN h.1 e,aN h.2 e⟩
section
def aD5(F:jP K "best_bounds" "best_bounds" aAF f fd)(T:kX K mg c)(FQ28:gR dR P w K mg base 9 "best_rule" ["trial","aim","prices"] (lF K)):eC P w K mg base dR 10 f fd ["trial","aim","prices"] (lF K):=by
 refine F.oky aEH λvs H Q E h=>?_;unfold lF at h;obtain ⟨tv,av,pv,fs,ws,bs,mix,ps,cs,F,W,M,Ns,Nm,Np,Nc,B,Nb,rfl,rt,hF,ra,rp,G,k⟩:=h;refine ⟨rfl,λcdv A outer s hr=>?_⟩;exact ⟨_,(bD (cH (bV FQ28 (hr.mono Dd) (aJ (aD 0) (aJ (aD 1) (aJ (aD 2) aE)))))),⟨_,rfl,_,rfl,_,rfl,xH rt hF ra rp G k⟩⟩
def aEk(F:jP K "_law_monotone" "_law_monotone" aAQ f fd)(T:kX K mg c)(FQ2:gR dR P w K mg base 1 "_law_below" ["_law_one","_law_other"] (rD K)):eC P w K mg base dR 2 f fd ["_law_trial_here"] sX:=by
 refine F.oky aBN λvs H Q E h=>?_;unfold sX at h;obtain ⟨tv,fs,ws,rfl,rt,TT,k⟩:=h;refine ⟨rfl,λcdv A outer s hr=>?_⟩;obtain ⟨⟨n0,s0⟩,⟨n1,s1⟩,rfl⟩:=nR TT.w;have h0:=TT.sh (n0,s0) (by simp);have h1:=TT.sh (n1,s1) (by simp);obtain ⟨a0,b0,rfl⟩:=nR h0.len;obtain ⟨a1,b1,rfl⟩:=nR h1.len;obtain ⟨at_,af,aw,xf,xw,rfl,hat,hf,hw,rf,rw'⟩:=vO rt;obtain ⟨y0,y1,rfl,r0,r1⟩:=lI rw';obtain ⟨p0,xs0,rfl,hp0,q0⟩:=lJ r0;obtain ⟨z0,t0,rfl,rz0,rt0⟩:=lI q0;obtain ⟨p1,xs1,rfl,hp1,q1⟩:=lJ r1;obtain ⟨z1,t1,rfl,rz1,rt1⟩:=lI q1;obtain ⟨d0,ys0,rfl,hd0,u0⟩:=kQ rt0;obtain ⟨d1,ys1,rfl,hd1,u1⟩:=kQ rt1;obtain ⟨va0,vb0,rfl,ra0,rb0⟩:=lI u0;obtain ⟨va1,vb1,rfl,ra1,rb1⟩:=lI u1;have l0:=(h0.at b0 (by simp)).1.low;have l1:=(h1.at b1 (by simp)).1.low;refine ⟨_,(aH (GV (bP bK (aD 0) aK (λ_ _=>rfl)) (sC rfl (gL (cX (i:=1) aBN.nd rfl (Or.inl rfl)) (gL (cX (i:=2) aBN.nd rfl (Or.inl rfl)) oT))))
  (aH (jF (sB (bV FQ2 (hr.mono Dd) (aJ (bP bK (bP bK (aD 2) aK (λ_ _=>rfl)) aK (λ_ _=>rfl)) (aJ (bP bK (bP bK (aD 1) aK (λ_ _=>rfl)) aK (λ_ _=>rfl)) aE)))) (bD (cH (dI (aJ (bP bK (aD 0) aK (λ_ _=>rfl)) (aJ (dI (aJ (dI (aJ (bP bK (aD 1) aK (λ_ _=>rfl)) (aJ (bP bK (aD 2) aK (λ_ _=>rfl)) aE))) (aJ (dI (aJ (bP bK (aD 2) aK (λ_ _=>rfl)) (aJ (bP bK (aD 1) aK (λ_ _=>rfl)) aE))) aE))) aE))))) fK)
  (bD (cH (aD 0))))),?_⟩
 refine ⟨_,rfl,jS hat rfl ?_⟩;refine ⟨aw,[.ref p0,.ref p1],rfl,iJ.of hw,rfl,.ref p0,[.ref p1],rfl,.ref p1,[],rfl,rfl,⟨_,rfl,jS hp1 rfl ?_⟩⟩;refine jS hd1 rfl ⟨_,rfl,jS hp0 rfl ?_⟩;refine jS hd0 rfl (zS (gU.of rb1) (gU.of rb0) (JH (h1.sz19 b1 (by simp))) (JH (h0.sz19 b0 (by simp))) ?_);refine ⟨_,rfl,?_⟩;have lt:=ZJ l1.pos l0.pos;refine sI (λhl=>?_) (λhl=>?_)
 ·refine ⟨_,rfl,jS hat rfl ?_⟩;refine ⟨_,rfl,jS hp0 rfl ?_⟩;refine ⟨_,rfl,jS hp1 rfl ?_⟩;refine nZ (by show 2<=64;decide) λq4 H4 hq4 e4 s4=>⟨_,rfl,?_⟩;refine jS (s4 _ _ hp1) rfl ⟨_,rfl,jS (s4 _ _ hp0) rfl ?_⟩;refine nZ (by show 2<=64;decide) λq5 H5 hq5 e5 s5=>nZ (by show 2<=64;decide) λq6 H6 hq6 e6 s6=>nZ (by show 2<=64;decide) λq7 H7 hq7 e7 s7=>?_;have S7:=((s4.trans s5).trans s6).trans s7;refine k (.ref q7) [(n0,[a1,b1]),(n1,[a0,b0])] H7 a1 b1 a0 b0 S7 ?_ ⟨TT.f,rfl,?_,TT.nf,?_⟩ ⟨n0,n1,rfl,Rat.le_of_lt (lt.mp hl)⟩
  ·refine cE.tup e7 (aQ.cons ((cE.tup hf rf).same S7) (aQ.cons ?_ aQ.nil));refine cE.tup (s7 _ _ e6) (aQ.cons (cE.tup (((s5.trans s6).trans s7) _ _ e4) (aQ.cons (rz0.same S7) (aQ.cons (rt1.same S7) aQ.nil))) (aQ.cons (cE.tup ((s6.trans s7) _ _ e5) (aQ.cons (rz1.same S7) (aQ.cons (rt0.same S7) aQ.nil))) aQ.nil))
  ·intro x hx;simp only [aZ,List.not_mem_nil,or_false] at hx;rcases hx with rfl | rfl
   ·exact h1
   ·exact h0
  ·intro x hx;simp only [aZ,List.not_mem_nil,or_false] at hx;rcases hx with rfl | rfl
   ·exact TT.nw (n0,[a0,b0]) (by simp)
   ·exact TT.nw (n1,[a1,b1]) (by simp)
 ·refine ⟨_,rfl,?_⟩;exact k _ [(n0,[a0,b0]),(n1,[a1,b1])] H a0 b0 a1 b1 (aU.refl _) rt TT ⟨n0,n1,rfl,by
   have:¬rv b1<rv b0:=λz=>hl (lt.mpr z);grind⟩
end
def xO(best:Ae->Nat)(k:Nat)(l:Ab):Ac:=(l.filter λc=>decide (c.sum=k)).map λc=>[((c.getD 1 0:Nat):Int),LU (best c)]
def zX{best:Ae->Nat}{k:Nat}{l:Ab}{c:Ae}:xO best k (l++[c])=if c.sum=k then xO best k l++[[((c.getD 1 0:Nat):Int),LU (best c)]] else xO best k l:=by
 unfold xO;rw [List.filter_append];by_cases h:c.sum=k
 ·rw [if_pos h,List.filter_cons_of_pos (by simp [h]),bF];rfl
 ·rw [if_neg h,List.filter_cons_of_neg (by simp [h])];simp
def FB{best:Ae->Nat}{k:Nat}{l:Ab}{a:Af}(h:a∈xO best k l):∃c∈l,c.sum=k/\a=[((c.getD 1 0:Nat):Int),LU (best c)]:=by
 obtain ⟨c,hc,rfl⟩:=aX.mp h;obtain ⟨h1,h2⟩:=cR.mp hc;exact ⟨c,h1,of_decide_eq_true h2,rfl⟩
def WI{best:Ae->Nat}{k:Nat}{l:Ab}(nd:l.Nodup)(h2:∀c∈l,c.length=2):(xO best k l).Nodup:=by
 unfold xO List.Nodup;rw [List.pairwise_map];refine List.Pairwise.imp_of_mem ?_ (nd.filter _);intro a b ha hb ne e;obtain ⟨a1,a2⟩:=cR.mp ha;obtain ⟨b1,b2⟩:=cR.mp hb;obtain ⟨x,y,rfl⟩:=nR (h2 a a1);obtain ⟨z,t,rfl⟩:=nR (h2 b b1);have a3:=of_decide_eq_true a2;have b3:=of_decide_eq_true b2;injection e with e1 _;have e2:y=t:=by
  have:((y:Nat):Int)=(t:Nat):=e1;exact Oo
 subst e2;simp at a3 b3;exact ne (by rw [show x=z by omega])
theorem EW{α:Type}{H:Hp}{g:α->PyData}{d:α}{cs:List α}{ws:Al}(r:aQ H (cs.map g) ws):∀ix:Ae,(∀i∈ix,i<cs.length)->aQ H ((ix.map λi=>cs.getD i d).map g) (ix.map λi=>ws.getD i .non)
 | [],_=>aQ.nil
 | i::ix,h=>by
  have hi:=h i (aS ..);obtain ⟨v,h1,h2⟩:=eG r (aB hi);refine aQ.cons ?_ (EW r ix λj hj=>h j (aT _ hj));show cE H (g (cs.getD i d)) (ws.getD i .non);rw [bH,aB hi,bH,h1];exact h2
def tyU{K:Aa}{H:Hp}{l:Addr}{xs:Al}(h:H l=some (.tup xs)):tyV K "tuple" (.ref l) H:=.inr (.inl ⟨rfl,.inr ⟨xs,h⟩⟩)
theorem KG:∀a:Af,fY (a.map PyData.int)=true
 | []=>rfl
 | x::a=>by show (fO (.int x)&&fY (a.map PyData.int))=true;rw [KG a];rfl
theorem GK:∀as:Ac,fY (as.map cD)=true
 | []=>rfl
 | a::as=>by show (fO (cD a)&&fY (as.map cD))=true;rw [GK as,show fO (cD a)=true from KG a];rfl
theorem vW:∀{as:Ac}{zs:Al},Paired (λc y=>y=V.int (c.getD 1 0)) as zs->zs=(as.map λa=>a.getD 1 0).map V.int
 | _,_,.nil=>rfl
 | _,_,.cons h r=>by rw [bI,bI,<-vW r,h]
def aCH:∀b:Nat,b<=2->(rE 2 b)[b]?=some (1,1)/\(∀i,i<b->(rE 2 b)[i]? ≠ some (1,1))/\yT [V.int 1,V.int 0,V.int 2] (b:Int)=some (V.int (LU b))
 | 0,_=>⟨rfl,λi hi=>Oo,rfl⟩
 | 1,_=>⟨rfl,(λi hi=>by
  have:i=0:=Oo;subst this;decide),rfl⟩
 | 2,_=>⟨rfl,(λi hi=>by
  have:i=0\/i=1:=Oo;rcases this with rfl | rfl <;> decide),rfl⟩
 | b+3,h=>Oo
@[irreducible] def sZ(K:Aa):Sp:=λvs H Q _=>∃(r:V) (M:Nat) (best:Ae->Nat),vs=[r,.int (M:Int)]/\IQ K H (rul 2 2 M best) r/\sL 2 2 M best/\(∀c∈rise 2 M,best c<=2)/\(rise 2 M).length<64/\(∀c∈fA 2 M best,∀d∈fA 2 M best,c.sum=d.sum->c.getD 1 0<=d.getD 1 0->LU (best c)<=LU (best d))/\∀H',aU H H'->Q (.bl true) H'
def MC{K:Aa}(h1:IQ K H (rul 2 2 M best) r)(h2:sL 2 2 M best)(h3:∀c∈rise 2 M,best c<=2)(h4:(rise 2 M).length<64)(h5:∀c∈fA 2 M best,∀d∈fA 2 M best,c.sum=d.sum->c.getD 1 0<=d.getD 1 0->LU (best c)<=LU (best d))(k:∀H',aU H H'->Q (.bl true) H'):sZ K [r,.int (M:Int)] H Q E:=by
 unfold sZ;exact ⟨r,M,best,rfl,h1,h2,h3,h4,h5,k⟩
section
def oQ4(F:jP K "_law_by_bounds" "_law_by_bounds" sQ4 f fd)(T:kX K mg c):eC P w K mg base dR 2 f fd ["_law_rule","_law_most"] (sZ K):=by
 refine F.oky cQ4 λvs H Q E h=>?_;unfold sZ at h;obtain ⟨r,M,best,rfl,rr,PL,bw,few,hord,k⟩:=h;refine ⟨rfl,λcdv A outer s hr=>?_⟩;obtain ⟨a,xs,rfl,ha,lx,rxs⟩:=rr;have m5:=PL.m5;have sub:=iE (M:=M) (best:=best) PL.f1;have nd:(fA 2 M best).Nodup:=(wO 2 PL.f4 M m5).sublist sub;have l2:∀c∈fA 2 M best,c.length=2:=λc hc=>(lQ PL.f1 hc).1;have lru:(rul 2 2 M best).length=(fA 2 M best).length:=by unfold rul;rw [aA]
 have lsub:=sub.length_le;refine ⟨_,(aH (eY PassesOwn.never rfl (cS rfl T.b_range (aJ (bX eB (aD 1) aK) aE)) (cX (i:=2) cQ4.nd rfl (Or.inl rfl)) (aH (bN (i:=3) cQ4.nd rfl (Or.inl rfl) (iD aE))
  (aH (eY PassesOwn.never rfl (OL (aD 0)) (sC rfl (gL (cX (i:=4) cQ4.nd rfl (Or.inl rfl)) (gL (cX (i:=5) cQ4.nd rfl (Or.inl rfl)) oT))) (bD (jF (eO vX (dX (pJ K rfl) (by rfl) T.b_sum Kk (aJ (aD 4) aE)) (aD 2) (nomark _)) (bD (jQ (nJ PySem.F.plainAttrs_list PySem.F.slot_list_append PySem.F.type_list_append pB (aD 3) (aJ (dI (aJ (bP bK (aD 4) aK (λ_ _=>rfl)) (aJ (bP bK (iD (aJ aK (aJ aK (aJ aK aE)))) (nJ PySem.F.plainAttrs_tuple PySem.F.slot_tuple_index PySem.F.type_tuple_index (XB K hr.units) (aD 5) (aJ (dI (aJ aK (aJ aK aE))) aE)) (λ_ _=>rfl)) aE))) aE)))) fK)))
  (aH (sP (i:=3) (gS.of (psc:=aY sQ4) (N:=["_law_rule","_law_most","_law_k","_law_words","_law_counts_here","_law_says"]) (xs:=["_law_seen","_law_word"]) (N':=["_law_seen","_law_word"]) (js:=[]) Kk rfl rfl rfl) cQ4.nd rfl rfl (eZ (dX (ZV (ST K) (LA K)) (by rfl) T.b_sorted Kk (aJ (aD 3) aE))) (λ_ _ _ _=>dW) (λ_ _ _ _=>(aD 1)))
  (bD (jF (eO (HY hr.units) (aD 3) (dX (ZV (ST K) (LA K)) (by rfl) T.b_sorted Kk (aJ (aD 3) aE)) (nomark _)) (bD (cH rQ)) fK))))))
  (bD (cH rQ))),?_⟩
 refine ⟨_,rfl,_,_,rfl,rfl,_,rfl,Oo,Oo,fS (λi σ H'=>∃(o2 o3 o4 o5:Am),σ=[some (.ref a),some (.int (M:Int)),o2,o3,o4,o5]/\aU H H') ⟨_,_,_,_,rfl,aU.refl _⟩ ?_ ?_⟩
 ·rintro i σ H1 hi ⟨o2,o3,o4,o5,rfl,S1⟩;refine CI (by show 0<=64;decide) λD H2 hD e2 s2=>?_;have S2:=S1.trans s2;refine ⟨_,rfl,a,rfl,⟨_,iJ.of (S2 _ _ ha)⟩,?_⟩;refine KL (xs:=xs) (λj σ H'=>∃(o4 o5:Am) (ys:Al),σ=[some (.ref a),some (.int (M:Int)),some (.int (0+(i:Nat))),some (.ref D),o4,o5]/\aU H1 H'/\H' D=some (.lst ys)/\aQ H' ((xO best i ((fA 2 M best).take j)).map cD) ys)
   ⟨_,_,[],rfl,s2,e2,aQ.nil⟩ (λj σ H' _ q=>?_) ?_ ?_
  ·obtain ⟨_,_,_,_,s',_⟩:=q;exact iJ.of (s' _ _ (S1 _ _ ha))
  ·rintro j x σ H3 hx ⟨o4,o5,ys,rfl,s3,e3,ry⟩;have S3:=S1.trans s3;obtain ⟨e,he,re⟩:=rxs j x hx;unfold rul at he;rw [aL] at he;obtain ⟨cc,hcc,rfl⟩:=cU.mp he;have hcm:=aG hcc;obtain ⟨u,v,rfl⟩:=nR (l2 cc hcm);obtain ⟨b,cu,z,rfl,hb,hcu,sa,sx,rfl,hsa,rsx⟩:=re.t S3.t;have tk:=eM hcc;have lj:=(aF.mp hcc).1;have lys:ys.length<=j:=by
    rw [ry.len,aA];unfold xO;rw [aA];exact aM (List.length_filter_le _ _) (by rw [cK];exact Oo)
   refine ⟨b,[.ref cu,.ref sa],rfl,iJ.of hb,rfl,.ref cu,[.ref sa],rfl,.ref sa,[],rfl,rfl,?_⟩;have bb:=bw _ (sub.subset hcm);obtain ⟨i1,i2,i3⟩:=aCH (best [u,v]) bb;refine ⟨_,rfl,rsT (ns:=ci [u,v]) (by rw [eJ];exact iJ.of hcu) ?_⟩;refine ⟨_,rfl,rfl,_,rfl,?_⟩;have es:(ci [u,v]).sum=(([u,v].sum:Nat):Int):=by simp [ci]
   rw [es];refine sI (λhl=>?_) (λhl=>?_)
   ·have hs:[u,v].sum=i:=by injection hl with hl;exact Oo
    refine ⟨_,rfl,LW e3,_,rfl,jS hcu rfl ?_⟩;refine CI (by show 3<=64;decide) λq4 H4 hq4 e4 s4=>⟨_,rfl,tyU (s4 _ _ hsa),?_⟩;refine nZ (by show 2<=64;decide) λq5 H5 hq5 e5 s5=>?_;have s35:=s4.trans s5;have rsx':gC K H5 (((rE 2 (best [u,v])).map λf=>[f.1,f.2]).map cD) sx:=by
     rw [List.map_map];exact (qU.t s35.t rsx).k
    refine aEq (cs:=(rE 2 (best [u,v])).map λf=>[f.1,f.2]) (c:=[1,1]) (j:=best [u,v]) (s35 _ _ hsa) rsx' (jZ.tup (iJ.of e5) (gC.ints [1,1])) (by rw [aL,i1];rfl) (λq hq z=>?_) ?_
    ·rw [aL] at z;obtain ⟨g,hg,ge⟩:=cU.mp z;injection ge with g1 g2;injection g2 with g2 _;exact i2 q hq (by rw [hg];congr 1;exact Prod.ext g1 g2)
    refine FR (s5 _ _ e4) i3 (nZ (by show 2<=64;decide) λq6 H6 hq6 e6 s6=>?_);have s36:=s35.trans s6;refine DH (s36 _ _ e3) Oo λH7 e7 b7=>?_;have t7:=b7.t (s36 _ _ e3);refine ⟨_,_,_,rfl,aU.thru hD (s3.trans s36) b7,e7,?_⟩;rw [tk,zX,if_pos hs,bF];refine aQ.app ((ry.same s36).flat t7 (GK _)) (aQ.cons ?_ aQ.nil);exact cE.tup (t7 _ _ e6) (aQ.cons rfl (aQ.cons rfl aQ.nil))
   ·refine ⟨_,_,_,rfl,s3,e3,?_⟩;rw [tk,zX,if_neg λz=>hl (by rw [z,Int.zero_add])];exact ry
  ·rintro σ H3 ⟨o4,o5,ys,rfl,s3,e3,ry⟩;have lx':xs.length=(fA 2 M best).length:=Oo;rw [lx',cP] at ry;generalize hps:xO best i (fA 2 M best)=ps at ry;have lps:ps.length<=(fA 2 M best).length:=by
    rw [<-hps];unfold xO;rw [aA];exact List.length_filter_le _ _
   have lys:=ry.len;rw [aA] at lys;refine ⟨_,rfl,.inl ?_⟩;refine rsrt (cs:=ps) (fI.of e3) ry (λa ha=>?_) Oo λq4 ix H4 hix hsrt hq4 e4 s4=>?_
   ·rw [<-hps] at ha;obtain ⟨c,_,_,rfl⟩:=FB ha;simp
   have hlt:∀i∈ix,i<ps.length:=λi hi=>by
    have:=bU.mp (hix.mem_iff.mp hi);exact Oo
   have srt:=hsrt (by rw [<-hps];exact WI nd l2);have r4:=EW (d:=[]) (ry.same s4) ix hlt;have lix:ix.length=ys.length:=by rw [hix.length_eq,bA]
   have mem4:∀a∈(ix.map λi=>ps.getD i []),∃c∈fA 2 M best,c.sum=i/\a=[((c.getD 1 0:Nat):Int),LU (best c)]:=λa ha=>by
    obtain ⟨q,hq,rfl⟩:=aX.mp ha;have:=eV (a:=[]) (hlt q hq);rw [<-hps] at this;rw [<-hps];exact FB this
   have las:(ix.map λi=>ps.getD i []).length<64:=by rw [aA];exact Oo
   generalize (ix.map λi=>ps.getD i [])=as at srt r4 mem4 las;generalize (ix.map λi=>ys.getD i V.non)=vs at e4 r4;refine ⟨q4,rfl,⟨_,fI.of e4⟩,NL (as:=as) (λ_=>true) (λa x=>cE H4 (cD a) x) (λa y _=>y=.int (a.getD 1 0)) (λa y Ha Hb s h=>h) Oo e4 (Paired.ofRepL r4) (λx a H' hm rx s'=>?_) (λD5 zs H5 hD5 e5 s5 pr5=>?_)⟩
   ·obtain ⟨cc,_,_,rfl⟩:=mem4 a hm;obtain ⟨b,rfl,hb⟩:=IN rx;refine ⟨b,_,rfl,iJ.of (s' _ _ hb),rfl,λQ' h=>h _ (aU.refl _),λH5 Q' s5 _ k'=>?_⟩;exact ⟨_,rfl,k' _ H5 (aU.refl _) rfl⟩
   rw [List.filter_eq_self.mpr λ_ _=>rfl] at pr5;have ez:=vW pr5;subst ez;have hns:(as.map λa=>a.getD 1 0).Pairwise (· <= ·):=by
    rw [List.pairwise_map];refine List.Pairwise.imp_of_mem ?_ srt;intro a b ha hb hl;obtain ⟨c,hc,c1,rfl⟩:=mem4 a ha;obtain ⟨d,hd,d1,rfl⟩:=mem4 b hb;refine hord c hc d hd Oo ?_;rw [pC] at hl;by_cases z:((c.getD 1 0:Nat):Int)=(d.getD 1 0:Nat)
    ·omega
    ·rw [if_neg z] at hl;have:=of_decide_eq_true hl;exact Oo
   have lns:(as.map λa=>a.getD 1 0).length<64:=by rw [aA];exact Oo
   generalize (as.map λa=>a.getD 1 0)=ns at e5 hns lns;refine ⟨_,rfl,_,rfl,.inr ?_⟩;refine aCw e5 lns λD6 ns' H6 hp6 hs6 hD6 e6 s6=>?_;have:=KA hp6 hs6 hns;subst this;refine reD (d:=.list (ns'.map .int)) (d':=.list (ns'.map .int)) (cE.lst (s6 _ _ e5) (rN _)) (cE.lst e6 (rN _)) (qI _) (qI _) ?_;rw [show PyData.eqv (.list (ns'.map .int)) (.list (ns'.map .int))=PyData.eqvAll (ns'.map .int) (ns'.map .int) from rfl,SB,cL rfl];refine ⟨_,rfl,pO rfl ?_⟩;exact ⟨_,_,_,_,rfl,(((S1.trans s3).trans s4).trans s5).trans s6⟩
 ·rintro σ H2 ⟨o2,o3,o4,o5,rfl,S2⟩;exact k H2 S2
end
abbrev VJ:Stmt:=(top 63)
def DC:bZ ["_law_script","_law_feed_here","_law_turn","_law_trial_here","_law_aim_here","_law_prices","_law_kept","_law_rule","_law_least"] ["_law_script"] (aY VJ):=⟨rfl,rfl,rfl,Kk,rfl,Kk,Kk⟩
theorem JJ{W:Int}(hW:0<W):∀ps:Af,oW ((ps.map λx=>lw x W).map rv)=(ps.sum:Rat)/(W:Rat)
 | []=>by
  have:=kM hW;show (0:Rat)=_;rw [show (([]:Af).sum:Rat)=0 from rfl];grind
 | x::ps=>by
  have:=kM hW;rw [bI,bI,kN,JJ hW ps,EU hW,List.sum_cons,Rat.intCast_add];grind
def DR.syc{m:Nat}{fs:Ak}(h:DR m fs):SyC m fs:=by
 refine ⟨h.len,h.at,?_⟩;obtain ⟨ps,W,h1,h2,h3,h4,h5,h6,rfl⟩:=h.ex;rw [JJ h4,h3];have:=kM h4;grind
def wA{fs:Ak}(h:∀f∈fs,DX f):∀f∈fs,Fn (dens fs) 1000 f:=λf hf=>(CY h f hf).le Dd
section
variable{H:Hp}{tv av pv:V}{fs:Ah}{ws:List (Str × Ak)}{bs mix ps cs:Ak}{F W M Mr:Nat}{es:List fV}{best:Ae->Nat}
def nI.trq(I:nI H tv av pv fs ws bs mix ps cs F W M):NW W ws:=⟨I.T.w,λx hx f hf=>((I.T.sh x hx).at f hf).1,I.T.b⟩
def nI.aimq(I:nI H tv av pv fs ws bs mix ps cs F W M)(R:rZ F W Mr es)(hM:Mr<=M):DT (dens cs) W Mr es mix cs :=
 ⟨I.mx.len,λf hf=>(I.mx.at f hf).1,⟨qQ I.c,tX I.c (by have:=I.cl;have:=I.m;exact Oo),wA I.c,λe he hs=>by have:=R.on e he hs;have:=I.cl;omega⟩⟩
def nI.np(I:nI H tv av pv fs ws bs mix ps cs F W M):0<dens ps/\dens ps<=1000000000000000:=⟨qQ I.p,tX I.p (by have:=I.pl;have:=I.w;exact Oo)⟩
def nI.wg(I:nI H tv av pv fs ws bs mix ps cs F W M):TR ws bs F W M iF iF (dens ps) (dens cs) 999 27720 mix ps cs:=by
 refine ⟨I.wo,I.T.b,I.bl,λf hf=>(I.b f hf).1,Dd,?_⟩;have h1:lX M iF iF (dens ps) (dens cs)*27720<2^300*27720:=Nat.mul_lt_mul_of_pos_right I.n.2 Dd;have h2:(2:Nat)^300*27720<=2^300*2^15:=Nat.mul_le_mul_left _ Dd;rw [<-Nat.pow_add] at h2;exact aN h1 (aM h2 (aP Dd Dd))
def WL{b:Nat}(h:b<=W):SyC (1+W) (rE W b):=by
 refine ⟨by unfold rE;rw [aA,bA],λf hf=>?_,UU W b h⟩;obtain ⟨k,_,rfl⟩:=aX.mp hf;split
 ·exact ⟨Fn.one iF,Dd⟩
 ·exact ⟨(Fn.zero iF).le Dd,Dd⟩
def VO(P:sL F W M best)(bw:∀c∈rise F M,best c<=W)(few:(rise F M).length<=64):rZ F W M (rul F W M best) where
 rl:=QF P.f1 P.f4 P.m5 P.on
 sum:=λe he=>by
  obtain ⟨c,hc,rfl⟩:=aX.mp he;exact (lQ P.f1 hc).2
 sy:=λe he=>by
  obtain ⟨c,hc,rfl⟩:=aX.mp he;exact WL (bw c ((iE P.f1).subset hc))
 few:=by unfold rul;rw [aA];exact aM (iE P.f1).length_le few
 on:=λe he h0=>by
  obtain ⟨c,hc,rfl⟩:=aX.mp he;refine P.on c (bM λq=>h0 ?_);rw [uZ,if_neg q]
def aBO{c:Ae}{b:Nat}{ss:Aj}(h:Bst F W M ss mix ps cs c b):b<=W:=by
 rcases h with ⟨h,_⟩ | ⟨v,hv,h,_⟩ <;> omega
def nI.bestp(I:nI H tv av pv fs ws bs mix ps cs F W M)(P:sL F W M best)(hb:∀c∈rise F M,Bst F W M (eT ws) mix ps cs c (best c)):iI (xP F W (rul F W M best) (dM (eT ws)) (dG mix) (dG ps) (dG cs))=zM F W M (eT ws) mix ps cs (List.replicate F 0):=by
 have hx:∀w,w<W->∃x,ws[w]?=some x/\x∈ws:=λw hw=>by
  have h:=aB (show w<ws.length by rw [I.T.w];exact hw);exact ⟨_,h,aG h⟩
 have:=QV (QF (W:=W) P.f1 P.f4 P.m5 P.on) (wor F W M (eT ws) mix ps cs) (λw hw=>?_) (λw hw c hc=>?_) (QG P.f1 hb)
 ·rw [<-this]
 ·obtain ⟨x,h1,h2⟩:=hx w hw;rw [pA h1];exact UH (λf hf=>((I.T.sh x h2).at f hf).1.low) F
 ·obtain ⟨x,h1,h2⟩:=hx w hw;rw [pA h1];have hl:=(I.T.sh x h2).len;have h:=aAc (fs:=x.2) (λf hf=>((I.T.sh x h2).at f hf).1.low) (I.T.sh x h2).syc.one (c:=c) Oo;rw [hl] at h;exact h
def nI.sh2{a0 b0 a1 b1:Fr}(I:nI H tv av pv fs ws bs mix ps cs 2 2 M)(m:aBZ ws a0 b0 a1 b1):yU (eT ws) a0 b0 a1 b1/\(twX a0 b0 a1 b1 mix ps cs).Ok:=by
 obtain ⟨n0,n1,rfl,hle⟩:=m;have h0:=I.T.sh (n0,[a0,b0]) (by simp);have h1:=I.T.sh (n1,[a1,b1]) (by simp);have low:∀f∈[a0,b0,a1,b1],cY f/\0<=f.1:=λf hf=>by
  simp only [aZ,List.not_mem_nil,or_false] at hf;rcases hf with rfl | rfl | rfl | rfl
  ·exact ⟨(h0.at _ (by simp)).1.low,(h0.at _ (by simp)).2⟩
  ·exact ⟨(h0.at _ (by simp)).1.low,(h0.at _ (by simp)).2⟩
  ·exact ⟨(h1.at _ (by simp)).1.low,(h1.at _ (by simp)).2⟩
  ·exact ⟨(h1.at _ (by simp)).1.low,(h1.at _ (by simp)).2⟩
 have s0:rv a0+(rv b0+0)=1:=h0.syc.one;have s1:rv a1+(rv b1+0)=1:=h1.syc.one;rw [Rat.add_zero] at s0 s1;have S:yU (eT [(n0,[a0,b0]),(n1,[a1,b1])]) a0 b0 a1 b1:=⟨rfl,low,s0,s1,hle⟩;obtain ⟨q1,q2,q3,q4⟩:=S.nn;have nn:∀(l:Ak),(∀f∈l,cY f/\0<=f.1)->∀k,0<=dG l k:=λl h k=>by
  unfold dG;by_cases hk:k<l.length
  ·have:=h _ (eV (a:=(0,1)) hk);exact ZI this.1 this.2
  ·rw [bH,eK Oo];show 0<=rv (0,1);rw [nM];exact Rat.le_refl
 have sm:∀(l:Ak),(∀f∈l,DX f)->∀f∈l,cY f/\0<=f.1:=λl h f hf=>by
  obtain ⟨a,b,c,d⟩:=h f hf;exact ⟨a,b⟩
 have np:=nn ps (sm ps I.p);have nc:=nn cs (sm cs I.c);have nm:=nn mix λf hf=>⟨(I.mx.at f hf).1.low,(I.mx.at f hf).2⟩;exact ⟨S,q1,q2,q3,q4,np 0,np 1,nm 0,nm 1,nc⟩
end
def aAW:∀M,M<=5->(rise 2 M).length<=21:=Dd
section
def aDV(F:jP K "law" "law" VJ f fd)(T:kX K mg c)
  (FQ7:gR dR P w K mg base 1 "_law_feed" ["_law_script"] (tG K)) (FQ6:gR dR P w K mg base 1 "_law_draw" ["_law_feed_here","_law_many"] lP)
  (FQ22:gR dR P w K mg base 3 "_law_trial" ["_law_feed_here","_law_faces","_law_ways"] oH) (FQ11:gR dR P w K mg base 2 "_law_monotone" ["_law_trial_here"] sX) (FQ1:gR dR P w K mg base 3 "_law_aim" ["_law_feed_here","_law_ways","_law_most"] tE) (FQ18:gR dR P w K mg base 2 "_law_some" ["_law_feed_here"] rC)
  (FQ26:gR dR P w K mg base 10 "best_bounds" ["trial","aim","prices"] (lF K)) (FQ9:gR dR P w K mg base 4 "_law_is_plain_rule" ["_law_rule","_law_faces","_law_ways","_law_most"] (oI K)) (FQ4:gR dR P w K mg base 2 "_law_by_bounds" ["_law_rule","_law_most"] (sZ K)) (FQ15:gR dR P w K mg base 5 "_law_priced" ["_law_trial_here","_law_aim_here","_law_rule","_law_prices"] (mP K))
  (FQ24:gR dR P w K mg base 5 "_law_worths" ["_law_trial_here","_law_aim_here","_law_prices"] mO):eC P w K mg base dR 11 f fd ["_law_script"] (uT K):=by
 refine F.oky DC λvs H Q E h=>?_;unfold uT at h;obtain ⟨a,ns,rfl,hS,hl,k⟩:=h;refine ⟨rfl,λcdv A outer s hr=>?_⟩;refine ⟨_,(aH (bN (i:=1) DC.nd rfl (Or.inl rfl) (bV FQ7 (hr.mono Dd) (aJ (aD 0) aE)))
  (aH (eY PassesOwn.never rfl (cS rfl T.b_range (aJ aK aE)) (cX (i:=2) DC.nd rfl (Or.inl rfl)) (aH (bN (i:=3) DC.nd rfl (Or.inl rfl) (bV FQ11 (hr.mono Dd) (aJ (bV FQ22 (hr.mono Dd) (aJ (aD 1) (aJ aK (aJ aK aE)))) aE)))
  (aH (bN (i:=4) DC.nd rfl (Or.inl rfl) (bV FQ1 (hr.mono Dd) (aJ (aD 1) (aJ aK (aJ (bV FQ6 (hr.mono Dd) (aJ (aD 1) (aJ aK aE))) aE)))))
  (aH (bN (i:=5) DC.nd rfl (Or.inl rfl) (dI (aJ (bV FQ18 (hr.mono Dd) (aJ (aD 1) aE)) (aJ (bV FQ18 (hr.mono Dd) (aJ (aD 1) aE)) aE))))
  (aH (bN (i:=6) DC.nd rfl (Or.inl rfl) (dX (tZ hr.gd hr.units) (by rfl) T.b_repr Kk (aJ (dI (aJ (aD 3) (aJ (aD 4) (aJ (aD 5) aE)))) aE)))
  (aH (bN (i:=7) DC.nd rfl (Or.inl rfl) (bV FQ26 (hr.mono Dd) (aJ (aD 3) (aJ (aD 4) (aJ (aD 5) aE)))))
  (aH (jF (sN (DZ (DY (BD (sB (bV FQ9 (hr.mono Dd) (aJ (aD 7) (aJ aK (aJ aK (aJ (bP bK (aD 4) aK (λ_ _=>rfl)) aE))))))) (BA (BD (sB (bV FQ4 (hr.mono Dd) (aJ (aD 7) (aJ (bP bK (aD 4) aK (λ_ _=>rfl)) aE))))))))) (bD (cH rQ)) fK)
  (aH (bN (i:=8) DC.nd rfl (Or.inl rfl) (gH hr.u1 (bV FQ24 (hr.mono Dd) (aJ (aD 3) (aJ (aD 4) (aJ (aD 5) aE)))) (dI (aJ aK (aJ aK aE)))))
  (bD (jF (sN (DZ (DY (eO (HY hr.units) (bV FQ15 (hr.mono Dd) (aJ (aD 3) (aJ (aD 4) (aJ (aD 7) (aJ (aD 5) aE))))) (aD 8) (nomark _)) (BA (eO FD (dX (tZ hr.gd hr.units) (by rfl) T.b_repr Kk (aJ (dI (aJ (aD 3) (aJ (aD 4) (aJ (aD 5) aE)))) aE)) (aD 6) (nomark _)))))) (bD (cH rQ)) fK))))))))))
  (bD (cH rQ)))),?_⟩
 refine ⟨_,rfl,?_⟩;refine ME hS hl λp L H1 F1 s1 hp1 hL1=>⟨_,rfl,Dd,Dd,?_⟩;refine fS (λi σ H'=>∃(o2 o3 o4 o5 o6 o7 o8:Am),σ=[some (.ref a),some (.ref p),o2,o3,o4,o5,o6,o7,o8]/\dQ H' p L (999999000000-1000*i)) ⟨_,_,_,_,_,_,_,rfl,F1.less Dd⟩ ?_ ?_
 ·rintro i σ H2 hi ⟨o2,o3,o4,o5,o6,o7,o8,rfl,F2⟩;have hi2:i<2:=hi;obtain ⟨N,hN⟩:∃N,999999000000-1000*i=N+1000:=⟨999999000000-1000*i-1000,Oo⟩;rw [hN] at F2;refine ⟨_,rfl,?_⟩;refine EN (n:=N+900) (F:=2) (W:=2) (F2.less Oo) Dd Dd Dd Dd λtv0 fs ws0 H6 F6 s6 rt0 TT0=>MB rt0 TT0 λtv ws H7 a0 b0 a1 b1 s7 rt TT mon=>?_;have F7:=F6.same s7;refine ⟨_,rfl,_,rfl,?_⟩;refine eN (n:=N+899) F7 Dd Kk λx9 H9 a9 b9 F9 s9=>?_;obtain ⟨M,rfl⟩:∃b:Nat,x9=(b:Int):=⟨x9.toNat,Oo⟩;have hM:M<=5:=Oo;have hrise:=aAW M hM;refine MD (n:=N+800) (W:=2) (M:=M) (F9.less Oo) Dd Dd Oo λav bs mix cs H10 F10 s10 ra lbs fbs shm lcs fcs=>⟨_,rfl,?_⟩;refine uS (n:=N+797) (F10.less Oo) λv11 f11 H11 F11 s11 r11 m11=>⟨_,rfl,?_⟩;refine uS (n:=N+794) (F11.less Oo) λv12 f12 H12 F12 s12 r12 m12=>nZ (by show 2<=64;decide) λl12 H12' hl12 e12 s12'=>?_;have t7:dA H7 H12':=((((F7.t s9).trans (F9.t s10)).trans (F10.t s11)).trans (F11.t s12)).trans s12'.t;have t10:dA H10 H12':=((F10.t s11).trans (F11.t s12)).trans s12'.t;have I12:nI H12' tv av (.ref l12) fs ws bs mix [f11,f12] cs 2 2 M:=⟨rt.flat t7 (oB _ _),ra.flat t10 (vM _ _ _ _),cE.tup e12 (aQ.cons (r11.flat ((F11.t s12).trans s12'.t) (cT _)) (aQ.cons (r12.same s12') aQ.nil)),TT,⟨Dd,Dd⟩,⟨Dd,Dd⟩,⟨hM,hrise⟩,lbs,fbs,shm,rfl,(λf hf=>by
   simp only [aZ,List.not_mem_nil,or_false] at hf;rcases hf with rfl | rfl
   ·exact m11
   ·exact m12),lcs,fcs⟩
  have F12':dQ H12' p L (N+700):=(F12.same s12').less Oo;clear rt ra r11 r12 e12 t7 t10 F11 F10 F9 F7 s7 s9 s10 s11 s12 s12' hl12 TT shm lbs fbs lcs fcs m11 m12 F12 F6 F2 s6 rt0 TT0;generalize [f11,f12]=ps at I12;obtain ⟨S2,O2⟩:=I12.sh2 mon;obtain ⟨aa,xb,xm,xc,rfl,haa,rxb,rxm,rxc⟩:=vL I12.ra;refine ⟨_,rfl,_,rfl,_,rfl,?_⟩;refine nZ (by show 3<=64;decide) λq13 H13 hq13 e13 s13=>rrW (d:=.tuple [pL fs ws,lV M bs mix cs,pP ps]) (cE.tup e13 (aQ.cons (I12.rt.same s13) (aQ.cons (I12.ra.same s13) (aQ.cons (I12.rp.same s13) aQ.nil)))) I12.sw Dd Dd ?_;generalize hkept:PyData.shown (.tuple [pL fs ws,lV M bs mix cs,pP ps])=kept;have I13:=I12.t s13.t;refine ⟨_,rfl,_,rfl,_,rfl,?_⟩;refine xH I13.rt I13.T.f I13.ra I13.rp I13.wg λrv best H14 s14 rw14 PL hbst=>?_;have I14:=I13.t s14.t;have hb1:∀c∈rise 2 M,Bst 2 2 M (eT ws) mix ps cs c (best c):=λc hc=>(hbst c hc).bst Dd ((gP Dd).mp hc).1;have bw:∀c∈rise 2 M,best c<=2:=λc hc=>aBO (hb1 c hc);have RO:=VO PL bw Oo;refine ⟨λb H'=>aU H14 H'/\b=false,?_,?_⟩
  ·refine ⟨_,rfl,_,rfl,jS ((s13.trans s14) _ _ haa) rfl ?_⟩;refine EO rw14 PL Dd bw (aM hrise Dd) λH15 s15=>⟨_,rfl,?_⟩;refine pO rfl ⟨_,rfl,_,rfl,jS (((s13.trans s14).trans s15) _ _ haa) rfl ?_⟩;refine MC (rw14.t s15.t) PL bw Oo (λc hc d hd hs hle=>?_) λH16 s16=>?_
   ·obtain ⟨x,y,rfl⟩:=nR (lQ PL.f1 hc).1;obtain ⟨z,t,rfl⟩:=nR (lQ PL.f1 hd).1;have sub:=iE (M:=M) (best:=best) PL.f1;refine S2.words O2 (by simpa using hs) hle (S2.come O2 hbst hd) (hbst _ (sub.subset hc)) (hbst _ (sub.subset hd))
   ·exact ⟨_,rfl,s15.trans s16,rfl⟩
  rintro b H15 ⟨s15,rfl⟩;refine NB ?_;have I15:=I14.t s15.t;refine ⟨_,rfl,_,rfl,_,rfl,?_⟩;refine BO I15.rt I15.T.f I15.ra I15.rp I15.wo Dd Dd λpd kvs H16 s16 hpd e16 dw16=>?_;have hz0:List.replicate 2 0∈rise 2 M:=(gP Dd).mpr ⟨dS,by simp⟩;obtain ⟨vz,hvz,rvz⟩:=dw16.yes _ hz0;refine nZ (by show 2<=64;decide) λq18 H18 hq18 e18 s18=>NH (s18 _ _ e16) (c:=ci (List.replicate 2 0)) e18 hvz ?_;have S18:=(s15.trans s16).trans s18;have I18:=I14.t S18.t;refine ⟨λb H'=>aU H18 H'/\b=false,?_,?_⟩
  ·-- what the rule is priced at
   refine ⟨_,rfl,_,rfl,_,rfl,_,rfl,?_⟩;refine BP I18.rt (rw14.t S18.t) I18.ra I18.rp RO Dd Dd Oo Dd I18.T.f (λx hx=>(I18.T.sh x hx).len) I18.trq (I18.aimq RO (aI _)) I18.np.1 I18.np.2 I18.pl (wA I18.p) λv19 H19 s19 r19=>?_;rw [I18.bestp PL hb1] at r19;refine ⟨_,rfl,reD (d:=gF (zM 2 2 M (eT ws) mix ps cs (List.replicate 2 0))) (d':=gF (zM 2 2 M (eT ws) mix ps cs (List.replicate 2 0))) r19 ((rvz.same s18).same s19) (mH _) (mH _) ?_⟩;rw [CU,cL rfl];refine ⟨_,rfl,pO rfl ?_⟩;refine ⟨_,rfl,_,rfl,_,rfl,?_⟩;refine nZ (by show 3<=64;decide) λq20 H20 hq20 e20 s20=>?_;have S20:=s19.trans s20;refine rrW (d:=.tuple [pL fs ws,lV M bs mix cs,pP ps]) (cE.tup e20 (aQ.cons (I18.rt.same S20) (aQ.cons (I18.ra.same S20) (aQ.cons (I18.rp.same S20) aQ.nil)))) I18.sw Dd Dd ⟨_,rfl,rfl,_,rfl,S20,?_⟩;rw [hkept];simp
  rintro b H19 ⟨s19,rfl⟩;exact NB ⟨_,_,_,_,_,_,_,rfl,(((F12'.same s13).same s14).same (S18.trans s19)).less Oo⟩
 ·rintro σ H2 ⟨o2,o3,o4,o5,o6,o7,o8,rfl,F2⟩;exact k H2
end
def WZ{K:Aa}{C:Addr}:∀f∈([]:Ah),lK K C f:=λ_ h=>by cases h
def qK{K:Aa}{C:Addr}{g:Str}{fs:Ah}(h:lK K C g)(r:∀f∈fs,lK K C f):∀f∈g::fs,lK K C f:=λf hf=>by
 rcases aZ.mp hf with rfl | hf
 ·exact h
 ·exact r f hf
def len1{α:Type}{us:List α}(h:us.length=1):∃a,us=[a]:=match us,h with | [a],_=>⟨a,rfl⟩
def aEo{α:Type}{us:List α}(h:us.length=2):∃a b,us=[a,b]:=match us,h with | [a,b],_=>⟨a,b,rfl⟩
def aCQ{α:Type}{us:List α}(h:us.length=3):∃a b c,us=[a,b,c]:=match us,h with | [a,b,c],_=>⟨a,b,c,rfl⟩
def aEn{α:Type}{us:List α}(h:us.length=4):∃a b c d,us=[a,b,c,d]:=match us,h with | [a,b,c,d],_=>⟨a,b,c,d,rfl⟩
def aEm{α:Type}{us:List α}(h:us.length=5):∃a b c d e,us=[a,b,c,d,e]:=match us,h with | [a,b,c,d,e],_=>⟨a,b,c,d,e,rfl⟩
def aBD{K:Aa}{x q:Str}{st:Stmt}{f:Addr}{fd:FuncData}(F:jP K x q st f fd)(P:FuncData->Prop)(h:P fd):∃fd,P fd:=⟨fd,h⟩
inductive Dn (K:Aa) (n:Str) (st:Stmt):Prop
 | mk {f:Addr} {oc:Value} {od:Option Addr} {kV dc pm:Value} {an:Option Addr} {cd ct:Value} {sl:Array (Option Value)} (a:PySem.W.nsIn K mainGlobals n=some (some (.ref f))) (l:K.lookup f=some ⟨oc,od,.func (PySem.W.fnOf n n (pG st) (lB st) (aY st) .none kV dc pm an cd ct),sl⟩) (c:PySem.W.codeIn K cd n=true) (k:PySem.W.keepIn K (.ref f)=true):Dn K n st
def fnd(l:PySem.W.OpenLaw)(w:World){K:Aa}{h:Heap}{mg:Str->Option Value}(X:K.In h)(G:h.Ns mainGlobals mg)(base:Heap){n:Str}{st:Stmt}{L:Nat}{ps:Ah}{sp:Sp}(d:Dn K n st)(o:∀{f:Addr}{fd:FuncData},jP K n n st f fd->eC l.prog w K mg base dR L f fd ps sp)(b:∀(kV doc pm:Value) (an:Option Addr) (cdv ct:Value) (us:Ag),us.length=ps.length->bindArgs (PySem.W.fnOf n n (pG st) (lB st) (aY st) .none kV doc pm an cdv ct) ⟨us,[]⟩=pure (ps.zip us):=by intro _ _ _ _ _ _ us hl;first | (obtain ⟨_,rfl⟩:=len1 hl;rfl) | (obtain ⟨_,_,rfl⟩:=aEo hl;rfl) | (obtain ⟨_,_,_,rfl⟩:=aCQ hl;rfl) | (obtain ⟨_,_,_,_,rfl⟩:=aEn hl;rfl) | (obtain ⟨_,_,_,_,_,rfl⟩:=aEm hl;rfl)):gR dR l.prog w K mg base L n ps sp:=by
 obtain ⟨a,l',c,k⟩:=d;exact ⟨_,_,o (CT l' c k),PySem.W.mg_of X G a,k,(CT l' c k).binds b⟩
open PySem.W (nsIn fnOf codeIn keepIn mg_of mg_none_of) in
def aBR{l:PySem.W.OpenLaw}{w:World}{K:Aa}{h:Heap}{mg:Str->Option Value}{fa:Addr}{c_ONE:Addr}{c_NOUGHT:Addr}{c_Weighing:Addr}{tok_LOOKS_ON:Tok}(X:K.In h)(G:h.Ns mainGlobals mg)(hfa:mg "law" = some (.ref fa))
  (u_ONE:nsIn K mainGlobals "ONE" = some (some (.ref c_ONE)))
  (u_NOUGHT:nsIn K mainGlobals "NOUGHT" = some (some (.ref c_NOUGHT)))
  (u_Weighing:nsIn K mainGlobals "Weighing" = some (some (.ref c_Weighing)))
  (u_LOOKS_ON:nsIn K mainGlobals "LOOKS_ON" = some (some (.int 0 tok_LOOKS_ON)))
  (mi_Weighing:PySem.W.makesIn K c_Weighing=true)
  (pg_Weighing:PySem.W.plainGet K c_Weighing Str.empty=true)
  (hd_Weighing:PySem.W.hasDictIn K c_Weighing=true)
  (po_Weighing:PySem.W.plainOver K c_Weighing=true)
  (sa_Weighing:PySem.W.findIn K (.ref c_Weighing) "__setattr__" = some (some (.builtin "object.__setattr__")))
  (n0_Weighing:PySem.W.findIn K (.ref c_Weighing) "rising" = some none)
  (n1_Weighing:PySem.W.findIn K (.ref c_Weighing) "units" = some none)
  (n2_Weighing:PySem.W.findIn K (.ref c_Weighing) "weights" = some none)
  (n3_Weighing:PySem.W.findIn K (.ref c_Weighing) "cost_unit" = some none)
  (n4_Weighing:PySem.W.findIn K (.ref c_Weighing) "costs" = some none)
  (o_ONE:sJ K c_ONE [1,1]=true)
  (o_NOUGHT:sJ K c_NOUGHT [0,1]=true)
  (d0:Dn K "common_divisor" aAE)
  (d1:Dn K "plus" aAw)
  (d2:Dn K "times" aAu)
  (d3:Dn K "total" aAs)
  (d4:Dn K "faces_of" aAA)
  (d5:Dn K "ways_of" aAq)
  (d6:Dn K "way_shares" aAr)
  (d7:Dn K "power" aAv)
  (d8:Dn K "weight" aAp)
  (d9:Dn K "counts_that_are" QA)
  (d10:Dn K "all_counts" aAG)
  (d11:Dn K "one_more" aAx)
  (d12:Dn K "ones_more" VG)
  (d13:Dn K "noughts" VH)
  (d14:Dn K "looks_on" aAy)
  (d15:Dn K "common_lower" aAD)
  (d16:Dn K "times_whole" aAt)
  (d17:Dn K "in_units" aAz)
  (d18:Dn K "look_cost" VI)
  (a19:PySem.W.findIn K (.ref c_Weighing) "__init__" = some (some (.ref f19))) (l19:K.lookup f19=some ⟨oc19,od19,.func (fnOf "__init__" "Weighing.__init__" (pG VM) (lB VM) (aY VM) .none kV19 dc19 pm19 an19 cd19 ct19),sl19⟩) (c19:codeIn K cd19 "Weighing.__init__" = true) (k19:keepIn K (.ref f19)=true) (fn19:PySem.W.isFn K (.ref f19)=true) (kp19:keepIn K (.ref c_Weighing)=true)
  (d20:Dn K "weights_at" VD)
  (d21:Dn K "best_places" MJ)
  (d22:Dn K "plain_table" VF)
  (d23:Dn K "counts_behind" aAC)
  (d24:Dn K "counts_come_to" aAB)
  (d25:Dn K "rule_within" VE)
  (d26:Dn K "best_rule" QB)
  (d27:Dn K "best_bounds" aAF)
  (d28:Dn K "_law_feed" sQ7)
  (d29:Dn K "_law_draw" sQ6)
  (d30:Dn K "_law_frac" sQ8)
  (d31:Dn K "_law_plus" aAO)
  (d32:Dn K "_law_less" aAR)
  (d33:Dn K "_law_times" aAK)
  (d34:Dn K "_law_more" aAP)
  (d35:Dn K "_law_below" sQ2)
  (d36:Dn K "_law_total" aAJ)
  (d37:Dn K "_law_shares" aAM)
  (d38:Dn K "_law_trial" QC)
  (d39:Dn K "_law_some" aAL)
  (d40:Dn K "_law_bound" sQ3)
  (d41:Dn K "_law_aim" sQ1)
  (d42:Dn K "_law_weight" aAI)
  (d43:Dn K "_law_counts" sQ5)
  (d44:Dn K "_law_sums" MK)
  (d45:Dn K "_law_worths" aAH)
  (d46:Dn K "_law_of_rule" QD)
  (d47:Dn K "_law_priced" VL)
  (d48:Dn K "_law_rank" aAN)
  (d49:Dn K "_law_is_plain_rule" sQ9)
  (d50:Dn K "_law_monotone" aAQ)
  (d51:Dn K "_law_by_bounds" sQ4)
  (d52:Dn K "law" VJ) (z0:nsIn K mainGlobals "list" = some none) (z1:nsIn K mainGlobals "len" = some none) (z2:nsIn K mainGlobals "abs" = some none) (z3:nsIn K mainGlobals "range" = some none) (z4:nsIn K mainGlobals "sum" = some none) (z5:nsIn K mainGlobals "zip" = some none) (z6:nsIn K mainGlobals "reversed" = some none) (z7:nsIn K mainGlobals "tuple" = some none) (z8:nsIn K mainGlobals "repr" = some none) (z9:nsIn K mainGlobals "sorted" = some none) (z10:nsIn K mainGlobals "int" = some none) (z11:nsIn K mainGlobals "min" = some none) (z12:nsIn K mainGlobals "isinstance" = some none) :
  ∃fd:FuncData,(∀(s:Shared) (v:Value),BindsTo s fd ⟨[v],[]⟩ [("_law_script",v)])/\∀base:Heap,K.In base->base.Ns mainGlobals mg->eC l.prog w K mg base dR 11 fa fd ["_law_script"] (uT K):=by
 obtain ⟨a52,l52,c52,k52⟩:=d52;have e:=hfa.symm.trans (mg_of X G a52);cases e;generalize hcl:(⟨c_ONE,c_NOUGHT,c_Weighing,tok_LOOKS_ON⟩:Cl)=c;have T:kX K mg c:=by rw [<-hcl];exact ⟨mg_none_of X G z0,mg_none_of X G z1,mg_none_of X G z2,mg_none_of X G z3,mg_none_of X G z4,mg_none_of X G z5,mg_none_of X G z6,mg_none_of X G z7,mg_none_of X G z8,mg_none_of X G z9,mg_none_of X G z10,mg_none_of X G z11,mg_none_of X G z12,mg_of X G u_ONE,mg_of X G u_NOUGHT,mg_of X G u_LOOKS_ON,mg_of X G u_Weighing,⟨⟨pg_Weighing,hd_Weighing,po_Weighing,sa_Weighing⟩,(qK n0_Weighing (qK n1_Weighing (qK n2_Weighing (qK n3_Weighing (qK n4_Weighing WZ)))))⟩,o_ONE,o_NOUGHT⟩
 have F52:=CT (st:=VJ) l52 c52 k52;refine aBD F52 _ ⟨λs v=>.of_eq rfl,λbase _ _=>?_⟩;have N:=@fnd l w K h mg X G base;have GQ29:=N d0 λF=>aD2 F T;have GQ43:=N d1 λF=>aDO F T GQ29;have GQ46:=N d2 λF=>aDL F T GQ29;have GQ48:=N d3 λF=>aDJ F T GQ43;have GQ34:=N d4 λF=>aDX F T;have GQ50:=N d5 λF=>aDH F T;have GQ49:=N d6 λF=>aDI F T;have GQ44:=N d7 λF=>aDN F T;have GQ51:=N d8 λF=>aDG F T GQ49 GQ46 GQ44;have GQ33:∀n:Nat,gR dR l.prog w K mg base (1+n) "counts_that_are" ["faces","many"] (mV n):=λn=>by
  induction n with
  | zero=>exact N d9 λF=>aDs F T
  | succ n ih=>exact N d9 λF=>aDY n F T ih
 have GQ25:=N d10 λF=>aD6 F T (GQ33 4);have GQ40:=N d11 λF=>aDR F T;have GQ41:=N d12 λF=>aDQ F T GQ40;have GQ39:=N d13 λF=>aDS F T;have GQ38:=N d14 λF=>aDT F T;have GQ30:=N d15 λF=>aD1 F T GQ29;have GQ47:=N d16 λF=>aDK F T;have GQ35:=N d17 λF=>aDW F T GQ47;have GQ37:=N d18 λF=>aDU F T GQ46 GQ51 GQ50 GQ48;have F19:=CT (st:=VM) l19 c19 k19;have b19:=F19.binds (ps:=["self","trial","aim"]) λ_ _ _ _ _ _ us hl=>by obtain ⟨_,_,_,rfl⟩:=aCQ (show us.length=3 from hl);rfl
 have GQ0:FnO l.prog w K mg base 7 c.Weighing ["self","trial","aim"] (rB c.Weighing):=⟨_,_,oQ0 F19 T GQ25 GQ34 GQ50 GQ51 GQ30 GQ35 GQ37,⟨(by rw [<-hcl];exact mi_Weighing),(by rw [<-hcl];exact a19),fn19,(by rw [<-hcl];exact kp19)⟩,b19⟩;have GQ52:=N d20 λF=>aDF F T;have GQ27:=N d21 λF=>aD4 F T GQ52 GQ41;have GQ42:=N d22 λF=>aDP F T;have GQ31:=N d23 λF=>aD0 F T GQ38 GQ41;have GQ32:=N d24 λF=>aDZ F T GQ39 GQ31;have GQ45:=N d25 λF=>aDM F T GQ32;have GQ28:=N d26 λF=>aD3 F T GQ0 GQ46 GQ30 GQ47 GQ27 GQ45 GQ34 GQ42;have GQ26:=N d27 λF=>aD5 F T GQ28;have GQ7:=N d28 λF=>oQ7 F T;have GQ6:=N d29 λF=>oQ6 F T;have GQ8:=N d30 λF=>oQ8 F T;have GQ14:=N d31 λF=>aEh F T GQ8;have GQ10:=N d32 λF=>aEl F T GQ8;have GQ20:=N d33 λF=>aEb F T GQ8;have GQ12:=N d34 λF=>aEj F T;have GQ2:=N d35 λF=>oQ2 F T;have GQ21:=N d36 λF=>aEa F T GQ14;have GQ17:=N d37 λF=>aEe F T GQ6 GQ8;have GQ22:=N d38 λF=>aD9 F T GQ6 GQ17;have GQ18:=N d39 λF=>aEd F T GQ6 GQ8;have GQ3:=N d40 λF=>oQ3 F T GQ6 GQ8;have GQ1:=N d41 λF=>oQ1 F T GQ3 GQ17 GQ18;have GQ23:=N d42 λF=>aD8 F T GQ20;have GQ5:=N d43 λF=>oQ5 F T GQ12;have GQ19:=N d44 λF=>aEc F T GQ23 GQ20 GQ21 GQ12;have GQ24:=N d45 λF=>aD7 F T GQ5 GQ19 GQ2;have GQ13:=N d46 λF=>aEi F T GQ20 GQ14 GQ10 GQ23 GQ12;have GQ15:=N d47 λF=>aEg F T GQ13 GQ14 GQ20 GQ21;have GQ16:=N d48 λF=>aEf F T;have GQ9:=N d49 λF=>oQ9 F T GQ12 GQ16;have GQ11:=N d50 λF=>aEk F T GQ2;have GQ4:=N d51 λF=>oQ4 F T
 exact aDV F52 T GQ7 GQ6 GQ22 GQ11 GQ1 GQ18 GQ26 GQ9 GQ4 GQ15 GQ24
end Kw
namespace PySem.W.Fast
def tw10839709611417008317:=()
def tw16355463980575201829:=()
def tw11712421793753075224:=()
def tw699170517458635242:=()
def tw5641057396864282614:=()
def tw10165059877013166344:=()
def tw8380760933984259998:=()
def tw9377134600958380850:=()
def tw18372471554432697732:=()
def tw11406109017628654354:=()
def tw12993291289458105056:=()
def tw3276752336526622770:=()
def tw9724967451121973911:=()
def tw4432762139651052686:=()
def tw3315711941949404796:=()
def tw15195695614656412054:=()
def tw7853630442750050584:=()
def tw10842846156196167991:=()
def tw8550478189661446701:=()
def tw16574058852897263573:=()
def tw10699681626874148578:=()
def tw15563761967236094816:=()
def tw5727726952196079985:=()
def tw265225192065056844:=()
def tw17995449237806769888:=()
def tw11202242778564209997:=()
def tw1243662696409939298:=()
def tw13340537971502062503:=()
def tw7726836942156277023:=()
def tw3120968512238640380:=()
def tw3123343648981614926:=()
def tw15162656670075810747:=()
def tw9636823300888513497:=()
def tw10184676629045743368:=()
def tw5078169570340623730:=()
def tw12015906276610551937:=()
def tw5166583551964625798:=()
def tw6314786242542320177:=()
def tw15326548044577730908:=()
def tw10861027110051885507:=()
def tw13502253773973152080:=()
def tw10647755049557963739:=()
def tw2150658949064965956:=()
def tw3611314094150308219:=()
def tw16629518654827056886:=()
def tw10668496126346391639:=()
def tw14834953393835299899:=()
def tw6229871453276148078:=()
def tw15436573353814981960:=()
def tw9785828297365824858:=()
def tw13030927134881181811:=()
def tw11921129985386067238:=()
def tw6335109435014368411:=()
def tw6464936462852277985:=()
def tw2726026615514435070:=()
def tw17368733308447362072:=()
def tw7665486955232253179:=()
def tw17813053461472123574:=()
def tw2235683229082452296:=()
def tw14254166873155738038:=()
def tw15611081684963834048:=()
def tw4809130532205722401:=()
def tw14036311191873376397:=()
def tw9935454013527302206:=()
def tw15996896653670209311:=()
def tw15906948795779646005:=()
def tw12676267590581603974:=()
def tw4085129350423338455:=()
def tw3426080671245288106:=()
def tw1567648600274911805:=()
def tw18370482318726412328:=()
def tw12031342752584280143:=()
def tw7438533689404899339:=()
def tw8987634749256091283:=()
def tw8211500356364220976:=()
def tw11410524105248447353:=()
def tw6571400154269574052:=()
def tw11904013093252804141:=()
def tw12259000321067907524:=()
def tw9011514028692597837:=()
def tw3433438488718368035:=()
def tw10113956028322163381:=()
def tw10003089951943835951:=()
def tw9821184877091030977:=()
def tw6499355160815362345:=()
def tw2602015395416555152:=()
def tw8739071049712891153:=()
end PySem.W.Fast
open PySem PySem.W PyProof.Rows
set_option maxRecDepth 100000 in
set_option maxHeartbeats 0 in
theorem PySem.Challenge.cw_earlystop_k49_best_by_bounds_holds : PySem.Challenge.rw_earlystop_k49_best_by_bounds.Holds := by
  w_on;o_law;k_head;(case hw=>w_witness2)
  k_fill
  refine L2.OQ (l:=PySem.Challenge.rw_earlystop_k49_best_by_bounds) (n:=63) (k:=11) (x := "_law_script") (CX:=L2.dR) (sp:=λK=>Kw.uT K) rfl Dd rfl ⟨rfl,Dd,Dd,rfl⟩ (λw h Y=>PySem.W.kIn_of Y) ?F (λK H a ns hl _ hS=>Kw.PQ hS hl) (λ_ _ _ _ z=>z)
  case F =>
    intro w mg fa h KX G hmg
    refine' Kw.aBR KX G hmg ?u_ONE ?u_NOUGHT ?u_Weighing ?u_LOOKS_ON ?mi_Weighing ?pg_Weighing ?hd_Weighing ?po_Weighing ?sa_Weighing ?n0_Weighing ?n1_Weighing ?n2_Weighing ?n3_Weighing ?n4_Weighing ?o_ONE ?o_NOUGHT ?d0 ?d1 ?d2 ?d3 ?d4 ?d5 ?d6 ?d7 ?d8 ?d9 ?d10 ?d11 ?d12 ?d13 ?d14 ?d15 ?d16 ?d17 ?d18 ?a19 ?l19 ?c19 ?k19 ?fn19 ?kp19 ?d20 ?d21 ?d22 ?d23 ?d24 ?d25 ?d26 ?d27 ?d28 ?d29 ?d30 ?d31 ?d32 ?d33 ?d34 ?d35 ?d36 ?d37 ?d38 ?d39 ?d40 ?d41 ?d42 ?d43 ?d44 ?d45 ?d46 ?d47 ?d48 ?d49 ?d50 ?d51 ?d52 ?z0 ?z1 ?z2 ?z3 ?z4 ?z5 ?z6 ?z7 ?z8 ?z9 ?z10 ?z11 ?z12
    (case u_ONE|u_NOUGHT|u_Weighing|u_LOOKS_ON|mi_Weighing|pg_Weighing|hd_Weighing|po_Weighing|sa_Weighing|n0_Weighing|n1_Weighing|n2_Weighing|n3_Weighing|n4_Weighing|a19|l19|c19|k19|fn19|kp19|z0|z1|z2|z3|z4|z5|z6|z7|z8|z9|z10|z11|z12=>k_is);(case d0|d1|d2|d3|d4|d5|d6|d7|d8|d9|d10|d11|d12|d13|d14|d15|d16|d17|d18|d20|d21|d22|d23|d24|d25|d26|d27|d28|d29|d30|d31|d32|d33|d34|d35|d36|d37|d38|d39|d40|d41|d42|d43|d44|d45|d46|d47|d48|d49|d50|d51|d52=>refine' Kw.Dn.mk ?a ?l ?c ?k;(case a=>k_is);(case l=>k_is);(case c=>k_is);(case k=>k_is));(case o_ONE=>kernel_rfl);(case o_NOUGHT=>kernel_rfl)
