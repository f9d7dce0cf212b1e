import PyProof.Rows.All
import Wide.All
import OpenK.AllK
import Wide.FinOn
import Lean
import PyProof.EqAt
import PyProof.EqKinds
import PyProof.TupleCall
import KE.IntBitsLaws
import PyProof.ZipIter
import PyProof.ListMulRoad
import PyProof.AutoListH
import PyProof.Rows.SeqMore
import PyProof.Rows.SumAny
import PyProof.SliceStr2
import PyProof.WalksMore
import KE.KSortTup
import PyProof.AttrMissHeap
import PyProof.TupleIter
import KE.KDictOf
import PyProof.DictWalks
import PyProof.DictValues
import KE.KDictList
import PyProof.Rows.MinMaxN
import PyProof.Rows.TupDisplay
import PyProof.DictTruth
import PyProof.Rows.SortRev
import PyProof.Rows.CallKwBuiltin
import PyProof.StationsW
import PyProof.Rows.CatchBare
import OpenK.KRaise
import KE.KIsAll
import OpenK.KOwn
import PyProof.ExcInit
import KE.KEqDict
import PyProof.ReprRoads
import KE.KLam
import PyProof.StrBlockG
import PyProof.Rows.Digits
import PyProof.Rows.StrOr
import PyProof.StrCalls2
import PyProof.StrBlock2
import KE.KIntText
import KE.KRevIter
import KE.LcSums
import PySem.Challenge.RW_earlystop_k19_what_is_a_rule
set_option Elab.async false
set_option linter.all false
set_option maxHeartbeats 0
set_option maxRecDepth 100000
theorem Oo{p:Prop}(h:p:=by omega):p:=h
theorem Dd{p:Prop}(h:p:=by decide):p:=h
theorem Kk{p:Prop}(h:p:=by decide +kernel):p:=h
namespace PySem
abbrev aA:=@List.length_map
abbrev aB:=@Heap.get?_push_of_some
abbrev aD:=@List.mem_cons_of_mem
abbrev aF:=@List.mem_cons_self
abbrev aG:=@List.mem_append_right
abbrev aI:=@List.length_append
abbrev aK:=@Nat.le_refl
abbrev aM:=@decide_eq_true
abbrev aN:=@List.getElem?_eq_getElem
abbrev aO:=@List.size_toArray
abbrev aP:=@List.mem_singleton
abbrev aQ:=@Bool.and_eq_true
abbrev aR:=@List.mem_cons
abbrev aS:=@List.getElem?_map
abbrev aU:=@List.mem_map
abbrev aV:=@List.map_cons
abbrev aY:=@Heap.lt_size
abbrev aZ:=@Nat.lt_of_lt_of_le
abbrev bA:=@List.length_take
abbrev bB:=@Heap.get?_push_size
abbrev bC:=@Nat.le_trans
abbrev bE:=@List.mem_append
abbrev bF:=@List.length_cons
abbrev bH:=@decide_eq_false
abbrev bI:=@Nat.lt_of_le_of_lt
abbrev bJ:=@List.getD_eq_getElem?_getD
abbrev bK:=@List.mem_of_getElem?
abbrev bM:=@List.map_append
abbrev bN:=@List.getElem?_eq_some_iff
abbrev bO:=@List.mem_append_left
abbrev bQ:=@Bool.false_ne_true
abbrev bT:=@Nat.ne_of_lt
abbrev bX:=@List.length_replicate
abbrev cB:=@Nat.zero_le
abbrev cE:=@List.length_range
abbrev cL:=@Heap.get?_update_ne
abbrev cP:=@Nat.lt_irrefl
abbrev cU:=@List.mem_range
abbrev dC:=@List.mem_filter
abbrev dG:=@Option.map_eq_some_iff
abbrev dO:=@List.getElem?_eq_none
abbrev dW:=@List.take_length
abbrev eB:=@Option.some.inj
abbrev eR:=@List.getElem?_range
abbrev fM:=@Nat.pow_le_pow_right
abbrev fN:=@List.take_add_one
end PySem
open PySem
namespace L2
open PySem PySem.Spec PyProof.Rows
abbrev dE:=Sum Int Str
def vC:dE->Value->Bool
 | .inl k,v=>Value.isInt k v
 | .inr x,v=>Value.isStrOf x v
def aBj(w:World):dE->Int
 | .inl k=>hashInt k
 | .inr x=>hashStr w x
theorem eM:∀{k:dE}{v:Value},vC k v=true->(∃i t,k=Sum.inl i/\v=Value.int i t)\/(∃x t,k=Sum.inr x/\v=Value.str x t)
 | .inl i,v,h=>by
  obtain ⟨t,e⟩:=Value.isInt_shape (k:=i) (v:=v) h;exact .inl ⟨i,t,rfl,e⟩
 | .inr x,v,h=>by
  obtain ⟨t,e⟩:=Value.isStrOf_shape (x:=x) (v:=v) h;exact .inr ⟨x,t,rfl,e⟩
theorem GR(i:Int)(t:Tok):vC (.inl i) (.int i t)=true:=by simp [vC,Value.isInt]
theorem GQ(x:Str)(t:Tok):vC (.inr x) (.str x t)=true:=by simp [vC,Value.isStrOf]
theorem VW(a b:Int):decide ((Sum.inl a:dE)=Sum.inl b)=(a == b):=by
 by_cases e:a=b
 ·subst e;simp
 ·have h:¬(Sum.inl a:dE)=Sum.inl b:=λq=>e (Sum.inl.inj q);rw [bH h];exact (beq_eq_false_iff_ne.mpr e).symm
theorem VS(a b:Str):decide ((Sum.inr a:dE)=Sum.inr b)=decide (a=b):=by
 by_cases e:a=b
 ·subst e;simp
 ·have h:¬(Sum.inr a:dE)=Sum.inr b:=λq=>e (Sum.inr.inj q);rw [bH h,bH e]
theorem VU(a:Int)(b:Str):decide ((Sum.inl a:dE)=Sum.inr b)=false:=bH (λq=>nomatch q)
theorem VT(a:Str)(b:Int):decide ((Sum.inr a:dE)=Sum.inl b)=false:=bH (λq=>nomatch q)
def dQ(prog:Program)(w:World):PySem.KeyKind prog w dE where
 is:=vC
 hash:=aBj w
 inj:=λv a b ha hb=>by
  rcases eM ha with ⟨i,t,rfl,rfl⟩ | ⟨x,t,rfl,rfl⟩
  ·rcases eM hb with ⟨j,u,rfl,e⟩ | ⟨y,u,rfl,e⟩
   ·injection e with e1 _;rw [e1]
   ·exact nomatch e
  ·rcases eM hb with ⟨j,u,rfl,e⟩ | ⟨y,u,rfl,e⟩
   ·exact nomatch e
   ·injection e with e1 _;rw [e1]
 byValue:=λk v h=>by
  rcases eM h with ⟨i,t,rfl,rfl⟩ | ⟨x,t,rfl,rfl⟩ <;> rfl
 pyHash:=λhv h=>by
  rcases eM hv with ⟨i,t,rfl,rfl⟩ | ⟨x,t,rfl,rfl⟩
  ·exact wpAny_pyHash_int h
  ·exact wpAny_pyHash_str h
 eqBool:=λhu hv h=>by
  rcases eM hu with ⟨i,t,rfl,rfl⟩ | ⟨x,t,rfl,rfl⟩
  ·rcases eM hv with ⟨j,u,rfl,rfl⟩ | ⟨y,u,rfl,rfl⟩
   ·rw [VW] at h;exact wpAny_eqBool_int h
   ·rw [VU] at h;exact SeqAt.EqAt.int_str i t y u _ _ _ _ h
  ·rcases eM hv with ⟨j,u,rfl,rfl⟩ | ⟨y,u,rfl,rfl⟩
   ·rw [VT] at h;exact SeqAt.EqAt.str_int x t j u _ _ _ _ h
   ·rw [VS] at h;exact wpAny_eqBool_str h
 «strs» := λk x t v h=>by
  rcases eM h with ⟨i,u,rfl,e⟩ | ⟨y,u,rfl,e⟩
  ·exact nomatch e
  ·injection e with e1 _;subst e1;cases v <;> rfl
theorem yR(prog:Program)(w:World)(i:Int)(t:Tok):(dQ prog w).is (.inl i) (.int i t)=true:=GR i t
theorem yQ(prog:Program)(w:World)(x:Str)(t:Tok):(dQ prog w).is (.inr x) (.str x t)=true:=GQ x t
inductive V where
 | non | bl (b:Bool) | int (i:Int) | str (x:Str) | byt (b:Array UInt8) | flt (b:UInt64) | ref (a:Addr) | ty (n:String)
 deriving DecidableEq
def cW:V->Value->Prop
 | .non,u=>u=Value.none
 | .bl b,u=>u=Value.bool b
 | .int i,u=>∃t,u=Value.int i t
 | .str x,u=>∃t,u=Value.str x t
 | .byt b,u=>∃t,u=Value.bytes b t
 | .flt b,u=>∃t,u=Value.float b t
 | .ref a,u=>u=Value.ref a
 | .ty n,u=>u=Value.type n
abbrev cJ:List V->List Value->Prop:=Paired cW
theorem cJ.length{xs:List V}{us:List Value}(r:cJ xs us):xs.length=us.length:=Paired.length r
theorem cJ.get:∀{xs:List V}{us:List Value}{i:Nat}{x:V},cJ xs us->xs[i]?=some x->∃u,us[i]?=some u/\cW x u
 | _,_,_,_,.nil,e=>by simp at e
 | _,_,0,_,.cons r _,e=>by simp at e;subst e;exact ⟨_,rfl,r⟩
 | _,_,i+1,x,.cons _ t,e=>by
  obtain ⟨u,h1,h2⟩:=cJ.get (i:=i) (x:=x) t (by simpa using e);exact ⟨u,by simpa using h1,h2⟩
theorem cJ.set{x:V}{u:Value}(r:cW x u):∀{xs:List V}{us:List Value}(i:Nat),cJ xs us->cJ (xs.set i x) (us.set i u)
 | _,_,_,.nil=>.nil
 | _,_,0,.cons _ t=>.cons r t
 | _,_,i+1,.cons q t=>.cons q (cJ.set r i t)
theorem cJ.append:∀{xs ys:List V}{us ws:List Value},cJ xs us->cJ ys ws->cJ (xs++ys) (us++ws)
 | _,_,_,_,.nil,s=>s
 | _,_,_,_,.cons r t,s=>.cons r (cJ.append t s)
theorem cJ.take:∀{xs:List V}{us:List Value}(n:Nat),cJ xs us->cJ (xs.take n) (us.take n)
 | _,_,0,_=>.nil
 | _,_,_+1,.nil=>.nil
 | _,_,n+1,.cons r t=>.cons r (cJ.take n t)
theorem cJ.drop:∀{xs:List V}{us:List Value}(n:Nat),cJ xs us->cJ (xs.drop n) (us.drop n)
 | _,_,0,r=>r
 | _,_,_+1,.nil=>.nil
 | _,_,n+1,.cons _ t=>cJ.drop n t
def uB:Option V->Option Value->Prop
 | some v,some u=>cW v u
 | none,none=>True
 | _,_=>False
def KV{κ:Type}:List (κ × V)->List (κ × Value)->Prop:=Paired λ(p:κ × V) (q:κ × Value)=>p.1=q.1/\cW p.2 q.2
def kV:dE->V
 | .inl i=>.int i
 | .inr x=>.str x
inductive HO where
 /-- a list -/
 | lst (xs:List V)
 /-- a tuple (never changes) -/
 | tup (xs:List V)
 /-- a dict whose keys are ints and texts;one whose keys are tuples of ints and texts (the empty one is both) -/
 | dK (kvs:List (dE × V)) | dT (kvs:List (List dE × V))
 /-- a set of ints: its members,its size -/
 | set (S:Int->Bool) (n:Nat)
 /-- an instance of the class at C,its dict at dx,its attributes -/
 | ins (C dx:Addr) (fs:List (Str × V))
 /-- the dict of the instance at x -/
 | own (x:Addr)
 /-- the dict of an exception -/
 | xd (fs:List (Str × V))
 /-- a bound method,f of x -/
 | met (f x:Addr)
 /-- a range object lo,lo+1,.. below hi -/
 | rng (lo hi:Int)
 /-- a thing that is known to the object (the script;a dict while a loop walks it): read,never written while it is so -/
 | frz (o:Obj) (u:HO)
 /-- a code object's table -/
 | tbl (ps:Array Value)
 /-- any other thing,by what is true of its one object (a def of one's own: SetO a S n:=HO.ext λh=>..) -/
 | ext (φ:Heap->Prop)
abbrev Hp:=Addr->Option HO
def upd(H:Hp)(a:Addr)(o:HO):Hp:=λb=>if b=a then some o else H b
theorem bL{H:Hp}{a:Addr}{o:HO}:upd H a o a=some o:=by unfold upd;rw [if_pos rfl]
theorem bU{H:Hp}{a b:Addr}{o:HO}(h:b≠a):upd H a o b=H b:=by unfold upd;rw [if_neg h]
theorem CT{H:Hp}{a:Addr}{o u:HO}:upd (upd H a o) a u=upd H a u:=by
 funext b;unfold upd;split <;> rfl
theorem sW{H:Hp}{a b:Addr}{o u:HO}(h:H a=some o)(h':H b=some u)(d:o≠u):a≠b:=by
 intro e;subst e;rw [h] at h';exact d (eB h')
theorem fA{H:Hp}{a b:Addr}{o:HO}(h:H a=some o)(h':H b=none):a≠b:=by
 intro e;subst e;rw [h] at h';cases h'
section
variable(P:Program)(w:World)
def dL(H:Hp)(h:Heap)(a:Addr):HO->Prop
 | .lst xs=>xs.length<=sizeLine/\∃(its:List Value) (n:Nat),cJ xs its/\h.get? a=some { cls:=.type "list",data:=.seq its.toArray n }
 | .tup xs=>(xs.length<=sizeLine/\∃o,h.get? a=some o/\o.dict=none)/\∃its:List Value,cJ xs its/\IsTup h a its.toArray
 | .dK kvs=>kvs.length<=sizeLine/\(a == sysModules)=false/\∃vs,KV kvs vs/\h.DictOf (dQ P w) a vs
 | .dT kvs=>kvs.length<=sizeLine/\(a == sysModules)=false/\∃xs:List (List dE × Addr × Value),
   Paired (λ(p:List dE × V) (q:List dE × Addr × Value)=>p.1=q.1/\H q.2.1=some (.tup (p.1.map kV))/\cW p.2 q.2.2) kvs xs /\
   ∃o es ep,h.get? a=some o/\o.ExactDict/\o.data=.dict es ep/\es.toList=xs.map (entryOfKey (tupleKind (dQ P w)))/\(xs.map (·.1)).Nodup
 | .set S n=>h.SetOf (intKind P w) a S n
 | .ins C dx fs=>H dx=some (.own a)/\fs.length<=1000/\dx≠a/\h.get? a=some (PySem.W.instObj C dx) /\
   ∃mA,h.Ns1 dx mA/\(∀f,uB (fs.lookup f) (mA f))/\PySem.Within mA (fs.map (·.1))
 | .own _=>∃o,h.get? a=some o
 | .xd fs=>∃mA,h.Ns1 a mA/\∀f,uB (fs.lookup f) (mA f)
 | .rng lo hi=>∃t u v,h.get? a=some { cls:=.type "range",data:=.fields #[.int lo t,.int hi u,.int 1 v] }
 | .frz o u=>h.get? a=some o/\dL H h a u
 | .tbl ps=>h.get? a=some { cls:=.none,data:=.fields ps }
 | .met f x=>h.get? a=some (PySem.W.methodObj (.ref f) (.ref x))
 | .ext φ=>φ h/\(∃o,h.get? a=some o)/\∀h1 h2:Heap,φ h1->(∀o,h1.get? a=some o->h2.get? a=some o)->φ h2
def mW(H:Hp)(h:Heap):Prop:=∀a o,H a=some o->dL P w H h a o
end
section
variable{P:Program}{w:World}{H H':Hp}{h h':Heap}{a:Addr}{o:HO}
theorem dL.lt(x:dL P w H h a o):a<h.objs.size:=by
 cases o with
 | lst xs=>obtain ⟨_,_,_,_,e⟩:=x;exact aY e
 | tup xs=>obtain ⟨_,_,_,p⟩:=x;exact p.lt
 | dK kvs=>obtain ⟨_,_,_,_,o,_,_,e,_⟩:=x;exact aY e
 | dT kvs=>obtain ⟨_,_,_,_,o,_,_,e,_⟩:=x;exact aY e
 | set S n=>obtain ⟨o,_,_,_,e,_⟩:=x;exact aY e
 | ins C dx fs=>obtain ⟨_,_,_,e,_⟩:=x;exact aY e
 | own y=>obtain ⟨_,e⟩:=x;exact aY e
 | xd fs=>obtain ⟨_,⟨_,_,_,e,_⟩,_⟩:=x;exact aY e
 | rng lo hi=>obtain ⟨_,_,_,e⟩:=x;exact aY e
 | frz ob u=>obtain ⟨e,_⟩:=x;exact aY e
 | tbl ps=>exact aY (show h.get? a=some _ from x)
 | met f y=>exact aY (show h.get? a=some _ from x)
 | ext φ=>obtain ⟨_,⟨_,e⟩,_⟩:=x;exact aY e
theorem Paired.mapP{α β:Type}{F G:α->β->Prop}:∀{l₁:List α}{l₂:List β},Paired F l₁ l₂->(∀a b,F a b->G a b)->Paired G l₁ l₂
 | _,_,.nil,_=>.nil
 | _,_,.cons r t,f=>.cons (f _ _ r) (Paired.mapP t f)
theorem Paired.imp'{α β:Type}{F G:α->β->Prop}(f:∀a b,F a b->G a b){l₁:List α}{l₂:List β}(r:Paired F l₁ l₂):Paired G l₁ l₂:=Paired.mapP r f
theorem dL.stay(x:dL P w H h a o)(k:∀b u,(b=a\/H b=some (.own a))->h.get? b=some u->h'.get? b=some u)
  (ho:∀b,H b=some (.own a)->H' b=some (.own a)) (ht:∀b xs,H b=some (.tup xs)->H' b=some (.tup xs)):dL P w H' h' a o:=by
 induction o with
 | lst xs=>obtain ⟨z,its,n,r,e⟩:=x;exact ⟨z,its,n,r,k _ _ (.inl rfl) e⟩
 | tup xs=>obtain ⟨⟨z,on,en,dn⟩,its,r,ob,e,c⟩:=x;exact ⟨⟨z,on,k _ _ (.inl rfl) en,dn⟩,its,r,ob,k _ _ (.inl rfl) e,c⟩
 | dK kvs=>obtain ⟨z,y,vs,r,ob,es,ep,e,c⟩:=x;exact ⟨z,y,vs,r,ob,es,ep,k _ _ (.inl rfl) e,c⟩
 | dT kvs =>
  obtain ⟨z,y,xs,r,ob,es,ep,e,c⟩:=x;exact ⟨z,y,xs,Paired.mapP r λp q z=>⟨z.1,ht _ _ z.2.1,z.2.2⟩,ob,es,ep,k _ _ (.inl rfl) e,c⟩
 | set S n=>obtain ⟨ob,es,ep,t,e,c⟩:=x;exact ⟨ob,es,ep,t,k _ _ (.inl rfl) e,c⟩
 | ins C dx fs =>
  obtain ⟨d,z,ne,e,mA,⟨od,es,ep,e2,c⟩,r⟩:=x;exact ⟨ho _ d,z,ne,k _ _ (.inl rfl) e,mA,⟨od,es,ep,k _ _ (.inr d) e2,c⟩,r⟩
 | own y=>obtain ⟨ob,e⟩:=x;exact ⟨ob,k _ _ (.inl rfl) e⟩
 | xd fs=>obtain ⟨mA,⟨od,es,ep,e,c⟩,r⟩:=x;exact ⟨mA,⟨od,es,ep,k _ _ (.inl rfl) e,c⟩,r⟩
 | rng lo hi=>obtain ⟨t,u,v,e⟩:=x;exact ⟨t,u,v,k _ _ (.inl rfl) e⟩
 | frz ob u ih=>obtain ⟨e,q⟩:=x;exact ⟨k _ _ (.inl rfl) e,ih q⟩
 | tbl ps =>
  have e:h.get? a=some { cls:=.none,data:=.fields ps }:=x;show h'.get? a=some { cls:=.none,data:=.fields ps };exact k a _ (.inl rfl) e
 | met f y =>
  have e:h.get? a=some (PySem.W.methodObj (.ref f) (.ref y)):=x;show h'.get? a=some (PySem.W.methodObj (.ref f) (.ref y));exact k a _ (.inl rfl) e
 | ext φ=>obtain ⟨p,⟨o,e⟩,st⟩:=x;exact ⟨st _ _ p λo q=>k _ _ (.inl rfl) q,⟨o,k _ _ (.inl rfl) e⟩,st⟩
theorem mW.lt(x:mW P w H h)(e:H a=some o):a<h.objs.size:=(x a o e).lt
theorem mW.fresh(x:mW P w H h)(e:h.objs.size<=a):H a=none:=by
 cases q:H a with
 | none=>rfl
 | some u=>exact absurd (aZ (x.lt q) e) (cP _)
theorem mW.kept(x:mW P w H h)(k:∀b u,h.get? b=some u->h'.get? b=some u):mW P w H h':=λa o e =>
 (x a o e).stay (λb u _ q=>k b u q) (λ_ q=>q) λ_ _ q=>q
theorem mW.laid(x:mW P w H h)(k:∀b u,h.get? b=some u->h'.get? b=some u)(hp:h.objs.size<=a)(new:dL P w (upd H a o) h' a o):mW P w (upd H a o) h':=λb u e=>by
 have hn:=x.fresh hp;by_cases hb:b=a
 ·subst hb;rw [bL] at e;cases e;exact new
 ·rw [bU hb] at e;exact (x b u e).stay (λc v _ q=>k c v q) (λc q=>by rw [bU (fA q hn)];exact q) λc xs q=>by rw [bU (fA q hn)];exact q
end
def Rd(H:Hp)(a:Addr)(u:HO):Prop:=H a=some u\/∃o,H a=some (.frz o u)
theorem Rd.ok{P:Program}{w:World}{H:Hp}{h:Heap}{a:Addr}{u:HO}(r:Rd H a u)(x:mW P w H h):dL P w H h a u:=by
 rcases r with r | ⟨o,r⟩
 ·exact x a u r
 ·obtain ⟨_,q⟩:=x a _ r;exact q
def ZX:Option HO->Prop
 | some (.lst _)=>True
 | some (.dK _)=>True
 | some (.dT _)=>True
 | some (.set _ _)=>True
 | some (.ins _ _ _)=>True
 | some (.ext _)=>True
 | _=>False
section
variable{P:Program}{w:World}{H:Hp}{h h':Heap}{x e:Addr}{o':HO}
theorem mW.write(ok:mW P w H h)(mu:ZX (H x))(he:e=x\/H e=some (.own x))(k:∀b u,b≠e->h.get? b=some u->h'.get? b=some u)(heo:∃u,h'.get? e=some u)
  (new:dL P w (upd H x o') h' x o'):mW P w (upd H x o') h':=λb u q=>by
 have nown:∀c y,H c=some (.own y)->c≠x:=λc y r z=>by subst z;rw [r] at mu;exact mu
 have ntup:∀c xs,H c=some (.tup xs)->c≠x:=λc xs r z=>by subst z;rw [r] at mu;exact mu
 by_cases hb:b=x
 ·subst hb;rw [bL] at q;cases q;exact new
 ·rw [bU hb] at q;by_cases hbe:b=e
  ·have q':H b=some (.own x):=by
    rcases he with z | z
    ·exact absurd (hbe.trans z) hb
    ·rw [hbe];exact z
   rw [q] at q';cases q';obtain ⟨v,hv⟩:=heo;exact ⟨v,by rw [hbe];exact hv⟩
  ·refine (ok b u q).stay (λc v hc r=>k c v ?_ r) (λc r=>by rw [bU (nown c b r)];exact r) λc xs r=>by rw [bU (ntup c xs r)];exact r
   rcases hc with rfl | hc
   ·exact hbe
   ·rintro rfl;rcases he with z | z
    ·exact nown c b hc z
    ·rw [hc] at z;cases z;exact hb rfl
end
structure Un(fs ex:List Addr)(H H':Hp)(h h':Heap):Prop where
 keep:∀b o,h.get? b=some o->H b=none->b ∉ fs->b ∉ ex->h'.get? b=some o
 slot:∀b o,h.get? b=some o->H b=none->b∈fs->b ∉ ex->∃sl,h'.get? b=some { o with slots:=sl }
 free:∀b o,h.get? b=some o->H b=none->b ∉ ex->H' b=none
 there:∀b o,h.get? b=some o->b ∉ ex->∃o',h'.get? b=some o'
 tups:∀b xs,H b=some (.tup xs)->H' b=some (.tup xs)
 frzs:∀b o u,H b=some (.frz o u)->H' b=some (.frz o u)
 tbls:∀b ps,H b=some (.tbl ps)->∃more,H' b=some (.tbl (ps++more))
section
variable{fs fs' ex ex':List Addr}{H H1 H2:Hp}{h h1 h2 h':Heap}{a x e:Addr}{o:HO}
theorem Un.any(u:Un fs ex H H1 h h1){b:Addr}{ob:Obj}(q:h.get? b=some ob)(n:H b=none)(hx:b ∉ ex):∃sl,h1.get? b=some { ob with slots:=sl }:=by
 by_cases hb:b∈fs
 ·exact u.slot b ob q n hb hx
 ·exact ⟨ob.slots,u.keep b ob q n hb hx⟩
theorem Un.kept(k:∀b u,h.get? b=some u->h'.get? b=some u):Un fs ex H H h h' :=
 ⟨λb ob q _ _ _=>k b ob q,λb ob q _ _ _=>⟨ob.slots,k b ob q⟩,λ_ _ _ n _=>n,λb ob q _=>⟨ob,k b ob q⟩,λ_ _ q=>q,λ_ _ _ q=>q,λ_ ps q=>⟨#[],by rw [q];simp⟩⟩
theorem Un.refl:Un fs ex H H h h:=Un.kept λ_ _ q=>q
theorem Un.laid(k:∀b u,h.get? b=some u->h'.get? b=some u)(hp:h.objs.size<=a)(hn:H a=none):Un fs ex H (upd H a o) h h' where
 keep:=λb u q _ _ _=>k b u q
 slot:=λb u q _ _ _=>⟨u.slots,k b u q⟩
 free:=λb u q n _=>by rw [bU (bT (aZ (aY q) hp))];exact n
 there:=λb u q _=>⟨u,k b u q⟩
 tups:=λb xs q=>by rw [bU (fA q hn)];exact q
 frzs:=λb u xs q=>by rw [bU (fA q hn)];exact q
 tbls:=λb ps q=>⟨#[],by rw [bU (fA q hn),q];simp⟩
theorem Un.write(mu:ZX (H x))(he:e=x\/H e=some (.own x))(k:∀b u,b≠e->h.get? b=some u->h'.get? b=some u)(heo:∃u,h'.get? e=some u):Un fs ex H (upd H x o) h h':=by
 have hx:∀b,H b=none->b≠x:=λb n z=>by subst z;rw [n] at mu;exact mu
 have hb:∀b,H b=none->b≠e:=λb n z=>by
  subst z;rcases he with r | r
  ·exact hx b n r
  ·rw [n] at r;cases r
 have hm:∀b u,H b=some u->¬ZX (some u)->b≠x:=λb u q nm z=>by subst z;rw [q] at mu;exact nm mu
 refine ⟨λb u q n _ _=>k b u (hb b n) q,λb u q n _ _=>⟨u.slots,k b u (hb b n) q⟩,λb u q n _=>by rw [bU (hx b n)];exact n,λb u q _=>?_,
  λb xs q=>by rw [bU (hm b _ q λz=>z)];exact q,λb u xs q=>by rw [bU (hm b _ q λz=>z)];exact q,λb ps q=>⟨#[],by rw [bU (hm b _ q λz=>z),q];simp⟩⟩
 by_cases hbe:b=e
 ·subst hbe;exact heo
 ·exact ⟨u,k b u hbe q⟩
end
def trk(h:Heap)(H:Hp):List Addr:=(List.range h.objs.size).filter λa=>(H a).isSome
def tL(h:Heap)(H:Hp):Heap:=PySem.W.hideAll h (trk h H)
theorem vH(h:Heap)(H:Hp):(tL h H).objs.size=h.objs.size:=PySem.W.hideAll_size _ _
theorem tK{h:Heap}{H:Hp}{b:Addr}{o:Obj}(e:h.get? b=some o)(n:H b=none):(tL h H).get? b=some o :=
 PySem.W.hideAll_get _ e λhm=>by
  have q:(H b).isSome=true:=(dC.mp hm).2;rw [n] at q;simp at q
theorem DQ{h:Heap}{H:Hp}{b:Addr}{o:Obj}(e:(tL h H).get? b=some o):h.get? b=some o/\H b=none:=by
 have e':h.get? b=some o:=PySem.W.of_hideAll (trk h H) e;refine ⟨e',?_⟩;cases q:H b with
 | none=>rfl
 | some x =>
  have hm:b∈trk h H:=dC.mpr ⟨cU.mpr (aY e'),by simp [q]⟩;have z:(tL h H).get? b=none:=PySem.W.hideAll_none (trk h H) hm;rw [z] at e;cases e
structure IA(K:PySem.W.Frag)(mg:Str->Option Value)(base:Heap):Prop where
 kin:K.In base
 glob:base.Ns mainGlobals mg
 blt:∃mb,base.Ns builtinsNs mb/\∀x:Str,x ≠ "__name__" -> mb x=bootBuiltins x
 nolimit:base.NoLimit
/-- the context: a def's body (or a comprehension's block) running. base: fixed through the whole law;s₀,H₀: the entry;outer: the frames whose slots others may change (a def's callers);stack: all frames that run;
   ex: iterators that were made ahead of the entry and are walked here (a comprehension's);fn: the names whose cells were made at the entry (a def: all;a comprehension's block: its own);calm: not within an except suite;pn: pins that every state bears;xe: what is wanted of an exception that leaves the code -/
structure Cx where
 prog:Program
 w:World
 K:PySem.W.Frag
 mg:Str->Option Value
 base:Heap
 A:Around
 N:List Str
 s₀:Shared
 H₀:Hp
 env:Env
 outer:List Env
 stack:List Env
 ex:List Addr
 fn:Str->Bool
 calm:Bool
 pn:List (Addr × Obj)
 xe:Value->Shared->Prop
def frs(l:List Env):List Addr:=l.filterMap (·.frame)
abbrev Cx.fs(X:Cx):List Addr:=frs X.outer
def Vis(sc:Scope)(x:Str):Prop:=sc.names.lookup x=some .local\/sc.names.lookup x=some .cell\/sc.names.lookup x=some .free
def XM(sc:Scope)(x:Str):Prop:=sc.names.lookup x=some .local\/sc.names.lookup x=some .cell
def aBK(env:Env)(h:Heap)(m:Str->Option Value)(x:Str)(u:Value):Prop :=
 (env.kindOf x=some .local/\m x=some u)\/((env.kindOf x=some .cell\/env.kindOf x=some .free)/\∃c,env.cells.lookup x=some c/\h.IsCell c (some u))
structure Cx.Ok(X:Cx):Prop where
 mod:IA X.K X.mg X.base
 kind:X.env.scope.kind=.function
 glob:X.env.globals=mainGlobals
 blt:X.env.builtins=builtinsNs
 above:X.s₀.heap.objs.size<=X.env.locals
 inj:∀x y c,X.env.cells.lookup x=some c->X.env.cells.lookup y=some c->x=y
 has:∀x,(X.env.kindOf x=some .cell\/X.env.kindOf x=some .free)->∃c,X.env.cells.lookup x=some c
 cab:∀x c,X.fn x=true->X.env.cells.lookup x=some c->X.s₀.heap.objs.size<=c
 hd:X.calm=true->X.A.handled=none
 frames:X.A.frames=some X.stack
 stk:X.stack=X.outer\/(X.stack=X.env::X.outer/\X.env.frame=some X.env.locals)
 exf:∀b∈X.ex,b≠X.env.locals/\∀x c,X.env.cells.lookup x=some c->c≠b
 bs:∀b o,X.base.get? b=some o->X.s₀.heap.get? b=some o/\X.H₀ b=none
 bsz:X.base.objs.size<=X.s₀.heap.objs.size
 noex:∀b o,X.base.get? b=some o->b ∉ X.ex
 exfs:∀b∈X.ex,b ∉ X.fs
 funs:X.s₀.heap.FunFrames X.base X.outer
 frf:∀b∈X.fs,X.H₀ b=none
structure bY(X:Cx)(pins:List (Addr × Obj))(σ:List (Option V))(H:Hp)(s:Shared):Prop where
 ok:X.Ok
 os:s.os=X.s₀.os
 bare:AllBare s.gens
 base:Un X.fs X.ex X.H₀ H X.s₀.heap s.heap
 loc:∃m,s.heap.Ns X.env.locals m/\∀(i:Nat) (x:Str) (v:V),X.N[i]?=some x->σ[i]?=some (some v)->Vis X.env.scope x->∃u,cW v u/\aBK X.env s.heap m x u
 cell:∀x c,X.env.cells.lookup x=some c->∃v,s.heap.IsCell c v
 free:H X.env.locals=none
 freeC:∀x c,X.env.cells.lookup x=some c->H c=none
 pin:∀p∈X.pn++pins,s.heap.get? p.1=some p.2/\H p.1=none/\p.1≠X.env.locals/\p.1 ∉ X.fs/\∀v,p.2.data ≠ .cell v
 hok:mW X.prog X.w H s.heap
 len:σ.length=X.N.length
section
variable{X:Cx}{pins:List (Addr × Obj)}{σ:List (Option V)}{H H':Hp}{s:Shared}{h':Heap}
theorem Cx.Ok.nofr(ok:X.Ok){b:Addr}{o:Obj}(e:X.base.get? b=some o):b ∉ X.fs:=λhb=>by
 have:=(ok.funs.mem hb).1;rw [e] at this;cases this
theorem bY.bs(I:bY X pins σ H s):∀b o,X.base.get? b=some o->s.heap.get? b=some o/\H b=none:=λb o e =>
 ⟨I.base.keep b o (I.ok.bs b o e).1 (I.ok.bs b o e).2 (I.ok.nofr e) (I.ok.noex b o e),I.base.free b o (I.ok.bs b o e).1 (I.ok.bs b o e).2 (I.ok.noex b o e)⟩
theorem bY.bk(I:bY X pins σ H s):∀b o,X.base.get? b=some o->s.heap.get? b=some o:=λb o e=>(I.bs b o e).1
theorem bY.mod(I:bY X pins σ H s):IA X.K X.mg X.base:=I.ok.mod
theorem bY.kIn(I:bY X pins σ H s):X.K.In s.heap:=I.ok.mod.kin.keeps I.bk
theorem bY.lt(I:bY X pins σ H s):X.env.locals<s.heap.objs.size:=let ⟨_,hn,_⟩:=I.loc;hn.lt
theorem bY.sz(I:bY X pins σ H s):X.s₀.heap.objs.size<=s.heap.objs.size:=bC I.ok.above (Nat.le_of_lt I.lt)
theorem bY.nofs(I:bY X pins σ H s){a:Addr}(h:s.heap.objs.size<=a):a ∉ X.fs:=λhb=>by
 obtain ⟨_,o,ho,_⟩:=I.ok.funs.mem hb;exact absurd (aZ (aY ho) (bC I.sz h)) (cP _)
theorem bY.cne(I:bY X pins σ H s):∀x c,X.env.cells.lookup x=some c->c≠X.env.locals:=λx c e z=>by
 obtain ⟨v,o,ho,hd⟩:=I.cell x c e;obtain ⟨m,⟨o',es,ep,ho',hd',_⟩,_⟩:=I.loc;rw [z,ho'] at ho;cases ho;rw [hd'] at hd;cases hd
theorem bY.funs(I:bY X pins σ H s):s.heap.FunFrames X.base X.outer:=by
 have all:∀(l:List Env),(∀b∈frs l,b∈X.fs)->X.s₀.heap.FunFrames X.base l->s.heap.FunFrames X.base l:=by
  intro l
  induction l with
  | nil=>intro _ _;trivial
  | cons env r ih =>
   intro hs hl;obtain ⟨hk,⟨L,o,hf,hn,ho,hd⟩,hr⟩:=hl;have hL:L∈X.fs:=hs L (by unfold frs;rw [List.filterMap_cons,hf];exact aF);obtain ⟨sl,e⟩:=I.base.slot L o ho (I.ok.frf L hL) hL λz=>I.ok.exfs L z hL;exact ⟨hk,⟨L,_,hf,hn,e,hd⟩,ih (λb hb=>hs b (by unfold frs;rw [List.filterMap_cons,hf];exact aD _ hb)) hr⟩
 exact all X.outer (λ_ hb=>hb) I.ok.funs
theorem bY.stack(I:bY X pins σ H s):s.heap.FunFrames X.base X.stack:=by
 rcases I.ok.stk with e | ⟨e,hf⟩
 ·rw [e];exact I.funs
 ·rw [e];obtain ⟨m,hn,_⟩:=I.loc;refine .cons (by rw [I.ok.kind];decide) hf hn ?_ I.funs;exact Heap.get?_none_of_le (bC I.ok.bsz I.ok.above)
theorem bY.stkSub(I:bY X pins σ H s):∀b∈frs X.stack,b∈X.env.locals::X.fs:=λb hb=>by
 rcases I.ok.stk with e | ⟨e,hf⟩
 ·rw [e] at hb;exact aD _ hb
 ·rw [e] at hb;unfold frs at hb;rw [List.filterMap_cons,hf] at hb;exact hb
theorem bY.stkFree(I:bY X pins σ H s):∀b∈frs X.stack,H b=none:=λb hb=>by
 rcases aR.mp (I.stkSub b hb) with e | hb
 ·rw [e];exact I.free
 ·obtain ⟨_,o,ho,_⟩:=I.ok.funs.mem hb;exact I.base.free b o ho (I.ok.frf b hb) λz=>I.ok.exfs b z hb
theorem bY.step{g':Array GenState}{t':Nat}{d':Drawn}{ch:List Addr}(I:bY X pins σ H s)
  (hch:∀b∈ch,(b∈X.ex\/X.s₀.heap.objs.size<=b)/\b≠X.env.locals/\(∀x c,X.env.cells.lookup x=some c->c≠b)/\∀p∈X.pn++pins,p.1≠b)
  (keep:∀b o,b≠X.env.locals->b ∉ X.fs->b ∉ ch->s.heap.get? b=some o->H b=none->h'.get? b=some o)
  (slot:∀b o,b≠X.env.locals->b∈X.fs->b ∉ ch->s.heap.get? b=some o->H b=none->∃sl,h'.get? b=some { o with slots:=sl }) (free:∀b o,b ∉ ch->s.heap.get? b=some o->H b=none->H' b=none)
  (there:∀b o,b ∉ ch->s.heap.get? b=some o->∃o',h'.get? b=some o')
  (tups:∀b xs,H b=some (.tup xs)->H' b=some (.tup xs)) (frzs:∀b o u,H b=some (.frz o u)->H' b=some (.frz o u)) (tbls:∀b ps,H b=some (.tbl ps)->∃more,H' b=some (.tbl (ps++more)))
  (ns:∀m,s.heap.Ns X.env.locals m->h'.Ns X.env.locals m) (hok:mW X.prog X.w H' h') (hg:AllBare g') :
  bY X pins σ H' { s with heap:=h',gens:=g',drawn:=d',toks:=t' }:=by
 have neL:∀b o,X.s₀.heap.get? b=some o->b≠X.env.locals:=λb o e=>bT (aZ (aY e) I.ok.above);have neC:∀b o,X.s₀.heap.get? b=some o->b ∉ X.ex->b ∉ ch:=λb o e hx hb=>by
  rcases (hch b hb).1 with z | z
  ·exact hx z
  ·exact absurd (aZ (aY e) z) (cP _)
 have cellK:∀x c,X.env.cells.lookup x=some c->∀v,s.heap.IsCell c v->h'.IsCell c v:=λx c e v ⟨o,ho,hd⟩=>by
  have nch:c ∉ ch:=λz=>(hch c z).2.2.1 x c e rfl;by_cases hc:c∈X.fs
  ·obtain ⟨sl,q⟩:=slot c o (I.cne x c e) hc nch ho (I.freeC x c e);exact ⟨_,q,hd⟩
  ·exact ⟨o,keep c o (I.cne x c e) hc nch ho (I.freeC x c e),hd⟩
 refine ⟨I.ok,I.os,hg,⟨λb o e n hb hx=>?_,λb o e n hb hx=>?_,λb o e n hx=>?_,λb o e hx=>?_,λb xs e=>tups b xs (I.base.tups b xs e),λb o xs e=>frzs b o xs (I.base.frzs b o xs e),λb ps e=>?_⟩,?_,λx c e=>?_,?_,λx c e=>?_,λp hp=>?_,hok,I.len⟩
 ·exact keep b o (neL b o e) hb (neC b o e hx) (I.base.keep b o e n hb hx) (I.base.free b o e n hx)
 ·obtain ⟨sl,e1⟩:=I.base.slot b o e n hb hx;obtain ⟨sl',e2⟩:=slot b _ (neL b o e) hb (neC b o e hx) e1 (I.base.free b o e n hx);exact ⟨sl',e2⟩
 ·obtain ⟨o',e1⟩:=I.base.there b o e hx;exact free b o' (neC b o e hx) e1 (I.base.free b o e n hx)
 ·obtain ⟨o',e1⟩:=I.base.there b o e hx;exact there b o' (neC b o e hx) e1
 ·obtain ⟨m1,e1⟩:=I.base.tbls b ps e;obtain ⟨m2,e2⟩:=tbls b _ e1;exact ⟨m1++m2,by rw [e2,Array.append_assoc]⟩
 ·obtain ⟨m,hn,hl⟩:=I.loc;refine ⟨m,ns m hn,λi x v e1 e2 e3=>?_⟩;obtain ⟨u,r,l⟩:=hl i x v e1 e2 e3;refine ⟨u,r,?_⟩;rcases l with l | ⟨k,c,e,z⟩
  ·exact .inl l
  ·exact .inr ⟨k,c,e,cellK x c e _ z⟩
 ·obtain ⟨v,z⟩:=I.cell x c e;exact ⟨v,cellK x c e v z⟩
 ·obtain ⟨m,⟨o,_,_,ho,_⟩,_⟩:=I.loc;exact free _ o (λz=>(hch _ z).2.1 rfl) ho I.free
 ·obtain ⟨v,o,ho,hd⟩:=I.cell x c e;exact free c o (λz=>(hch c z).2.2.1 x c e rfl) ho (I.freeC x c e)
 ·obtain ⟨e,n,ne,nf,d⟩:=I.pin p hp;have nch:p.1 ∉ ch:=λz=>(hch p.1 z).2.2.2 p hp rfl;exact ⟨keep p.1 p.2 ne nf nch e n,free p.1 p.2 nch e n,ne,nf,d⟩
theorem bY.un{t':Nat}(I:bY X pins σ H s)(u:Un X.fs [] H H' s.heap h')(hok:mW X.prog X.w H' h'):bY X pins σ H' { s with heap:=h',toks:=t' }:=by
 obtain ⟨m,⟨o,es,ep,ho,r⟩,_⟩:=id I.loc;obtain ⟨sl,hL⟩:=u.any ho I.free (by simp);exact I.step (g':=s.gens) (d':=s.drawn) (ch:=[]) (λ_ z=>nomatch z) (λb o _ hb _ e n=>u.keep b o e n hb (by simp)) (λb o _ hb _ e n=>u.slot b o e n hb (by simp)) (λb o _ e n=>u.free b o e n (by simp)) (λb o _ e=>u.there b o e (by simp)) u.tups u.frzs u.tbls (λm' hm=>by
  obtain ⟨o',es',ep',ho',r'⟩:=hm;rw [ho] at ho';cases ho';exact ⟨_,es',ep',hL,r'⟩) hok I.bare
theorem bY.call{g':Array GenState}{t':Nat}{d':Drawn}{ch:List Addr}(I:bY X pins σ H s)(u:Un (frs X.stack) ch H H' s.heap h')(hok:mW X.prog X.w H' h')(hg:AllBare g')
  (hch:∀b∈ch,(b∈X.ex\/X.s₀.heap.objs.size<=b)/\b≠X.env.locals/\(∀x c,X.env.cells.lookup x=some c->c≠b)/\∀p∈X.pn++pins,p.1≠b) :
  bY X pins σ H' { s with heap:=h',gens:=g',drawn:=d',toks:=t' }:=by
 obtain ⟨m,⟨o,es,ep,ho,r⟩,_⟩:=id I.loc;obtain ⟨sl,hL⟩:=u.any ho I.free λz=>(hch _ z).2.1 rfl;exact I.step (ch:=ch) hch (λb o hL hb hc e n=>u.keep b o e n (λz=>(aR.mp (I.stkSub b z)).elim hL hb) hc) (λb o _ _ hc e n=>u.any e n hc) (λb o hc e n=>u.free b o e n hc) (λb o hc e=>u.there b o e hc) u.tups u.frzs u.tbls (λm' hm=>by
  obtain ⟨o',es',ep',ho',r'⟩:=hm;rw [ho] at ho';cases ho';exact ⟨_,es',ep',hL,r'⟩) hok hg
theorem bY.turned{t':Nat}{it:Addr}(I:bY X pins σ H s)(k:∀b o,b≠it->s.heap.get? b=some o->h'.get? b=some o)(hn:H it=none)(hL:it≠X.env.locals)
  (h1:it∈X.ex\/X.s₀.heap.objs.size<=it) (h2:∀x c,X.env.cells.lookup x=some c->c≠it) (h3:∀p∈X.pn++pins,p.1≠it):bY X pins σ H { s with heap:=h',toks:=t' }:=by
 have nit:∀b u,H b=some u->b≠it:=λb u e z=>by rw [z,hn] at e;cases e
 refine I.step (g':=s.gens) (d':=s.drawn) (ch:=[it]) (λb hb=>?_) (λb o _ _ hc e _=>k b o (λz=>hc (by simp [z])) e) (λb o _ _ hc e _=>⟨o.slots,k b o (λz=>hc (by simp [z])) e⟩) (λ_ _ _ _ n=>n)
  (λb o hc e=>⟨o,k b o (λz=>hc (by simp [z])) e⟩) (λ_ _ e=>e) (λ_ _ _ e=>e) (λb ps e=>⟨#[],by rw [e];simp⟩) (λm hm=>?_) (λb u e=>?_) I.bare
 ·have e:b=it:=by simpa using hb
  subst e;exact ⟨h1,hL,h2,h3⟩
 ·obtain ⟨o,es,ep,ho,r⟩:=hm;exact ⟨o,es,ep,k _ o (Ne.symm hL) ho,r⟩
 ·refine (I.hok b u e).stay (λc v hc q=>k c v ?_ q) (λ_ q=>q) λ_ _ q=>q;rcases hc with z | z
  ·rw [z];exact nit b u e
  ·exact nit c _ z
theorem bY.tok(I:bY X pins σ H s)(t:Nat):bY X pins σ H { s with toks:=t }:=I.un (h':=s.heap) (t':=t) Un.refl I.hok
theorem bY.kept{t':Nat}(I:bY X pins σ H s)(k:∀b u,s.heap.get? b=some u->h'.get? b=some u):bY X pins σ H { s with heap:=h',toks:=t' }:=I.un (Un.kept k) (I.hok.kept k)
theorem bY.laid{a:Addr}{o:HO}{t':Nat}(I:bY X pins σ H s)(k:∀b u,s.heap.get? b=some u->h'.get? b=some u)(hp:s.heap.objs.size<=a)(new:dL X.prog X.w (upd H a o) h' a o) :
  bY X pins σ (upd H a o) { s with heap:=h',toks:=t' }:=I.un (Un.laid k hp (I.hok.fresh hp)) (I.hok.laid k hp new)
theorem bY.write{x e:Addr}{o:HO}{t':Nat}(I:bY X pins σ H s)(mu:ZX (H x))(he:e=x\/H e=some (.own x))(k:∀b u,b≠e->s.heap.get? b=some u->h'.get? b=some u)(heo:∃u,h'.get? e=some u)
  (new:dL X.prog X.w (upd H x o) h' x o):bY X pins σ (upd H x o) { s with heap:=h',toks:=t' }:=I.un (Un.write mu he k heo) (I.hok.write mu he k heo new)
theorem bY.pins_of{pins':List (Addr × Obj)}(I:bY X pins σ H s)(h:∀p∈pins',s.heap.get? p.1=some p.2/\H p.1=none/\p.1≠X.env.locals/\p.1 ∉ X.fs/\∀v,p.2.data ≠ .cell v):bY X pins' σ H s :=
 ⟨I.ok,I.os,I.bare,I.base,I.loc,I.cell,I.free,I.freeC,λp hp=>(bE.mp hp).elim (λz=>I.pin p (bO _ z)) (h p),I.hok,I.len⟩
theorem yO{N:List Str}(hN:N.Nodup){i j:Nat}{x:Str}(a:N[i]?=some x)(b:N[j]?=some x):i=j:=by
 obtain ⟨h1,e1⟩:=bN.mp a;obtain ⟨h2,e2⟩:=bN.mp b;exact (List.getElem_inj hN).mp (e1.trans e2.symm)
theorem FO{M:Model}{A:Around}{E:Value->Shared->Prop}{i:Nat}{x:Str}{v:V}{u:Value}{Q:Unit->Shared->Prop}(I:bY X pins σ H s)(hN:X.N.Nodup)(hi:X.N[i]?=some x)(hx:XM X.env.scope x)(r:cW v u)
  (h:∀s',bY X pins (σ.set i (some v)) H s'->(∃a,Heap.SameBut a s.heap s'.heap/\(a=X.env.locals\/X.env.cells.lookup x=some a))->Q () s') (hf:X.fn x=true\/X.env.scope.names.lookup x=some .local:=by first | exact .inl rfl | exact .inr rfl | assumption):wpAny M A (storeName X.env x u) Q E s:=by
 obtain ⟨m,hn,hl⟩:=id I.loc;have hcls:(X.env.scope.kind == .class || (X.env.scope.kind == .module&&X.env.locals != X.env.globals))=false:=by rw [I.ok.kind];rfl
 have hiσ:i<σ.length:=by rw [I.len];exact (bN.mp hi).1
 have cne:=I.cne;have tracked:∀{a:Addr} {h':Heap},(∃o,s.heap.get? a=some o/\H a=none)->Heap.SameBut a s.heap h'->mW X.prog X.w H h':=λ{a h'} ha hs b ob e=>by
  obtain ⟨_,_,hfree⟩:=ha;refine (I.hok b ob e).stay (λc w' hc q=>(hs.2 c ?_).trans q) (λ_ q=>q) λ_ _ q=>q;rintro rfl;rcases hc with rfl | hc
  ·rw [hfree] at e;cases e
  ·rw [hfree] at hc;cases hc
 rcases hx with hk | hk
 ·refine wpAny_storeName_local hk hn (λh' hn' hs=>?_) hcls;obtain ⟨oL,_,_,hoL,_⟩:=id hn;refine h _ ⟨I.ok,I.os,I.bare,⟨λb o e n hb hx=>?_,λb o e n hb hx=>?_,I.base.free,λb o e hx=>?_,I.base.tups,I.base.frzs,I.base.tbls⟩,⟨_,hn',λj y v' e1 e2 e3=>?_⟩,λy c e=>?_,I.free,I.freeC,λp hp=>?_,tracked ⟨oL,hoL,I.free⟩ hs,by simpa using I.len⟩ ⟨_,hs,.inl rfl⟩
  ·exact (hs.2 b (bT (aZ (aY e) I.ok.above))).trans (I.base.keep b o e n hb hx)
  ·obtain ⟨sl,e1⟩:=I.base.slot b o e n hb hx;exact ⟨sl,(hs.2 b (bT (aZ (aY e) I.ok.above))).trans e1⟩
  ·obtain ⟨o',e1⟩:=I.base.there b o e hx;exact ⟨o',(hs.2 b (bT (aZ (aY e) I.ok.above))).trans e1⟩
  ·by_cases hj:j=i
   ·subst hj;rw [hi] at e1;cases e1;rw [List.getElem?_set_self hiσ] at e2;cases e2;exact ⟨u,r,.inl ⟨hk,by simp⟩⟩
   ·rw [List.getElem?_set_ne (Ne.symm hj)] at e2;obtain ⟨u',r',q⟩:=hl j y v' e1 e2 e3;refine ⟨u',r',?_⟩;rcases q with ⟨k,e⟩ | ⟨k,c,e,z⟩
    ·refine .inl ⟨k,?_⟩;have:y≠x:=λe=>hj (yO hN e1 (e ▸ hi));simp [this,e]
    ·exact .inr ⟨k,c,e,z.sameBut hs (cne y c e)⟩
  ·obtain ⟨w',z⟩:=I.cell y c e;exact ⟨w',z.sameBut hs (cne y c e)⟩
  ·obtain ⟨e,n,ne,nf,d⟩:=I.pin p hp;exact ⟨(hs.2 p.1 ne).trans e,n,ne,nf,d⟩
 ·have hfn:X.fn x=true:=by
   rcases hf with z | z
   ·exact z
   ·rw [z] at hk;cases hk
  obtain ⟨c,hc⟩:=I.ok.has x (.inl hk);obtain ⟨w',z⟩:=I.cell x c hc;refine wpAny_storeName_cell I.ok.kind hk hc z (λh' hc' hs=>?_);obtain ⟨oc,hoc,hocd⟩:=id z;refine h { s with heap:=h' } ⟨I.ok,I.os,I.bare,⟨λb o e n hb hx=>?_,λb o e n hb hx=>?_,I.base.free,λb o e hx=>?_,I.base.tups,I.base.frzs,I.base.tbls⟩,⟨m,hn.sameBut hs (Ne.symm (cne x c hc)),λj y v' e1 e2 e3=>?_⟩,λy c' e=>?_,I.free,I.freeC,λp hp=>?_,tracked ⟨oc,hoc,I.freeC x c hc⟩ hs,by simpa using I.len⟩ ⟨c,hs,.inr hc⟩
  ·exact (hs.2 b (bT (aZ (aY e) (I.ok.cab x c hfn hc)))).trans (I.base.keep b o e n hb hx)
  ·obtain ⟨sl,e1⟩:=I.base.slot b o e n hb hx;exact ⟨sl,(hs.2 b (bT (aZ (aY e) (I.ok.cab x c hfn hc)))).trans e1⟩
  ·obtain ⟨o',e1⟩:=I.base.there b o e hx;exact ⟨o',(hs.2 b (bT (aZ (aY e) (I.ok.cab x c hfn hc)))).trans e1⟩
  ·by_cases hj:j=i
   ·subst hj;rw [hi] at e1;cases e1;rw [List.getElem?_set_self hiσ] at e2;cases e2;exact ⟨u,r,.inr ⟨.inl hk,c,hc,hc'⟩⟩
   ·rw [List.getElem?_set_ne (Ne.symm hj)] at e2;obtain ⟨u',r',q⟩:=hl j y v' e1 e2 e3;refine ⟨u',r',?_⟩;rcases q with q | ⟨k,c',e,z'⟩
    ·exact .inl q
    ·refine .inr ⟨k,c',e,z'.sameBut hs ?_⟩;rintro rfl;exact hj (yO hN e1 (I.ok.inj _ _ _ e hc ▸ hi))
  ·by_cases hcc:c'=c
   ·subst hcc;exact ⟨_,hc'⟩
   ·obtain ⟨w2,z2⟩:=I.cell y c' e;exact ⟨w2,z2.sameBut hs hcc⟩
  ·obtain ⟨e,n,ne,nf,d⟩:=I.pin p hp;refine ⟨(hs.2 p.1 ?_).trans e,n,ne,nf,d⟩;intro q;rw [q,hoc] at e;have q':oc=p.2:=eB e;exact d w' (by rw [<-q'];exact hocd)
theorem lT{M:Model}{A:Around}{E:Value->Shared->Prop}{i:Nat}{x:Str}{v:V}{u:Value}{Q:Unit->Shared->Prop}(I:bY X pins σ H s)(hN:X.N.Nodup)(hi:X.N[i]?=some x)(hx:XM X.env.scope x)(r:cW v u)
  (h:∀s',bY X pins (σ.set i (some v)) H s'->Q () s') (hf:X.fn x=true\/X.env.scope.names.lookup x=some .local:=by first | exact .inl rfl | exact .inr rfl | assumption):wpAny M A (storeName X.env x u) Q E s :=
 FO I hN hi hx r (λs' I' _=>h s' I') hf
theorem bY.call'{s':Shared}{ch:List Addr}(I:bY X pins σ H s)(ho:s'.os=s.os)(u:Un (frs X.stack) ch H H' s.heap s'.heap)(hok:mW X.prog X.w H' s'.heap)(hg:AllBare s'.gens)
  (hch:∀b∈ch,(b∈X.ex\/X.s₀.heap.objs.size<=b)/\b≠X.env.locals/\(∀x c,X.env.cells.lookup x=some c->c≠b)/\∀p∈X.pn++pins,p.1≠b):bY X pins σ H' s':=by
 obtain ⟨h',g',d',t',o'⟩:=s';have e:o'=s.os:=ho;subst e;exact I.call (g':=g') (t':=t') (d':=d') u hok hg hch
end
abbrev XK:=Value->Option Addr->Hp->Prop
abbrev St:=List (Option V)
abbrev VK:=V->Hp->Prop
abbrev TE:=St->Hp->VK->Prop
abbrev TT:=St->Hp->(Bool->Hp->Prop)->Prop
abbrev TA:=St->Hp->(List V->Hp->Prop)->Prop
structure rR where
 nx:St->Hp->Prop
 rt:VK
 bk:St->Hp->Prop:=λ_ _=>False
 ct:St->Hp->Prop:=λ_ _=>False
abbrev TS:=rR->St->Hp->Prop
def EP(X:Cx)(pins:List (Addr × Obj))(σ:St)(Q:VK)(u:Value)(s':Shared):Prop:=∃v H',bY X pins σ H' s'/\cW v u/\Q v H'
def TP(X:Cx)(pins:List (Addr × Obj))(σ:St)(Q:Bool->Hp->Prop)(b:Bool)(s':Shared):Prop:=∃H',bY X pins σ H' s'/\Q b H'
def AP(X:Cx)(pins:List (Addr × Obj))(σ:St)(Q:List V->Hp->Prop)(us:List Value)(s':Shared):Prop:=∃vs H',bY X pins σ H' s'/\cJ vs us/\Q vs H'
def SP(X:Cx)(pins:List (Addr × Obj))(D:rR)(f:Flow)(s':Shared):Prop :=
 match f with
 | .next=>∃σ' H',bY X pins σ' H' s'/\D.nx σ' H'
 | .brk=>∃σ' H',bY X pins σ' H' s'/\D.bk σ' H'
 | .cont=>∃σ' H',bY X pins σ' H' s'/\D.ct σ' H'
 | .ret u=>∃v σ' H',bY X pins σ' H' s'/\cW v u/\D.rt v H'
def PE(X:Cx)(e:Expr)(t:TE):Prop :=
 ∀(pins:List (Addr × Obj)) (s:Shared) (σ:St) (H:Hp) (Q:VK),bY X pins σ H s->t σ H Q->wpAny (model X.prog X.w) X.A (eval e X.env) (EP X pins σ Q) X.xe s
def PT(X:Cx)(e:Expr)(t:TT):Prop :=
 ∀(pins:List (Addr × Obj)) (s:Shared) (σ:St) (H:Hp) (Q:Bool->Hp->Prop),bY X pins σ H s->t σ H Q->wpAny (model X.prog X.w) X.A (isTrue e X.env (eval e X.env)) (TP X pins σ Q) X.xe s
def PW(X:Cx)(e:Expr)(t:TT):Prop :=
 ∀(whole:Sem Value) (pins:List (Addr × Obj)) (s:Shared) (σ:St) (H:Hp) (Q:Bool->Hp->Prop),bY X pins σ H s->t σ H Q->wpAny (model X.prog X.w) X.A (isTrue e X.env whole) (TP X pins σ Q) X.xe s
theorem PW.pt{X:Cx}{e:Expr}{t:TT}(h:PW X e t):PT X e t:=h _
def PA(X:Cx)(es:List Expr)(t:TA):Prop :=
 ∀(pos:Pos) (pins:List (Addr × Obj)) (s:Shared) (σ:St) (H:Hp) (Q:List V->Hp->Prop),bY X pins σ H s->t σ H Q->wpAny (model X.prog X.w) X.A (spliced (backTo pos (starEach es X.env))) (AP X pins σ Q) X.xe s
def PS(X:Cx)(st:Stmt)(t:TS):Prop :=
 ∀(pins:List (Addr × Obj)) (s:Shared) (σ:St) (H:Hp) (D:rR),bY X pins σ H s->t D σ H->wpAny (model X.prog X.w) X.A (exec st X.env) (SP X pins D) X.xe s
def CK(X:Cx)(st:List Stmt)(t:TS):Prop :=
 ∀(pins:List (Addr × Obj)) (s:Shared) (σ:St) (H:Hp) (D:rR),bY X pins σ H s->t D σ H->wpAny (model X.prog X.w) X.A (execs st X.env) (SP X pins D) X.xe s
theorem thn{α:Type}{t:Sem α}{Q Q':α->Shared->Prop}{M:Model}{A:Around}{E:Value->Shared->Prop}{s:Shared}(h:wpAny M A t Q E s)(hQ:∀a s,Q a s->Q' a s):wpAny M A t Q' E s:=wpAny_mono h hQ λ_ _ x=>x
section
variable{X:Cx}
def MV(i:Nat):TE:=λσ H Q=>∃v,σ[i]?=some (some v)/\Q v H
def tC(v:V):TE:=λ_ H Q=>Q v H
theorem UR{i:Nat}{x:Str}{pos:Pos}(hN:X.N[i]?=some x)(hv:Vis X.env.scope x)(hd:(x == ("__debug__" : Str))=false:=by decide)(hcd:(x == ("__classdict__" : Str))=false:=by decide):PE X (.Name x pos) (MV i):=by
 intro pins s σ H Q I h;obtain ⟨v,e,h⟩:=h;obtain ⟨m,hn,hl⟩:=I.loc;obtain ⟨u,r,l⟩:=hl i x v hN e hv;have fin:EP X pins σ Q u s:=⟨v,H,I,r,h⟩;rcases l with ⟨hk,hm⟩ | ⟨hk,c,hc,hcell⟩
 ·exact wpAny_Name (wpAny_loadName_local I.ok.kind hk hn hm fin) hd
 ·rcases hk with hk | hk
  ·exact wpAny_Name (wpAny_loadName_cell I.ok.kind hk hc hcell fin) hd
  ·exact wpAny_Name (wpAny_loadName_free I.ok.kind hk hc hcell fin hcd) hd
theorem pe_int{i j pos}:PE X (.Constant (.int i) j pos) (tC (.int i)):=λ_ _ _ H _ I h=>wpAny_Constant_int ⟨.int i,H,I.tok _,⟨_,rfl⟩,h⟩
theorem pe_bl{b j pos}:PE X (.Constant (.bool b) j pos) (tC (.bl b)):=λ_ _ _ H _ I h=>Constant_bool ⟨.bl b,H,I,rfl,h⟩
theorem pe_non{j pos}:PE X (.Constant .none j pos) (tC .non):=λ_ _ _ H _ I h=>Constant_none ⟨.non,H,I,rfl,h⟩
theorem pe_str{x j pos}:PE X (.Constant (.str x) j pos) (tC (.str x)):=λ_ _ _ H _ I h=>Calls.Constant_str ⟨.str x,H,I.tok _,⟨_,rfl⟩,h⟩
def Gl(X:Cx)(x:Str):Prop:=X.env.kindOf x=some .globalImplicit
theorem DV{E:Value->Shared->Prop}{pins:List (Addr × Obj)}{s:Shared}{σ:St}{H:Hp}{x:Str}{u:Value}{pos:Pos}{Q:Value->Shared->Prop}(I:bY X pins σ H s)(hg:Gl X x)(hm:X.mg x=some u)(h:Q u s)
  (hd:(x == ("__debug__" : Str))=false:=by decide):wpAny (model X.prog X.w) X.A (eval (.Name x pos) X.env) Q E s :=
 Calls.Name_function_global I.ok.kind hg (Calls.loadGlobal_global (by rw [I.ok.glob];exact I.mod.glob.keeps I.bk) hm h) hd
theorem qB{E:Value->Shared->Prop}{pins:List (Addr × Obj)}{s:Shared}{σ:St}{H:Hp}{x:Str}{u:Value}{pos:Pos}{Q:Value->Shared->Prop}(I:bY X pins σ H s)(hg:Gl X x)(hm:X.mg x=none)(hv:bootBuiltins x=some u)(h:Q u s)
  (hn:x ≠ "__name__" := by decide) (hd:(x == ("__debug__" : Str))=false:=by decide):wpAny (model X.prog X.w) X.A (eval (.Name x pos) X.env) Q E s:=by
 obtain ⟨mb,h1,h2⟩:=I.mod.blt;exact Calls.Name_function_global I.ok.kind hg (Calls.loadGlobal_builtin (by rw [I.ok.glob];exact I.mod.glob.keeps I.bk) hm (by rw [I.ok.blt];exact h1.keeps I.bk) ((h2 x hn).trans hv) h) hd
theorem ON{x:Str}{v:V}{u:Value}{pos:Pos}(hg:Gl X x)(hm:X.mg x=some u)(r:cW v u)(hd:(x == ("__debug__" : Str))=false:=by decide):PE X (.Name x pos) (tC v) :=
 λ_ _ _ H _ I h=>DV I hg hm ⟨v,H,I,r,h⟩ hd
theorem OT{x:Str}{v:V}{u:Value}{pos:Pos}(hg:Gl X x)(hm:X.mg x=none)(hv:bootBuiltins x=some u)(r:cW v u)(hn:x ≠ "__name__" := by decide)(hd:(x == ("__debug__" : Str))=false:=by decide):PE X (.Name x pos) (tC v) :=
 λ_ _ _ H _ I h=>qB I hg hm hv ⟨v,H,I,r,h⟩ hn hd
variable{a b:Expr}{ta tb:TE}{pos:Pos}
def tB(t:TE):TT:=λσ H Q=>t σ H λx H1=>∃c,x=.bl c/\Q c H1
theorem UG{e:Expr}{t:TE}(h:PE X e t)(he:∀whole,isTrue e X.env whole=(do let v <-whole;standAt e.pos;holding [v] (truthy v)):=by intro _;rfl):PT X e (tB t):=by
 intro pins s σ H Q I hw;refine isTrue_plain (thn (h pins s σ H _ I hw) λv s1 ⟨x,H1,I1,r1,q1⟩=>?_) (he _);obtain ⟨d,rfl,q⟩:=q1;cases r1;exact wpAny_truthy_bool ⟨H1,I1,q⟩
variable{tA tB':TT}{rest:List Expr}
def YB(t u:TT):TT:=λσ H Q=>t σ H λc H1=>if c=true then u σ H1 Q else Q false H1
def tOr(t u:TT):TT:=λσ H Q=>t σ H λc H1=>if c=true then Q true H1 else u σ H1 Q
def XV(t:TT):TT:=λσ H Q=>t σ H λc H1=>Q (!c) H1
theorem OC(ha:PT X a tA):PW X (.BoolOp .And [a] pos) tA:=by
 intro wh pins s σ H Q I h;refine isTrue_and (thn (ha pins s σ H Q I h) λc s1 e=>?_);cases c with
 | true=>exact isTrue_and_nil e
 | false=>exact e
theorem UD(ha:PT X a tA):PW X (.BoolOp .Or [a] pos) tA:=by
 intro wh pins s σ H Q I h;refine isTrue_or (thn (ha pins s σ H Q I h) λc s1 e=>?_);cases c with
 | false=>exact isTrue_or_nil e
 | true=>exact e
theorem UE(ha:PT X a tA)(hb:PW X (.BoolOp .And (b::rest) pos) tB'):PW X (.BoolOp .And (a::b::rest) pos) (YB tA tB'):=by
 intro wh pins s σ H Q I h;refine isTrue_and (thn (ha pins s σ H _ I h) λc s1 ⟨H1,I1,q1⟩=>?_);cases c with
 | true=>exact hb wh pins s1 σ H1 Q I1 q1
 | false=>exact ⟨H1,I1,q1⟩
theorem YU(ha:PT X a tA)(hb:PW X (.BoolOp .Or (b::rest) pos) tB'):PW X (.BoolOp .Or (a::b::rest) pos) (tOr tA tB'):=by
 intro wh pins s σ H Q I h;refine isTrue_or (thn (ha pins s σ H _ I h) λc s1 ⟨H1,I1,q1⟩=>?_);cases c with
 | true=>exact ⟨H1,I1,q1⟩
 | false=>exact hb wh pins s1 σ H1 Q I1 q1
theorem UH(ha:PT X a tA):PT X (.UnaryOp .Not a pos) (XV tA):=by
 intro pins s σ H Q I h;exact isTrue_not (ha pins s σ H (λc H1=>Q (!c) H1) I h)
def RG(ta tb:TE):TE:=λσ H Q=>ta σ H λx H1=>∃c,x=.bl c/\if c=true then tb σ H1 Q else Q (.bl false) H1
def RB(ta:TE):TE:=λσ H Q=>ta σ H λx H1=>∃c,x=.bl c/\Q (.bl (!c)) H1
theorem UT{op}{t:TE}(h:PE X a t):PE X (.BoolOp op [a] pos) t:=λpins s σ H Q I hw=>BoolOp_one (h pins s σ H Q I hw)
theorem UW(ha:PE X a ta)(hb:PE X (.BoolOp .And (b::rest) pos) tb):PE X (.BoolOp .And (a::b::rest) pos) (RG ta tb):=by
 intro pins s σ H Q I h;refine BoolOp_and (thn (ha pins s σ H _ I h) λv s1 ⟨x,H1,I1,r1,q1⟩=>?_);obtain ⟨c,rfl,q1⟩:=q1;cases r1;refine wpAny_truthy_bool ?_;cases c with
 | true=>exact hb pins s1 σ H1 Q I1 q1
 | false=>exact ⟨.bl false,H1,I1,rfl,q1⟩
theorem UU(ha:PE X a ta):PE X (.UnaryOp .Not a pos) (RB ta):=by
 intro pins s σ H Q I h;refine UnaryOp_ (thn (ha pins s σ H _ I h) λv s1 ⟨x,H1,I1,r1,q1⟩=>?_);obtain ⟨c,rfl,q1⟩:=q1;cases r1;exact not_of (wpAny_truthy_bool ⟨.bl (!c),H1,I1,rfl,q1⟩)
end
def gG(K:PySem.W.Frag)(H:Hp)(a:Addr)(xs:List V):Prop :=
 Rd H a (.lst xs) \/
  ∃(o:Obj) (its:Array Value) (n:Nat),K.lookup a=some o/\o.cls=.type "list" /\ o.dict=none/\o.data=.seq its n/\its.size<=sizeLine/\cJ xs its.toList
def eI(K:PySem.W.Frag)(H:Hp)(a:Addr)(xs:List V):Prop :=
 Rd H a (.tup xs) \/
  ∃(o:Obj) (its:Array Value) (n:Nat),K.lookup a=some o/\o.cls=.type "tuple" /\ o.data=.seq its n/\its.size<=sizeLine/\cJ xs its.toList
def aBG:Value->Option V
 | .none=>some .non
 | .bool b=>some (.bl b)
 | .int i _=>some (.int i)
 | .str x _=>some (.str x)
 | .bytes b _=>some (.byt b)
 | .float b _=>some (.flt b)
 | .ref a=>some (.ref a)
 | .type n=>some (.ty n)
 | _=>none
theorem cW.abs{x:V}{u:Value}(r:cW x u):aBG u=some x:=by
 cases x with
 | non=>cases r;rfl
 | bl _=>cases r;rfl
 | int _=>obtain ⟨t,rfl⟩:=r;rfl
 | str _=>obtain ⟨t,rfl⟩:=r;rfl
 | byt _=>obtain ⟨t,rfl⟩:=r;rfl
 | flt _=>obtain ⟨t,rfl⟩:=r;rfl
 | ref _=>cases r;rfl
 | ty _=>cases r;rfl
theorem cW.inj{x y:V}{u:Value}(r:cW x u)(q:cW y u):x=y:=eB (r.abs.symm.trans q.abs)
theorem cJ.inj:∀{xs ys:List V}{us:List Value},cJ xs us->cJ ys us->xs=ys
 | _,_,_,.nil,.nil=>rfl
 | _,_,_,.cons r t,.cons r' t'=>by rw [r.inj r',cJ.inj t t']
section
variable{X:Cx}{pins:List (Addr × Obj)}{σ:St}{H:Hp}{s:Shared}{a:Addr}{xs ys:List V}
theorem gG.of{K:PySem.W.Frag}(h:H a=some (.lst xs)):gG K H a xs:=.inl (.inl h)
theorem eI.of{K:PySem.W.Frag}(h:H a=some (.tup xs)):eI K H a xs:=.inl (.inl h)
theorem bY.list(I:bY X pins σ H s)(h:gG X.K H a xs):∃its:List Value,cJ xs its/\PlainL s.heap a its.toArray/\xs.length<=sizeLine:=by
 rcases h with h | ⟨o,its,n,hk,hc,hd,hs,hz,r⟩
 ·obtain ⟨z,its,n,r,e⟩:=h.ok I.hok;exact ⟨its,r,⟨_,n,e,rfl,rfl,rfl⟩,z⟩
 ·refine ⟨its.toList,r,⟨o,n,I.kIn a o hk,hc,hd,by simpa using hs⟩,?_⟩;have e:=r.length;simp only [Array.length_toList] at e;omega
theorem bY.tuple(I:bY X pins σ H s)(h:eI X.K H a xs):∃its:List Value,cJ xs its/\IsTup s.heap a its.toArray/\xs.length<=sizeLine:=by
 rcases h with h | ⟨o,its,n,hk,hc,hs,hz,r⟩
 ·obtain ⟨⟨z,_⟩,its,r,p⟩:=h.ok I.hok;exact ⟨its,r,p,z⟩
 ·refine ⟨its.toList,r,⟨o,I.kIn a o hk,hc,n,by simpa using hs⟩,?_⟩;have e:=r.length;simp only [Array.length_toList] at e;omega
theorem bY.list_inj(I:bY X pins σ H s)(h:gG X.K H a xs)(h':gG X.K H a ys):xs=ys:=by
 obtain ⟨its,r,⟨o,n,e,_,_,d⟩,_⟩:=I.list h;obtain ⟨its',r',⟨o',n',e',_,_,d'⟩,_⟩:=I.list h';rw [e] at e';cases e';rw [d] at d';injection d' with d1 _;have:its=its':=by simpa using congrArg Array.toList d1
 subst this;exact r.inj r'
theorem bY.tuple_inj(I:bY X pins σ H s)(h:eI X.K H a xs)(h':eI X.K H a ys):xs=ys:=by
 obtain ⟨its,r,⟨o,e,_,n,d⟩,_⟩:=I.tuple h;obtain ⟨its',r',⟨o',e',_,n',d'⟩,_⟩:=I.tuple h';rw [e] at e';cases e';rw [d] at d';injection d' with d1 _;have:its=its':=by simpa using congrArg Array.toList d1
 subst this;exact r.inj r'
end
abbrev Cx.wish(X:Cx)(E:Value->Shared->Prop):Cx:={ X with xe:=E }
abbrev Cx.nox(X:Cx):Cx:=X.wish λ_ _=>False
theorem Cx.Ok.wish{X:Cx}(ok:X.Ok)(E:Value->Shared->Prop):(X.wish E).Ok :=
 ⟨ok.mod,ok.kind,ok.glob,ok.blt,ok.above,ok.inj,ok.has,ok.cab,ok.hd,ok.frames,ok.stk,ok.exf,ok.bs,ok.bsz,ok.noex,ok.exfs,ok.funs,ok.frf⟩
theorem Cx.Ok.unwish{X:Cx}{E:Value->Shared->Prop}(ok:(X.wish E).Ok):X.Ok :=
 ⟨ok.mod,ok.kind,ok.glob,ok.blt,ok.above,ok.inj,ok.has,ok.cab,ok.hd,ok.frames,ok.stk,ok.exf,ok.bs,ok.bsz,ok.noex,ok.exfs,ok.funs,ok.frf⟩
section
variable{X:Cx}{pins:List (Addr × Obj)}{σ:St}{H:Hp}{s:Shared}{E:Value->Shared->Prop}
theorem bY.wish(I:bY X pins σ H s)(E:Value->Shared->Prop):bY (X.wish E) pins σ H s:=⟨I.ok.wish E,I.os,I.bare,I.base,I.loc,I.cell,I.free,I.freeC,I.pin,I.hok,I.len⟩
theorem bY.unwish(I:bY (X.wish E) pins σ H s):bY X pins σ H s:=⟨I.ok.unwish,I.os,I.bare,I.base,I.loc,I.cell,I.free,I.freeC,I.pin,I.hok,I.len⟩
theorem SP.unwish{D:rR}{f:Flow}{s':Shared}(h:SP (X.wish E) pins D f s'):SP X pins D f s':=by
 cases f with
 | next=>obtain ⟨σ',H',I,q⟩:=h;exact ⟨σ',H',I.unwish,q⟩
 | brk=>obtain ⟨σ',H',I,q⟩:=h;exact ⟨σ',H',I.unwish,q⟩
 | cont=>obtain ⟨σ',H',I,q⟩:=h;exact ⟨σ',H',I.unwish,q⟩
 | ret u=>obtain ⟨v,σ',H',I,r,q⟩:=h;exact ⟨v,σ',H',I.unwish,r,q⟩
theorem PE.nox{e:Expr}{t:TE}(h:PE X.nox e t):PE X e t:=λpins s σ H Q I hw =>
 wpAny_mono (h pins s σ H Q (I.wish _) hw) (λ_ _ ⟨v,H',I',r,q⟩=>⟨v,H',I'.unwish,r,q⟩) λ_ _ z=>False.elim z
theorem CK.nox{st:List Stmt}{t:TS}(h:CK X.nox st t):CK X st t:=λpins s σ H D I hw =>
 wpAny_mono (h pins s σ H D (I.wish _) hw) (λ_ _ q=>q.unwish) λ_ _ z=>False.elim z
end
section
variable{X:Cx}{st:Stmt}{rest:List Stmt}{t u:TS}{e:Expr}{te:TE}{pos:Pos}
def RC:TS:=λD σ H=>D.nx σ H
def XR(t u:TS):TS:=λD σ H=>t { D with nx:=u D } σ H
theorem pss_nil:CK X [] RC:=λ_ _ σ H _ I h=>wpAny_execs_nil ⟨σ,H,I,h⟩
theorem JO(h1:PS X st t)(h2:CK X rest u):CK X (st::rest) (XR t u):=by
 intro pins s σ H D I h;refine wpAny_execs_cons (thn (h1 pins s σ H { D with nx:=u D } I h) λf s1 q=>?_);cases f with
 | next =>
  obtain ⟨σ',H',I',q⟩:=q;exact h2 pins s1 σ' H' D I' q
 | ret v=>exact q
 | brk=>exact q
 | cont=>exact q
theorem OF(h1:PS X st t):CK X [st] t:=by
 intro pins s σ H D I h;refine wpAny_execs_cons (thn (h1 pins s σ H D I h) λf s1 q=>?_);cases f with
 | next=>exact wpAny_execs_nil q
 | ret v=>exact q
 | brk=>exact q
 | cont=>exact q
theorem bY.quiet{pins:List (Addr × Obj)}{σ:St}{H:Hp}{s:Shared}(I:bY X pins σ H s):interactive X.env=false:=by simp [interactive,I.ok.kind]
def RD(te:TE):TS:=λD σ H=>te σ H λ_ H1=>D.nx σ H1
theorem OG(he:PE X e te)(hs:swapsWith e none pos.line X.env=pure false:=by rfl):PS X (.Expr e pos) (RD te):=by
 intro pins s σ H D I h;exact wpAny_Expr_any (thn (he pins s σ H _ I h) λv s1 ⟨x,H1,I1,r1,q1⟩=>⟨σ,H1,I1,q1⟩) I.quiet hs
def XT(te:TE):TS:=λD σ H=>te σ H D.rt
theorem UJ(he:PE X e te):PS X (.Return (some e) pos) (XT te):=by
 intro pins s σ H D I h;exact wpAny_Return_some (thn (he pins s σ H _ I h) λv s1 ⟨x,H1,I1,r1,q1⟩=>⟨x,σ,H1,I1,r1,q1⟩)
def XW(c:TT)(t u:TS):TS:=λD σ H=>c σ H λb H1=>if b=true then t D σ H1 else u D σ H1
theorem YV{c:Expr}{a b:List Stmt}{tc:TT}(hc:PT X c tc)(ha:CK X a t)(hb:CK X b u):PS X (.If c a b pos) (XW tc t u):=by
 intro pins s σ H D I h;refine wpAny_If (thn (hc pins s σ H _ I h) λd s1 ⟨H1,I1,q1⟩=>?_);cases d with
 | true=>exact ha pins s1 σ H1 D I1 q1
 | false=>exact hb pins s1 σ H1 D I1 q1
end
abbrev TG:=V->St->Hp->(St->Hp->Prop)->Prop
abbrev LZ:=List V->St->Hp->(St->Hp->Prop)->Prop
def PG(X:Cx)(target:Expr)(t:TG):Prop :=
 ∀(pins:List (Addr × Obj)) (s:Shared) (σ:St) (H:Hp) (v:V) (u:Value) (Q:St->Hp->Prop),bY X pins σ H s->cW v u->t v σ H Q ->
  wpAny (model X.prog X.w) X.A (assign target X.env u) (λ_ s'=>∃σ' H',bY X pins σ' H' s'/\Q σ' H') X.xe s
def ZW(X:Cx)(ts:List Expr)(t:LZ):Prop :=
 ∀(pins:List (Addr × Obj)) (s:Shared) (σ:St) (H:Hp) (vs:List V) (us:List Value) (Q:St->Hp->Prop),bY X pins σ H s->cJ vs us->t vs σ H Q ->
  wpAny (model X.prog X.w) X.A (assignInOrder ((assignEach ts X.env).map (·.2)) us) (λ_ s'=>∃σ' H',bY X pins σ' H' s'/\Q σ' H') X.xe s
abbrev QP:=V->V->V->Hp->(Hp->Prop)->Prop
def WY(X:Cx)(t:QP):Prop :=
 ∀(pins:List (Addr × Obj)) (s:Shared) (σ:St) (H:Hp) (o i v:V) (ov iv u:Value) (Q:Hp->Prop),bY X pins σ H s->cW o ov->cW i iv->cW v u->t o i v H Q ->
  wpAny (model X.prog X.w) X.A (setItem ov iv u) (λ_ s'=>∃H',bY X pins σ H' s'/\Q H') X.xe s
section
variable{X:Cx}{pos:Pos}
def vI(i:Nat):TG:=λv σ H Q=>Q (σ.set i (some v)) H
theorem OM{i:Nat}{x:Str}(hN:X.N.Nodup)(hi:X.N[i]?=some x)(hx:XM X.env.scope x)(hf:X.fn x=true\/X.env.scope.names.lookup x=some .local:=by first | exact .inl rfl | exact .inr rfl | assumption):PG X (.Name x pos) (vI i):=by
 intro pins s σ H v u Q I r h;exact wpAny_assign_Name (lT I hN hi hx r (λs' I'=>⟨_,H,I',h⟩) hf)
def WC:LZ:=λvs σ H Q=>vs=[]/\Q σ H
def KU(t:TG)(u:LZ):LZ:=λvs σ H Q=>∃v r,vs=v::r/\t v σ H λσ' H'=>u r σ' H' Q
theorem pgs_nil:ZW X [] WC:=by
 intro pins s σ H vs us Q I r h;obtain ⟨e,h⟩:=h;subst e;cases r;exact assignInOrder_nil ⟨σ,H,I,h⟩
theorem JT{e:Expr}{es:List Expr}{t:TG}{u:LZ}(h1:PG X e t)(h2:ZW X es u)
  (hs:(assignEach (e::es) X.env).map (·.2)=assign e X.env::(assignEach es X.env).map (·.2):=by rfl):ZW X (e::es) (KU t u):=by
 intro pins s σ H vs us Q I r h;obtain ⟨v,vr,e1,h⟩:=h;subst e1;cases r with
 | cons r rr =>
  rw [hs];refine assignInOrder_cons (thn (h1 pins s σ H _ _ _ I r h) λ_ s1 ⟨σ1,H1,I1,q1⟩=>?_);exact h2 pins s1 σ1 H1 _ _ Q I1 rr q1
def WB(K:PySem.W.Frag)(n:Nat)(t:LZ):TG:=λv σ H Q=>∃a xs,v=.ref a/\eI K H a xs/\xs.length=n/\t xs σ H Q
theorem UP{es:List Expr}{k:Nat}{t:LZ}{n:Nat}(hc:X.calm=true)(h:ZW X es t)
  (hn:(assignEach es X.env).length=n:=by rfl) (hst:(assignEach es X.env).findIdx? (·.1)=none:=by rfl):PG X (.Tuple es k pos) (WB X.K n t):=by
 intro pins s σ H v u Q I r hw;obtain ⟨a,xs,e1,hq,hl,hw⟩:=hw;subst e1;cases r;obtain ⟨its,rv,ht,hz⟩:=I.tuple hq;refine assign_Tuple_tuple (I.ok.hd hc) ht (by simp [hn,<-hl,rv.length]) hst λh' hx=>?_;have I1:bY X pins σ H { s with heap:=h' }:=I.kept (t':=s.toks) λb o e=>hx b o (bT (aY e)) e;exact h pins _ σ H xs _ Q I1 (by simpa using rv) hw
def ZN(to ti:TE)(t:QP):TG:=λv σ H Q=>to σ H λo H1=>ti σ H1 λi H2=>t o i v H2 λH3=>Q σ H3
theorem UQ{o i:Expr}{to ti:TE}{t:QP}(ho:PE X o to)(hi:PE X i ti)(hs:WY X t)
  (ha:∀v,assign (.Subscript o i pos) X.env v=(do
   let ov <-holding [v] (eval o X.env)
   let iv <-holding [v,ov] (eval i X.env)
   standAt pos
   holding [v,ov,iv] (setItem ov iv v)
   release [v,ov,iv] []):=by intro _;rfl):PG X (.Subscript o i pos) (ZN to ti t):=by
 intro pins s σ H v u Q I r h;rw [ha];refine wpAny_bind (wpAny_holding (thn (ho pins s σ H _ I h) λov s1 ⟨x,H1,I1,r1,q1⟩=>?_));refine wpAny_bind (wpAny_holding (thn (hi pins s1 σ H1 _ I1 q1) λiv s2 ⟨y,H2,I2,r2,q2⟩=>?_));refine wpAny_bind (wpAny_standAt (wpAny_bind (wpAny_holding (thn (hs pins s2 σ H2 x y v ov iv u _ I2 r1 r2 r q2) λ_ s3 ⟨H3,I3,q3⟩=>?_))));exact wpAny_release ⟨σ,H3,I3,q3⟩
def MW(te:TE)(g:TG):TS:=λD σ H=>te σ H λx H1=>g x σ H1 D.nx
theorem UN{tg e:Expr}{te:TE}{g:TG}(he:PE X e te)(hg:PG X tg g)(hs:swapsWithSole [tg] e pos.line X.env=pure false:=by rfl)(hw:swappedStores [tg] e X.env=pure none:=by rfl)
  (h1:(assignEach [tg] X.env).map (·.2)=[assign tg X.env]:=by rfl):PS X (.Assign [tg] e pos) (MW te g):=by
 intro pins s σ H D I h;refine wpAny_Assign_stores (thn (he pins s σ H _ I h) λv s1 ⟨x,H1,I1,r1,q1⟩=>?_) hs hw;rw [h1];exact thn (hg pins s1 σ H1 x v _ I1 r1 q1) λ_ s2 q=>q
theorem UI{i:Nat}{x:Str}{e:Expr}{te:TE}{pos':Pos}(hN:X.N.Nodup)(hi:X.N[i]?=some x)(hx:XM X.env.scope x)(he:PE X e te)(hs:swapsWith e (some (.Name x pos')) pos.line X.env=pure false:=by rfl)(hf:X.fn x=true\/X.env.scope.names.lookup x=some .local:=by first | exact .inl rfl | exact .inr rfl | assumption) :
  PS X (.Assign [.Name x pos'] e pos) (MW te (vI i)):=by
 intro pins s σ H D I h;refine wpAny_Assign_Name (thn (he pins s σ H _ I h) λv s1 ⟨y,H1,I1,r1,q1⟩=>?_) hs;exact lT I1 hN hi hx r1 (λs2 I2=>⟨_,H1,I2,q1⟩) hf
def XU(i j:Nat)(ta:TA):TS:=λD σ H=>ta σ H λvs H1=>∃v w,vs=[v,w]/\D.nx ((σ.set i (some v)).set j (some w)) H1
theorem UK{i j:Nat}{x y:Str}{a b:Expr}{ta:TA}{px py pt:Pos}{kt k2 pt2}(hc:X.calm=true)(hN:X.N.Nodup)(hi:X.N[i]?=some x)(hj:X.N[j]?=some y)(hij:i≠j)
  (hx:X.env.scope.names.lookup x=some .local) (hy:X.env.scope.names.lookup y=some .local) (ha:PA X [a,b] ta)
  (hw:swappedStores [.Tuple [.Name x px,.Name y py] kt pt] (.Tuple [a,b] k2 pt2) X.env=pure (some [x,y]))
  (hs:swapsWithSole [.Tuple [.Name x px,.Name y py] kt pt] (.Tuple [a,b] k2 pt2) pos.line X.env=pure false:=by rfl) :
  PS X (.Assign [.Tuple [.Name x px,.Name y py] kt pt] (.Tuple [a,b] k2 pt2) pos) (XU i j ta):=by
 intro pins s σ H D I h;rw [exec_Assign_arm];refine wpAny_bind (wpAny_standAt ?_);rw [hs];refine wpAny_bind (wpAny_pure ?_);rw [if_neg Dd];refine wpAny_bind (Tuple_ (thn (ha _ pins s σ H _ I h) λus s1 ⟨vs,H1,I1,r1,q1⟩=>?_));obtain ⟨v,w,e1,q1⟩:=q1;subst e1;obtain ⟨u1,u2,rfl,rv,rw'⟩:∃u1 u2,us=[u1,u2]/\cW v u1/\cW w u2:=by
  cases r1 with
  | cons p q =>
   cases q with
   | cons p' q' =>
    cases q';exact ⟨_,_,rfl,p,p'⟩
 refine wpAny_newObj_type ?_ (by show 2<=sizeLine;decide);have I2:bY X pins σ H1 { s1 with heap:=s1.heap.push { cls:=.type "tuple",data:=.seq [u1,u2].toArray } }:=I1.kept (t':=s1.toks) λb o e=>aB _ e;rw [hw];refine wpAny_bind (wpAny_pure ?_);show wpAny (model X.prog X.w) X.A (do rule "assign.swapped-stores";let items <-unpackItems (.ref s1.heap.objs.size) 2 none;assignInOrder [λv=>bindName X.env y v,λv=>bindName X.env x v] items.reverse;pure Flow.next) _ _ _;refine wpAny_bind (wpAny_rule (wpAny_bind (unpackItems_tuple (items:=#[u1,u2]) (I.ok.hd hc) (IsTup.new s1.heap _) λh' hx'=>?_)));have I3:=I2.kept (h':=h') (t':=s1.toks) λb o e=>hx' b o (bT (aY e)) e;show wpAny _ _ (assignInOrder [λv=>bindName X.env y v,λv=>bindName X.env x v] [u2,u1] >>= λ_=>pure Flow.next) _ _ _;refine wpAny_bind (assignInOrder_cons (wpAny_bindName (lT I3 hN hj (.inl hy) rw' (λs2 I4=>?_) (.inr hy))));refine assignInOrder_cons (wpAny_bindName (lT I4 hN hi (.inl hx) rv (λs3 I5=>assignInOrder_nil (wpAny_pure ?_)) (.inr hx)));rw [List.set_comm _ _ (Ne.symm hij)] at I5;exact ⟨_,H1,I5,q1⟩
end
section
variable{X:Cx}{pos:Pos}
def vZ(c:TT)(tb:TS):TS:=λD σ H=>∃W:Nat->St->Hp->Prop,(∃m,W m σ H)/\∀m σ H,W m σ H ->
 c σ H λb H1=>if b=true then ∃N:St->Hp->Prop,(∀σ' H',N σ' H'->∃m',m' < m/\W m' σ' H')/\tb { D with nx:=N,ct:=N,bk:=D.nx } σ H1 else D.nx σ H1
theorem JP{c:Expr}{body:List Stmt}{tc:TT}{tb:TS}(hp:PassesOwn (model X.prog X.w) X.A X.env X.xe)(hc:PT X c tc)(hb:CK X body tb):PS X (.While c body [] pos) (vZ tc tb):=by
 intro pins s σ H D I h;obtain ⟨W,⟨m0,w0⟩,turn⟩:=h;refine wpAny_While (codeAny_whileLoop (λn s'=>∃σ' H',bY X pins σ' H' s'/\W n σ' H') ?_ m0 ⟨σ,H,I,w0⟩);rintro n s1 ⟨σ1,H1,I1,w1⟩;refine wpAny_passesOwn hp (thn (hc pins s1 σ1 H1 _ I1 (turn n σ1 H1 w1)) λb s2 ⟨H2,I2,q2⟩=>?_);cases b with
 | true =>
  obtain ⟨N,hN,q2⟩:=q2;rw [if_pos rfl];refine wpAny_passesOwn hp (thn (hb pins s2 σ1 H2 _ I2 q2) λf s3 q3=>?_);cases f with
  | next =>
   obtain ⟨σ3,H3,I3,n3⟩:=q3;obtain ⟨m',hm,w3⟩:=hN σ3 H3 n3;exact ⟨m',hm,σ3,H3,I3,w3⟩
  | cont =>
   obtain ⟨σ3,H3,I3,n3⟩:=q3;obtain ⟨m',hm,w3⟩:=hN σ3 H3 n3;exact ⟨m',hm,σ3,H3,I3,w3⟩
  | brk=>exact q3
  | ret v=>exact q3
 | false =>
  rw [if_neg bQ];exact wpAny_execs_nil ⟨σ1,H2,I2,q2⟩
end
structure It where
 go:Nat->Hp->Prop
 yld:Nat->Hp->V->Hp->Prop
 stop:Nat->Hp->Prop
def iQ(X:Cx)(pins:List (Addr × Obj))(H:Hp)(b:Addr):Prop :=
 H b=none/\b≠X.env.locals/\b ∉ X.fs/\(b∈X.ex\/X.s₀.heap.objs.size<=b)/\(∀x c,X.env.cells.lookup x=some c->c≠b)/\∀p∈X.pn++pins,p.1≠b
theorem bY.fpOk{X:Cx}{pins:List (Addr × Obj)}{σ:St}{H H':Hp}{s:Shared}{b:Addr}(I:bY X pins σ H s)(hb:s.heap.objs.size<=b)(hn:H' b=none):iQ X pins H' b:=by
 refine ⟨hn,Nat.ne_of_gt (aZ I.lt hb),I.nofs hb,.inr (bC I.sz hb),λx c e z=>?_,λp hp z=>?_⟩
 ·obtain ⟨v,q⟩:=I.cell x c e;exact absurd (aZ q.lt (by rw [z];exact hb)) (cP _)
 ·exact absurd (aZ (aY (I.pin p hp).1) (by rw [z];exact hb)) (cP _)
structure HM(P:Program)(w:World)(K:PySem.W.Frag)(tg:Expr)(J:It)(fp:List Addr)(it:Addr)(tn:Nat->Heap->Prop):Prop where
 mem:it∈fp
 obj:∀i h,tn i h->∀b∈fp,∃o,h.get? b=some o/\∀v,o.data ≠ .cell v
 keep:∀i h h',tn i h->(∀b∈fp,∀o,h.get? b=some o->h'.get? b=some o)->tn i h'
 item:∀(X:Cx),X.prog=P->X.w=w->X.K=K->X.calm=true->∀(i:Nat) (pins:List (Addr × Obj)) (s:Shared) (σ:St) (H:Hp) (E:Value->Shared->Prop),bY X pins σ H s->(∀b∈fp,iQ X pins H b)->tn i s.heap->J.go i H ->
  wpAny (model P w) X.A (pyNext (.ref it)) (λr s1=>∃u,r=some u /\
   wpAny (model P w) X.A (letOwnedTupleGo tg (.ref it) u) (λ_ s2=>∃x H',bY X pins σ H' s2/\cW x u/\J.yld i H x H'/\tn (i+1) s2.heap/\∀b∈fp,H' b=none) E s1) E s
 done:∀(X:Cx),X.prog=P->X.w=w->X.K=K->X.calm=true->∀(i:Nat) (pins:List (Addr × Obj)) (s:Shared) (σ:St) (H:Hp) (E:Value->Shared->Prop),bY X pins σ H s->(∀b∈fp,iQ X pins H b)->tn i s.heap->J.stop i H ->
  wpAny (model P w) X.A (pyNext (.ref it)) (λr s1=>r=none/\bY X pins σ H s1) E s
 self:∀(A:Around) (i:Nat) (s:Shared) (Q:Value->Shared->Prop) (E:Value->Shared->Prop),tn i s.heap->Q (.ref it) s->wpAny (model P w) A (pyIter (.ref it)) Q E s
abbrev TI:=St->Hp->(It->Hp->Prop)->Prop
def PIE(X:Cx)(pins:List (Addr × Obj))(σ:St)(tg:Expr)(R:It->Hp->Prop)(itv:Value)(s2:Shared):Prop :=
 ∃(it:Addr) (fp:List Addr) (tn:Nat->Heap->Prop) (J:It) (H':Hp),itv=.ref it/\bY X pins σ H' s2/\HM X.prog X.w X.K tg J fp it tn/\tn 0 s2.heap/\(∀b∈fp,iQ X pins H' b)/\R J H'
def PI(X:Cx)(tg iter:Expr)(wi:TI):Prop :=
 ∀(pins:List (Addr × Obj)) (s:Shared) (σ:St) (H:Hp) (R:It->Hp->Prop),bY X pins σ H s->wi σ H R ->
  wpAny (model X.prog X.w) X.A (eval iter X.env) (λv s1=>wpAny (model X.prog X.w) X.A (pyIter v) (PIE X pins σ tg R) X.xe s1) X.xe s
theorem KR{M:Model}{A:Around}{E:Value->Shared->Prop}{s:Shared}{tg:Expr}{it:Addr}{u:Value}{o:Obj}{n:String}{vs:Array Value}{Q:Unit->Shared->Prop}(ho:s.heap.get? it=some o)(hc:o.cls=.type n)(hd:o.data=.fields vs)
    (hn:["enumerate","zip","dict_itemiterator","dict_reverseitemiterator","odict_iterator","itertools.zip_longest","itertools.pairwise"].contains n=false) (hQ:Q () s):wpAny M A (letOwnedTupleGo tg (.ref it) u) Q E s:=by
  unfold letOwnedTupleGo;cases tg <;> first
    | exact wpAny_pure hQ
    | (cases u <;> first
        | exact wpAny_pure hQ
        | (refine wpAny_bind (wpAny_load ho ?_)
           rw [hc,hd];show wpAny M A (if (["enumerate","zip","dict_itemiterator","dict_reverseitemiterator","odict_iterator","itertools.zip_longest","itertools.pairwise"].contains n&&vs[0]? == some (rawInt _))=true then _ else _) Q E s;rw [if_neg (by intro h;rw [hn,Bool.false_and] at h;cases h)];exact wpAny_pure hQ))
def XG(K:PySem.W.Frag)(a:Addr):It :=
 ⟨λi H=>∃xs x,gG K H a xs/\xs[i]?=some x,λi H x H'=>H'=H/\∀xs,gG K H a xs->xs[i]?=some x,λi H=>∃xs,gG K H a xs/\xs.length<=i⟩
def QU(K:PySem.W.Frag)(a:Addr):It :=
 ⟨λi H=>∃xs x,eI K H a xs/\xs[i]?=some x,λi H x H'=>H'=H/\∀xs,eI K H a xs->xs[i]?=some x,λi H=>∃xs,eI K H a xs/\xs.length<=i⟩
def QV(lo:Int)(n:Nat):It:=⟨λi _=>i<n,λi H x H'=>H'=H/\x=.int (lo+i),λi _=>n<=i⟩
theorem FK{P:Program}{w:World}{K:PySem.W.Frag}{tg:Expr}(a it:Addr):HM P w K tg (XG K a) [it] it (λi h=>h.IsListIter it a i) where
 mem:=by simp
 obj:=λi h st b hb=>by
  have e:b=it:=by simpa using hb
  subst e;obtain ⟨o,e,c,d⟩:=st;exact ⟨o,e,λv z=>by rw [d] at z;cases z⟩
 keep:=λi h h' st k=>st.at λo e=>k it (by simp) o e
 item:=by
  intro X hP hw hK hc i pins s σ H E I hf st hg;subst hP hw hK;obtain ⟨xs,x,hq,hx⟩:=hg;obtain ⟨its,rv,p,hz⟩:=I.list hq;obtain ⟨u,hu,ru⟩:=rv.get hx;obtain ⟨f0,f1,f2,f3,f4,f5⟩:=hf it (by simp);refine wpAny_pyNext_list_item st p.isList (x:=u) (by simpa using hu) λh' st' sb=>?_;have I1:bY X pins σ H { s with heap:=h' }:=I.turned (t':=s.toks) (λb o hb e=>(sb.2 b hb).trans e) f0 f1 f3 f4 f5;obtain ⟨o,e,c,d⟩:=id st';exact ⟨u,rfl,KR (s:={ s with heap:=h' }) e c d Dd ⟨x,H,I1,ru,⟨rfl,λys hy=>by rw [I.list_inj hy hq];exact hx⟩,st',λb hb=>(hf b hb).1⟩⟩
 done:=by
  intro X hP hw hK hc i pins s σ H E I hf st hg;subst hP hw hK;obtain ⟨xs,hq,hx⟩:=hg;obtain ⟨its,rv,p,hz⟩:=I.list hq;obtain ⟨f0,f1,f2,f3,f4,f5⟩:=hf it (by simp);have hl:=rv.length;exact wpAny_pyNext_list_end (I.ok.hd hc) st p.isList (by simp;omega) λh' eb=>⟨rfl,I.turned (t':=s.toks) (λb o hb e=>eb b o hb e) f0 f1 f3 f4 f5⟩
 self:=λ_ _ _ _ _ st h=>wpAny_pyIter_listiter st h
theorem AF{P:Program}{w:World}{K:PySem.W.Frag}{tg:Expr}(a it:Addr):HM P w K tg (QU K a) [it] it (λi h=>h.IsTupleIter it a i) where
 mem:=by simp
 obj:=λi h st b hb=>by
  have e:b=it:=by simpa using hb
  subst e;obtain ⟨o,e,c,d⟩:=st;exact ⟨o,e,λv z=>by rw [d] at z;cases z⟩
 keep:=λi h h' st k=>st.at λo e=>k it (by simp) o e
 item:=by
  intro X hP hw hK hc i pins s σ H E I hf st hg;subst hP hw hK;obtain ⟨xs,x,hq,hx⟩:=hg;obtain ⟨its,rv,p,hz⟩:=I.tuple hq;obtain ⟨u,hu,ru⟩:=rv.get hx;obtain ⟨f0,f1,f2,f3,f4,f5⟩:=hf it (by simp);refine wpAny_pyNext_tuple_item st (show s.heap.IsTuple a its.toArray from p) (x:=u) (by simpa using hu) λh' st' sb=>?_;have I1:bY X pins σ H { s with heap:=h' }:=I.turned (t':=s.toks) (λb o hb e=>(sb.2 b hb).trans e) f0 f1 f3 f4 f5;obtain ⟨o,e,c,d⟩:=id st';exact ⟨u,rfl,KR (s:={ s with heap:=h' }) e c d Dd ⟨x,H,I1,ru,⟨rfl,λys hy=>by rw [I.tuple_inj hy hq];exact hx⟩,st',λb hb=>(hf b hb).1⟩⟩
 done:=by
  intro X hP hw hK hc i pins s σ H E I hf st hg;subst hP hw hK;obtain ⟨xs,hq,hx⟩:=hg;obtain ⟨its,rv,p,hz⟩:=I.tuple hq;obtain ⟨f0,f1,f2,f3,f4,f5⟩:=hf it (by simp);have hl:=rv.length;exact wpAny_pyNext_tuple_end (I.ok.hd hc) st (show s.heap.IsTuple a its.toArray from p) (by simp;omega) λh' eb=>⟨rfl,I.turned (t':=s.toks) (λb o hb e=>eb b o hb e) f0 f1 f3 f4 f5⟩
 self:=λ_ _ _ _ _ st h=>wpAny_pyIter_tupleiter st h
theorem AG{P:Program}{w:World}{K:PySem.W.Frag}{tg:Expr}(it:Addr)(lo:Int)(n:Nat):HM P w K tg (QV lo n) [it] it (λi h=>IsRangeIter h it (lo+(i:Nat)*1) ((n:Int)-(i:Nat)) 1) where
 mem:=by simp
 obj:=λi h st b hb=>by
  have e:b=it:=by simpa using hb
  subst e;exact ⟨_,st,λv z=>by
   have z':Data.fields _=Data.cell v:=z;cases z'⟩
 keep:=λi h h' st k=>k it (by simp) _ st
 item:=by
  intro X hP hw hK hc i pins s σ H E I hf st hg;subst hP hw hK;obtain ⟨f0,f1,f2,f3,f4,f5⟩:=hf it (by simp);have W:=Walks.range (prog:=X.prog) (w:=X.w) (I.ok.hd hc) it lo 1 n;refine W.item i s _ _ hg st λv h' tk hv st' kk=>?_;obtain ⟨t,rfl⟩:=hv;have I1:bY X pins σ H { s with heap:=h',toks:=tk }:=I.turned (λb o hb e=>kk b o (by simpa using hb) e) f0 f1 f3 f4 f5;refine ⟨_,rfl,KR (s:={ s with heap:=h',toks:=tk }) (n := "range_iterator") st' rfl rfl Dd ⟨.int (lo+i),H,I1,⟨t,?_⟩,⟨rfl,rfl⟩,st',λb hb=>(hf b hb).1⟩⟩;rw [Int.mul_one]
 done:=by
  intro X hP hw hK hc i pins s σ H E I hf st hg;subst hP hw hK;obtain ⟨f0,f1,f2,f3,f4,f5⟩:=hf it (by simp);exact wpAny_pyNext_range_end (I.ok.hd hc) st (by have:n<=i:=hg;omega) λh' eb=>⟨rfl,I.turned (t':=s.toks) (λb o hb e=>eb b o hb e) f0 f1 f3 f4 f5⟩
 self:=λ_ _ _ _ _ st h=>wpAny_pyIter_rangeiter st h
section
variable{X:Cx}{tg:Expr}
def RY(K:PySem.W.Frag)(tl:TE):TI:=λσ H R=>tl σ H λx H1=>∃a,x=.ref a/\(∃xs,gG K H1 a xs)/\R (XG K a) H1
def ZL(K:PySem.W.Frag)(tl:TE):TI:=λσ H R=>tl σ H λx H1=>∃a,x=.ref a/\(∃xs,eI K H1 a xs)/\R (QU K a) H1
theorem OL{l:Expr}{tl:TE}(hl:PE X l tl):PI X tg l (RY X.K tl):=by
 intro pins s σ H R I h;refine thn (hl pins s σ H _ I h) λv s1 ⟨x,H1,I1,r1,q1⟩=>?_;obtain ⟨a,e,⟨xs,hq⟩,q⟩:=q1;subst e;cases r1;obtain ⟨its,rv,p,hz⟩:=I1.list hq;refine wpAny_pyIter_list p.isList ?_;refine ⟨s1.heap.objs.size,[s1.heap.objs.size],_,_,H1,rfl,I1.kept (t':=s1.toks) λb o e=>aB _ e,FK a _,⟨_,bB _ rfl,rfl,rfl⟩,λb hb=>?_,q⟩;have e:b=s1.heap.objs.size:=by simpa using hb
 subst e;exact I1.fpOk (aK _) (I1.hok.fresh (aK _))
theorem UO{l:Expr}{tl:TE}(hl:PE X l tl):PI X tg l (ZL X.K tl):=by
 intro pins s σ H R I h;refine thn (hl pins s σ H _ I h) λv s1 ⟨x,H1,I1,r1,q1⟩=>?_;obtain ⟨a,e,⟨xs,hq⟩,q⟩:=q1;subst e;cases r1;obtain ⟨its,rv,p,hz⟩:=I1.tuple hq;refine wpAny_pyIter_tuple (show s1.heap.IsTuple a its.toArray from p) ?_;refine ⟨s1.heap.objs.size,[s1.heap.objs.size],_,_,H1,rfl,I1.kept (t':=s1.toks) λb o e=>aB _ e,AF a _,⟨_,bB _ rfl,rfl,rfl⟩,λb hb=>?_,q⟩;have e:b=s1.heap.objs.size:=by simpa using hb
 subst e;exact I1.fpOk (aK _) (I1.hok.fresh (aK _))
theorem yI{pins:List (Addr × Obj)}{σ:St}{H:Hp}{s:Shared}{R:It->Hp->Prop}{E:Value->Shared->Prop}{lo hi:Int}{t u v:Tok}{tk:Nat}(I:bY X pins σ H s)(h1:-(2^62)<=lo)(h2:lo<2^62)(h3:-(2^62)<=hi)(h4:hi<2^62)
  (q:R (QV lo (hi-lo).toNat) H):wpAny (model X.prog X.w) X.A (pyIter (.ref s.heap.objs.size)) (PIE X pins σ tg R) E { s with heap:=s.heap.push { cls:=.type "range",data:=.fields #[.int lo t,.int hi u,.int 1 v] },toks:=tk }:=by
 refine wpAny_pyIter_range (IsRange.new ..) (small_one h1 h2 h3 h4) ?_;have I1:bY X pins σ H { s with heap:=s.heap.push { cls:=.type "range",data:=.fields #[.int lo t,.int hi u,.int 1 v] },toks:=tk }:=I.kept λb o e=>aB _ e;refine ⟨(s.heap.push { cls:=.type "range",data:=.fields #[.int lo t,.int hi u,.int 1 v] }).objs.size,[(s.heap.push { cls:=.type "range",data:=.fields #[.int lo t,.int hi u,.int 1 v] }).objs.size],_,_,H,rfl,
  I1.kept (t':=tk) λb o e=>aB _ e,AG _ lo (hi-lo).toNat,?_,λb hb=>?_,q⟩
 ·have e1:lo+((0:Nat):Int)*1=lo:=by simp
  have e2:(((hi-lo).toNat:Nat):Int)-((0:Nat):Int)=Builtin.Range.rangeSize lo hi 1:=by rw [rangeSize_one];split <;> omega
  show IsRangeIter _ _ (lo+((0:Nat):Int)*1) ((((hi-lo).toNat:Nat):Int)-((0:Nat):Int)) 1;rw [e1,e2];exact bB _ rfl
 ·have e:b=(s.heap.push { cls:=.type "range",data:=.fields #[.int lo t,.int hi u,.int 1 v] }).objs.size:=by simpa using hb
  subst e;exact I1.fpOk (aK _) (I1.hok.fresh (aK _))
def RX(ta:TA):TI:=λσ H R=>ta σ H λvs H1=>∃j:Int,vs=[.int j]/\-(2^62)<=j/\j<2^62/\R (QV 0 j.toNat) H1
def RW(ta:TA):TI:=λσ H R=>ta σ H λvs H1=>∃i j:Int,vs=[.int i,.int j]/\(-(2^62)<=i/\i<2^62/\-(2^62)<=j/\j<2^62)/\R (QV i (j-i).toNat) H1
theorem GG{a:Expr}{ta:TA}{p pos:Pos}(hg:Gl X "range")(hm:X.mg "range" = none)(ha:PA X [a] ta)(hs:starEach [a] X.env=[(false,eval a X.env)]:=by rfl):PI X tg (.Call (.Name "range" p) [a] [] pos) (RX ta):=by
 intro pins s σ H R I h;refine Call_ (qB I hg hm boot_range (PyProof.Rows.callWith_type1 (thn (ha pos pins s σ H _ I h) λus s1 ⟨vs,H1,I1,r1,q1⟩=>?_) hs rfl));obtain ⟨j,e,q1,q2,q⟩:=q1;subst e;cases r1 with
 | cons r rr =>
  cases rr;obtain ⟨t,rfl⟩:=r;exact call_range_1 (yI I1 Oo Oo q1 q2 (by simpa using q))
theorem GF{a b:Expr}{ta:TA}{p pos:Pos}(hg:Gl X "range")(hm:X.mg "range" = none)(ha:PA X [a,b] ta)(hs:starEach [a,b] X.env=[(false,eval a X.env),(false,eval b X.env)]:=by rfl)(hs2:starEach [b] X.env=[(false,eval b X.env)]:=by rfl) :
  PI X tg (.Call (.Name "range" p) [a,b] [] pos) (RW ta):=by
 intro pins s σ H R I h;refine Call_ (qB I hg hm boot_range (PyProof.Rows.callWith_type1 (thn (ha pos pins s σ H _ I h) λus s1 ⟨vs,H1,I1,r1,q1⟩=>?_) (by rw [hs,hs2]) (by rw [hs2];rfl)));obtain ⟨i,j,e,⟨q1,q2,q3,q4⟩,q⟩:=q1;subst e;cases r1 with
 | cons r rr =>
  cases rr with
  | cons r' rr =>
   cases rr;obtain ⟨t,rfl⟩:=r;obtain ⟨t',rfl⟩:=r';exact call_range_2 (yI I1 q1 q2 q3 q4 q)
def XX(wi:TI)(g:TG)(tb:TS):TS:=λD σ H=>wi σ H λJ H1=>∃W:Nat->Nat->St->Hp->Prop,(∃m,W 0 m σ H1)/\∀i m σ H,W i m σ H ->
 (J.stop i H/\D.nx σ H)\/(J.go i H/\∃N:St->Hp->Prop,(∀σ' H',N σ' H'->∃m',m' < m/\W (i+1) m' σ' H')/\∀x H',J.yld i H x H'->g x σ H' λσ2 H2=>tb { D with nx:=N,ct:=N,bk:=D.nx } σ2 H2)
def pW(fp:List Addr)(h:Heap):List (Addr × Obj):=fp.filterMap λb=>(h.get? b).map λo=>(b,o)
theorem iD{fp:List Addr}{h:Heap}{b:Addr}{o:Obj}(hb:b∈fp)(e:h.get? b=some o):(b,o)∈pW fp h:=List.mem_filterMap.mpr ⟨b,hb,by rw [e];rfl⟩
theorem GJ{fp:List Addr}{h:Heap}{p:Addr × Obj}(hp:p∈pW fp h):p.1∈fp/\h.get? p.1=some p.2:=by
 obtain ⟨b,hb,e⟩:=List.mem_filterMap.mp hp;cases q:h.get? b with
 | none=>rw [q] at e;cases e
 | some o =>
  rw [q] at e;have e':(b,o)=p:=eB e;subst e';exact ⟨hb,q⟩
theorem bY.pinned{pins:List (Addr × Obj)}{σ:St}{H:Hp}{s:Shared}{fp:List Addr}(I:bY X pins σ H s)(hf:∀b∈fp,iQ X pins H b)(ho:∀b∈fp,∃o,s.heap.get? b=some o/\∀v,o.data ≠ .cell v):bY X (pins++pW fp s.heap) σ H s :=
 I.pins_of λp hp=>(bE.mp hp).elim (λz=>I.pin p (aG _ z)) λz=>by
  obtain ⟨hb,e⟩:=GJ z;obtain ⟨f0,f1,f2,_⟩:=hf p.1 hb;obtain ⟨o,e',d⟩:=ho p.1 hb;rw [e] at e';cases e';exact ⟨e,f0,f1,f2,d⟩
theorem bY.unpinned{pins pl:List (Addr × Obj)}{σ:St}{H:Hp}{s:Shared}(I:bY X (pins++pl) σ H s):bY X pins σ H s:=I.pins_of λp hp=>I.pin p (aG _ (bO _ hp))
theorem UL{iter:Expr}{body:List Stmt}{wi:TI}{g:TG}{tb:TS}{pos:Pos}(hp:PassesOwn (model X.prog X.w) X.A X.env X.xe)(hc:X.calm=true)(hi:PI X tg iter wi)(hg:PG X tg g)(hb:CK X body tb)
  (hs:∀x,foldedSetIterable iter X.env x=pure x:=by intro _;rfl):PS X (.For tg iter body [] pos) (XX wi g tb):=by
 intro pins s σ H D I h;refine wpAny_For (thn (hi pins s σ H _ I h) λv s1 h1=>thn h1 λitv s2 h2=>?_) hs;obtain ⟨it,fp,tn,J,H2,e,I2,T,st2,f2,W,⟨m0,w0⟩,turn⟩:=h2;subst e;have stat:∀{H':Hp},(∀b∈fp,H' b=none)->∀b∈fp,iQ X pins H' b:=λhn b hb=>⟨hn b hb,(f2 b hb).2⟩;refine codeAny_forLoop_any (λn s'=>∃i σ' H',bY X pins σ' H' s'/\tn i s'.heap/\(∀b∈fp,H' b=none)/\W i n σ' H') ?_ m0 ⟨0,σ,H2,I2,st2,λb hb=>(f2 b hb).1,w0⟩;rintro n s3 ⟨i,σ3,H3,I3,st3,fr3,w3⟩;rcases turn i n σ3 H3 w3 with ⟨stop,qn⟩ | ⟨go,N,hN,step⟩
 ·refine wpAny_passesOwn hp (thn (T.done X rfl rfl rfl hc i pins s3 σ3 H3 X.xe I3 (stat fr3) st3 stop) λr s4 ⟨hr,I4⟩=>?_);subst hr;exact wpAny_execs_nil ⟨σ3,H3,I4,qn⟩
 ·refine wpAny_passesOwn hp (thn (T.item X rfl rfl rfl hc i pins s3 σ3 H3 X.xe I3 (stat fr3) st3 go) λr s4 ⟨u,hr,h4⟩=>?_);subst hr;refine wpAny_passesOwn hp (thn h4 λ_ s5 ⟨x,H5,I5,r5,y5,st5,fr5⟩=>?_);have I5':=I5.pinned (stat fr5) (T.obj _ _ st5);refine wpAny_passesOwn hp (thn (hg _ s5 σ3 H5 x u _ I5' r5 (step x H5 y5)) λ_ s6 ⟨σ6,H6,I6,q6⟩=>?_);refine wpAny_passesOwn hp (thn (hb _ s6 σ6 H6 _ I6 q6) λf s7 q7=>?_);have again:∀{σ7:St} {H7:Hp},bY X (pins++pW fp s5.heap) σ7 H7 s7->N σ7 H7->∃m,m<n/\∃i σ' H',bY X pins σ' H' s7/\tn i s7.heap/\(∀b∈fp,H' b=none)/\W i m σ' H':=λ{σ7 H7} I7 n7=>by
   obtain ⟨m',hm,w7⟩:=hN σ7 H7 n7;refine ⟨m',hm,i+1,σ7,H7,I7.unpinned,T.keep _ _ _ st5 λb hb o e=>(I7.pin (b,o) (aG _ (aG _ (iD hb e)))).1,λb hb=>?_,w7⟩;obtain ⟨o,e,d⟩:=T.obj _ _ st5 b hb;exact (I7.pin (b,o) (aG _ (aG _ (iD hb e)))).2.1
  cases f with
  | next=>obtain ⟨σ7,H7,I7,n7⟩:=q7;exact again I7 n7
  | cont=>obtain ⟨σ7,H7,I7,n7⟩:=q7;exact again I7 n7
  | brk=>obtain ⟨σ7,H7,I7,q7⟩:=q7;exact ⟨σ7,H7,I7.unpinned,q7⟩
  | ret v=>obtain ⟨x7,σ7,H7,I7,r7,q7⟩:=q7;exact ⟨x7,σ7,H7,I7.unpinned,r7,q7⟩
end
theorem pD{K:PySem.W.Frag}{a:Addr}{xs:List V}{g:TG}{tb:TS}{D:rR}{σ:St}{H:Hp}(Pv:Nat->St->Hp->Prop)(h0:Pv 0 σ H)(hl:∀i σ H,i<=xs.length->Pv i σ H->gG K H a xs)
  (hs:∀i x σ H,xs[i]?=some x->Pv i σ H->g x σ H λσ2 H2=>tb { D with nx:=Pv (i+1),ct:=Pv (i+1),bk:=D.nx } σ2 H2) (hd:∀σ H,Pv xs.length σ H->D.nx σ H) :
  ∃W:Nat->Nat->St->Hp->Prop,(∃m,W 0 m σ H)/\∀i m σ H,W i m σ H ->
   ((XG K a).stop i H/\D.nx σ H)\/((XG K a).go i H/\∃N:St->Hp->Prop,(∀σ' H',N σ' H'->∃m',m' < m/\W (i+1) m' σ' H')/\∀x H',(XG K a).yld i H x H'->g x σ H' λσ2 H2=>tb { D with nx:=N,ct:=N,bk:=D.nx } σ2 H2):=by
 refine ⟨λi m σ H=>m=xs.length-i/\i<=xs.length/\Pv i σ H,⟨xs.length,by simp,cB _,h0⟩,?_⟩;rintro i m σ H ⟨rfl,hi,p⟩;have q:=hl i σ H hi p;by_cases hlt:i<xs.length
 ·refine .inr ⟨⟨xs,xs[i],q,by simp [hlt]⟩,Pv (i+1),λσ' H' p'=>⟨xs.length-(i+1),Oo,rfl,hlt,p'⟩,λx H' y=>?_⟩;obtain ⟨e,y⟩:=y;subst e;exact hs i x σ _ (y xs q) p
 ·have e:i=xs.length:=Oo;subst e;exact .inl ⟨⟨xs,q,aK _⟩,hd σ H p⟩
theorem sF{K:PySem.W.Frag}{a:Addr}{xs:List V}{g:TG}{tb:TS}{D:rR}{σ:St}{H:Hp}(Pv:Nat->St->Hp->Prop)(h0:Pv 0 σ H)(hl:∀i σ H,i<=xs.length->Pv i σ H->eI K H a xs)
  (hs:∀i x σ H,xs[i]?=some x->Pv i σ H->g x σ H λσ2 H2=>tb { D with nx:=Pv (i+1),ct:=Pv (i+1),bk:=D.nx } σ2 H2) (hd:∀σ H,Pv xs.length σ H->D.nx σ H) :
  ∃W:Nat->Nat->St->Hp->Prop,(∃m,W 0 m σ H)/\∀i m σ H,W i m σ H ->
   ((QU K a).stop i H/\D.nx σ H)\/((QU K a).go i H/\∃N:St->Hp->Prop,(∀σ' H',N σ' H'->∃m',m' < m/\W (i+1) m' σ' H')/\∀x H',(QU K a).yld i H x H'->g x σ H' λσ2 H2=>tb { D with nx:=N,ct:=N,bk:=D.nx } σ2 H2):=by
 refine ⟨λi m σ H=>m=xs.length-i/\i<=xs.length/\Pv i σ H,⟨xs.length,by simp,cB _,h0⟩,?_⟩;rintro i m σ H ⟨rfl,hi,p⟩;have q:=hl i σ H hi p;by_cases hlt:i<xs.length
 ·refine .inr ⟨⟨xs,xs[i],q,by simp [hlt]⟩,Pv (i+1),λσ' H' p'=>⟨xs.length-(i+1),Oo,rfl,hlt,p'⟩,λx H' y=>?_⟩;obtain ⟨e,y⟩:=y;subst e;exact hs i x σ _ (y xs q) p
 ·have e:i=xs.length:=Oo;subst e;exact .inl ⟨⟨xs,q,aK _⟩,hd σ H p⟩
theorem vJ{lo:Int}{n:Nat}{g:TG}{tb:TS}{D:rR}{σ:St}{H:Hp}(Pv:Nat->St->Hp->Prop)(h0:Pv 0 σ H)
  (hs:∀i σ H,i<n->Pv i σ H->g (.int (lo+i)) σ H λσ2 H2=>tb { D with nx:=Pv (i+1),ct:=Pv (i+1),bk:=D.nx } σ2 H2) (hd:∀σ H,Pv n σ H->D.nx σ H) :
  ∃W:Nat->Nat->St->Hp->Prop,(∃m,W 0 m σ H)/\∀i m σ H,W i m σ H ->
   ((QV lo n).stop i H/\D.nx σ H)\/((QV lo n).go i H/\∃N:St->Hp->Prop,(∀σ' H',N σ' H'->∃m',m' < m/\W (i+1) m' σ' H')/\∀x H',(QV lo n).yld i H x H'->g x σ H' λσ2 H2=>tb { D with nx:=N,ct:=N,bk:=D.nx } σ2 H2):=by
 refine ⟨λi m σ H=>m=n-i/\i<=n/\Pv i σ H,⟨n,by simp,cB _,h0⟩,?_⟩;rintro i m σ H ⟨rfl,hi,p⟩;by_cases hlt:i<n
 ·refine .inr ⟨hlt,Pv (i+1),λσ' H' p'=>⟨n-(i+1),Oo,rfl,hlt,p'⟩,λx H' y=>?_⟩;obtain ⟨e,y⟩:=y;subst e y;exact hs i σ _ hlt p
 ·have e:i=n:=Oo;subst e;exact .inl ⟨aK _,hd σ H p⟩
abbrev R2:=V->V->Hp->VK->Prop
def lN(X:Cx)(f:Value->Value->Sem Value)(r:R2):Prop :=
 ∀(pins:List (Addr × Obj)) (s:Shared) (σ:St) (H:Hp) (x y:V) (v u:Value) (Q:VK),bY X pins σ H s->cW x v->cW y u->r x y H Q ->
  wpAny (model X.prog X.w) X.A (f v u) (EP X pins σ Q) X.xe s
def UnR(X:Cx)(f:Value->Sem Value)(r:V->Hp->VK->Prop):Prop :=
 ∀(pins:List (Addr × Obj)) (s:Shared) (σ:St) (H:Hp) (x:V) (v:Value) (Q:VK),bY X pins σ H s->cW x v->r x H Q ->
  wpAny (model X.prog X.w) X.A (f v) (EP X pins σ Q) X.xe s
def eW(X:Cx)(f:Value)(r:List V->Hp->VK->Prop):Prop :=
 ∀(pins:List (Addr × Obj)) (s:Shared) (σ:St) (H:Hp) (xs:List V) (us:List Value) (Q:VK),bY X pins σ H s->cJ xs us->r xs H Q ->
  wpAny (model X.prog X.w) X.A (call f us) (EP X pins σ Q) X.xe s
def HW(r:R2)(ta tb:TE):TE:=λσ H Q=>ta σ H λx H1=>tb σ H1 λy H2=>r x y H2 Q
def tUn(r:V->Hp->VK->Prop)(ta:TE):TE:=λσ H Q=>ta σ H λx H1=>r x H1 Q
def rI(C:Int->Int->Prop)(g:Int->Int->V):R2:=λx y H Q=>∃i j,x=.int i/\y=.int j/\C i j/\Q (g i j) H
def NT(g:Int->Int->V):R2:=λx y H Q=>∃i j,x=.int i/\y=.int j/\Q (g i j) H
def rU(g:Int->V):V->Hp->VK->Prop:=λx H Q=>∃i,x=.int i/\Q (g i) H
section
variable{X:Cx}{a b c:Expr}{ta tb tc:TE}{pos:Pos}
theorem WT(ha:PE X a ta)(hb:PE X b tb){pins:List (Addr × Obj)}{s:Shared}{σ:St}{H:Hp}{R:V->V->Hp->Prop}(I:bY X pins σ H s)
  (h:ta σ H λx H1=>tb σ H1 λy H2=>R x y H2) {Q:Value->Shared->Prop} {f:Value->Value->Sem Value}
  (hf:∀v u s2 x y H2,bY X pins σ H2 s2->cW x v->cW y u->R x y H2->wpAny (model X.prog X.w) X.A (f v u) Q X.xe s2) :
  wpAny (model X.prog X.w) X.A (eval a X.env) (λv s₁=>wpAny (model X.prog X.w) X.A (eval b X.env) (λu s₂=>wpAny (model X.prog X.w) X.A (f v u) Q X.xe s₂) X.xe s₁) X.xe s:=by
 refine thn (ha pins s σ H _ I h) λv s1 ⟨x,H1,I1,r1,q1⟩=>?_;refine thn (hb pins s1 σ H1 _ I1 q1) λu s2 ⟨y,H2,I2,r2,q2⟩=>?_;exact hf v u s2 x y H2 I2 r1 r2 q2
theorem YX{op:Operator}{r:R2}(ho:lN X (binaryOp op) r)(ha:PE X a ta)(hb:PE X b tb):PE X (.BinOp a op b pos) (HW r ta tb):=by
 intro pins s σ H Q I h;exact wpAny_BinOp (WT ha hb I h λv u s2 x y H2 I2 rx ry q=>ho pins s2 σ H2 x y v u Q I2 rx ry q)
theorem YW{op:UnaryOp}{r:V->Hp->VK->Prop}(ho:UnR X (unaryOp op) r)(ha:PE X a ta):PE X (.UnaryOp op a pos) (tUn r ta):=by
 intro pins s σ H Q I h;exact UnaryOp_ (thn (ha pins s σ H _ I h) λv s1 ⟨x,H1,I1,r1,q1⟩=>ho pins s1 σ H1 x v Q I1 r1 q1)
theorem opI{f:Value->Value->Sem Value}{C:Int->Int->Prop}{g:Int->Int->Int}
  (rule:∀(i j:Int) (t u:Tok) (s:Shared) (Q:Value->Shared->Prop) (E:Value->Shared->Prop),C i j->Q (.int (g i j) s.toks) { s with toks:=s.toks+1 }->wpAny (model X.prog X.w) X.A (f (.int i t) (.int j u)) Q E s) :
  lN X f (rI C λi j=>.int (g i j)):=by
 intro pins s σ H x y v u Q I rx ry h;obtain ⟨i,j,rfl,rfl,hc,q⟩:=h;obtain ⟨t,rfl⟩:=rx;obtain ⟨t',rfl⟩:=ry;exact rule i j t t' s _ _ hc ⟨.int (g i j),H,I.tok _,⟨_,rfl⟩,q⟩
theorem ZC{f:Value->Value->Sem Value}{g:Int->Int->Int}
  (rule:∀(i j:Int) (t u:Tok) (s:Shared) (Q:Value->Shared->Prop) (E:Value->Shared->Prop),Q (.int (g i j) s.toks) { s with toks:=s.toks+1 }->wpAny (model X.prog X.w) X.A (f (.int i t) (.int j u)) Q E s) :
  lN X f (NT λi j=>.int (g i j)):=by
 intro pins s σ H x y v u Q I rx ry h;obtain ⟨i,j,rfl,rfl,q⟩:=h;obtain ⟨t,rfl⟩:=rx;obtain ⟨t',rfl⟩:=ry;exact rule i j t t' s _ _ ⟨.int (g i j),H,I.tok _,⟨_,rfl⟩,q⟩
theorem OX{f:Value->Value->Sem Value}{g:Int->Int->Bool}
  (rule:∀(i j:Int) (t u:Tok) (s:Shared) (Q:Value->Shared->Prop) (E:Value->Shared->Prop),Q (.bool (g i j)) s->wpAny (model X.prog X.w) X.A (f (.int i t) (.int j u)) Q E s) :
  lN X f (NT λi j=>.bl (g i j)):=by
 intro pins s σ H x y v u Q I rx ry h;obtain ⟨i,j,rfl,rfl,q⟩:=h;obtain ⟨t,rfl⟩:=rx;obtain ⟨t',rfl⟩:=ry;exact rule i j t t' s _ _ ⟨.bl (g i j),H,I,rfl,q⟩
def aBM(i j:Int):Prop:=0<=j/\j<=1000000/\i.natAbs<2^64
theorem dU:lN X (binaryOp .Add) (NT λi j=>.int (i+j)):=ZC λ_ _ _ _ _ _ _ q=>add_int q
theorem pY:lN X (binaryOp .Sub) (NT λi j=>.int (i-j)):=ZC λ_ _ _ _ _ _ _ q=>sub_int q
theorem mI:lN X (binaryOp .Mod) (rI (λ_ j=>0<j) λi j=>.int (i % j)):=opI λi j _ _ _ _ _ hc q=>by
 have h1:(0:Int)<j:=hc;exact mod_int' Oo (by rw [Int.fmod_eq_emod_of_nonneg i Oo];exact q)
theorem JZ:lN X (binaryOp .Pow) (rI aBM λi j=>.int (i^j.toNat)):=opI λ_ _ _ _ _ _ _ hc q=>pow_int_small hc.1 hc.2.1 hc.2.2 q
theorem unI{f:Value->Sem Value}{g:Int->Int}
  (rule:∀(i:Int) (t:Tok) (s:Shared) (Q:Value->Shared->Prop) (E:Value->Shared->Prop),Q (.int (g i) s.toks) { s with toks:=s.toks+1 }->wpAny (model X.prog X.w) X.A (f (.int i t)) Q E s) :
  UnR X f (rU λi=>.int (g i)):=by
 intro pins s σ H x v Q I rx h;obtain ⟨i,rfl,q⟩:=h;obtain ⟨t,rfl⟩:=rx;exact rule i t s _ _ ⟨.int (g i),H,I.tok _,⟨_,rfl⟩,q⟩
theorem sJ:UnR X (unaryOp .USub) (rU λi=>.int (-i)):=unI λ_ _ _ _ _ q=>neg_int q
end
def scal:V->V->Bool
 | .non,.non=>true | .non,.int _=>true | .int _,.non=>true | .non,.bl _=>true | .bl _,.non=>true | .non,.str _=>true | .str _,.non=>true
 | .int _,.int _=>true | .bl _,.bl _=>true | .str _,.str _=>true | .byt _,.byt _=>true
 | .int _,.str _=>true | .str _,.int _=>true | .bl _,.str _=>true | .str _,.bl _=>true
 | _,_=>false
def rEq:R2:=λx y H Q=>scal x y=true/\Q (.bl (decide (x=y))) H
def rNe:R2:=λx y H Q=>scal x y=true/\Q (.bl (!decide (x=y))) H
theorem EO{i j:Int}:decide (V.int i=V.int j)=(i == j):=by
 rw [Bool.eq_iff_iff];simp
theorem LE{i j:Bool}:decide (V.bl i=V.bl j)=(i == j):=by
 rw [Bool.eq_iff_iff];simp
theorem EN{i j:Str}:decide (V.str i=V.str j)=(i == j):=by
 rw [Bool.eq_iff_iff];simp
theorem EQ{i j:Array UInt8}:decide (V.byt i=V.byt j)=(i.toList == j.toList):=by
 rw [Bool.eq_iff_iff];cases i;cases j;simp
section
variable{X:Cx}{a b c:Expr}{ta tb tc:TE}{pos:Pos}
theorem dF{pins:List (Addr × Obj)}{σ:St}{H:Hp}{s:Shared}{Q:VK}{k k':Bool}(I:bY X pins σ H s)(q:Q (.bl k) H)(e:k=k'):EP X pins σ Q (.bool k') s:=by
 subst e;exact ⟨.bl k,H,I,rfl,q⟩
theorem jI:lN X (compareOp .Eq) rEq:=by
 intro pins s σ H x y v u Q I rx ry h;obtain ⟨hs,q⟩:=h;cases x with
 | non =>
  cases rx;cases y with
  | non=>cases ry;exact PySem.EqNone.eq_none_none (dF I q (by simp))
  | bl j=>cases ry;exact PySem.EqNone.eq_none_bool (dF I q (by simp))
  | int j=>obtain ⟨t',rfl⟩:=ry;exact PySem.EqNone.eq_none_int (dF I q (by simp))
  | str j=>obtain ⟨t',rfl⟩:=ry;exact PySem.EqNone.eq_none_str (dF I q (by simp))
  | _=>exact absurd (show false=true from hs) bQ
 | bl i =>
  cases rx;cases y with
  | non=>cases ry;exact PySem.EqNone.eq_bool_none (dF I q (by simp))
  | bl j=>cases ry;exact eq_bool (dF I q LE)
  | str j=>obtain ⟨t',rfl⟩:=ry;exact PySem.EqMixed.eq_bool_str (dF I q (by simp))
  | _=>exact absurd (show false=true from hs) bQ
 | int i =>
  obtain ⟨t,rfl⟩:=rx;cases y with
  | non=>cases ry;exact PySem.EqNone.eq_int_none (dF I q (by simp))
  | int j=>obtain ⟨t',rfl⟩:=ry;exact eq_int (dF I q EO)
  | str j=>obtain ⟨t',rfl⟩:=ry;exact PySem.EqMixed.eq_int_str (dF I q (by simp))
  | _=>exact absurd (show false=true from hs) bQ
 | str i =>
  obtain ⟨t,rfl⟩:=rx;cases y with
  | non=>cases ry;exact PySem.EqNone.eq_str_none (dF I q (by simp))
  | bl j=>cases ry;exact PySem.EqMixed.eq_str_bool (dF I q (by simp))
  | int j=>obtain ⟨t',rfl⟩:=ry;exact PySem.EqMixed.eq_str_int (dF I q (by simp))
  | str j=>obtain ⟨t',rfl⟩:=ry;exact eq_str (dF I q EN)
  | _=>exact absurd (show false=true from hs) bQ
 | byt i =>
  obtain ⟨t,rfl⟩:=rx;cases y with
  | byt j=>obtain ⟨t',rfl⟩:=ry;exact PySem.W.eq_bytes (dF I q EQ)
  | _=>exact absurd (show false=true from hs) bQ
 | _=>cases y <;> exact absurd (show false=true from hs) bQ
theorem uZ:lN X (compareOp .NotEq) rNe:=by
 intro pins s σ H x y v u Q I rx ry h;obtain ⟨hs,q⟩:=h;cases x with
 | non =>
  cases rx;cases y with
  | non=>cases ry;exact PySem.EqNone.ne_none_none (dF I q (by simp))
  | bl j=>cases ry;exact PySem.EqNone.ne_none_bool (dF I q (by simp))
  | int j=>obtain ⟨t',rfl⟩:=ry;exact PySem.EqNone.ne_none_int (dF I q (by simp))
  | str j=>obtain ⟨t',rfl⟩:=ry;exact PySem.EqNone.ne_none_str (dF I q (by simp))
  | _=>exact absurd (show false=true from hs) bQ
 | bl i =>
  cases rx;cases y with
  | non=>cases ry;exact PySem.EqNone.ne_bool_none (dF I q (by simp))
  | bl j=>cases ry;exact ne_bool (dF I q (congrArg not LE))
  | str j=>obtain ⟨t',rfl⟩:=ry;exact PySem.EqMixed.ne_bool_str (dF I q (by simp))
  | _=>exact absurd (show false=true from hs) bQ
 | int i =>
  obtain ⟨t,rfl⟩:=rx;cases y with
  | non=>cases ry;exact PySem.EqNone.ne_int_none (dF I q (by simp))
  | int j=>obtain ⟨t',rfl⟩:=ry;exact ne_int (dF I q (congrArg not EO))
  | str j=>obtain ⟨t',rfl⟩:=ry;exact PySem.EqMixed.ne_int_str (dF I q (by simp))
  | _=>exact absurd (show false=true from hs) bQ
 | str i =>
  obtain ⟨t,rfl⟩:=rx;cases y with
  | non=>cases ry;exact PySem.EqNone.ne_str_none (dF I q (by simp))
  | bl j=>cases ry;exact PySem.EqMixed.ne_str_bool (dF I q (by simp))
  | int j=>obtain ⟨t',rfl⟩:=ry;exact PySem.EqMixed.ne_str_int (dF I q (by simp))
  | str j=>obtain ⟨t',rfl⟩:=ry;exact ne_str (dF I q (congrArg not EN))
  | _=>exact absurd (show false=true from hs) bQ
 | byt i =>
  obtain ⟨t,rfl⟩:=rx;cases y with
  | byt j=>obtain ⟨t',rfl⟩:=ry;exact PySem.W.ne_bytes (dF I q (congrArg not EQ))
  | _=>exact absurd (show false=true from hs) bQ
 | _=>cases y <;> exact absurd (show false=true from hs) bQ
theorem KB:lN X (compareOp .Lt) (NT λi j=>.bl (decide (i<j))):=OX λ_ _ _ _ _ _ _ q=>lt_int q
theorem DO:lN X (compareOp .LtE) (NT λi j=>.bl (decide (i<=j))):=OX λ_ _ _ _ _ _ _ q=>le_int q
theorem sV:lN X (compareOp .Gt) (NT λi j=>.bl (decide (j<i))):=OX λ_ _ _ _ _ _ _ q=>gt_int q
theorem RN:lN X (compareOp .GtE) (NT λi j=>.bl (decide (j<=i))):=OX λ_ _ _ _ _ _ _ q=>ge_int q
theorem nomark(b:Expr){op:CmpOp}(h:op ≠ .In:=by decide)(h2:op ≠ .NotIn:=by decide):behindInMarks op b=false:=by
 have e1:(op == CmpOp.In)=false:=by cases op <;> first | rfl | exact absurd rfl h
 have e2:(op == CmpOp.NotIn)=false:=by cases op <;> first | rfl | exact absurd rfl h2
 cases b <;> simp [behindInMarks,e1,e2]
theorem OR{op:CmpOp}{r:R2}(ho:lN X (compareOp op) r)(ha:PE X a ta)(hb:PE X b tb)(hm:behindInMarks op b=false):PE X (.Compare a [op] [b] pos) (HW r ta tb):=by
 intro pins s σ H Q I h;exact wpAny_Compare1 (WT ha hb I h λv u s2 x y H2 I2 rx ry q=>ho pins s2 σ H2 x y v u Q I2 rx ry q) hm
def QZ(t:TE):TT:=λσ H Q=>t σ H λx H'=>∃k,x=.bl k/\Q k H'
theorem OE{op:CmpOp}{r:R2}(ho:lN X (compareOp op) r)(ha:PE X a ta)(hb:PE X b tb)(hm:behindInMarks op b=false):PT X (.Compare a [op] [b] pos) (QZ (HW r ta tb)):=by
 intro pins s σ H Q I h;refine wpAny_isTrue_Compare1 (thn (ha pins s σ H _ I h) λv s1 ⟨x,H1,I1,r1,q1⟩=>thn (hb pins s1 σ H1 _ I1 q1) λu s2 ⟨y,H2,I2,r2,q2⟩ =>
  thn (ho pins s2 σ H2 x y v u _ I2 r1 r2 q2) λc s3 ⟨z,H3,I3,r3,k,e,q3⟩=>?_) hm
 subst e;cases r3;exact wpAny_truthy_bool ⟨H3,I3,q3⟩
def IQ(r r':R2)(ta tb tc:TE):TE:=λσ H Q=>ta σ H λx H1=>tb σ H1 λy H2=>r x y H2 λz H3=>∃k,z=.bl k /\
 (if k=true then tc σ H3 λw' H4=>r' y w' H4 Q else Q (.bl false) H3)
theorem JW{op op':CmpOp}{r r':R2}(ho:lN X (compareOp op) r)(ho':lN X (compareOp op') r')(ha:PE X a ta)(hb:PE X b tb)(hc:PE X c tc)
  (hm:lastMarks [op,op'] [b,c]=false:=by with_unfolding_all rfl):PE X (.Compare a [op,op'] [b,c] pos) (IQ r r' ta tb tc):=by
 intro pins s σ H Q I h;refine Compare_chain (thn (ha pins s σ H _ I h) λv s1 ⟨x,H1,I1,r1,q1⟩=>chain_link (thn (hb pins s1 σ H1 _ I1 q1) λu s2 ⟨y,H2,I2,r2,q2⟩ =>
  thn (ho pins s2 σ H2 x y v u _ I2 r1 r2 q2) λd s3 ⟨z,H3,I3,r3,k,e,q3⟩=>?_)) hm
 subst e;cases r3;refine wpAny_truthy_bool ?_;cases k with
 | false=>exact ite_ff ⟨.bl false,H3,I3,rfl,q3⟩
 | true=>exact ite_tt (chain_last (thn (hc pins s3 σ H3 _ I3 q3) λw' s4 ⟨z',H4,I4,r4,q4⟩=>ho' pins s4 σ H4 y z' u w' Q I4 r2 r4 q4))
theorem sZ:(sizeLine:Nat)<2^63:=by rw [sizeLine_eq];decide
theorem iG{x:V}{us:List Value}(r:cJ [x] us):∃u,us=[u]/\cW x u:=by
 cases r with
 | cons r1 r2=>cases r2;exact ⟨_,rfl,r1⟩
theorem uP{x y:V}{us:List Value}(r:cJ [x,y] us):∃u w',us=[u,w']/\cW x u/\cW y w':=by
 cases r with
 | cons r1 r2 =>
  cases r2 with
  | cons r3 r4=>cases r4;exact ⟨_,_,rfl,r1,r3⟩
theorem LQ:eW X (.builtin "abs") (λxs H Q=>∃i,xs=[.int i]/\Q (.int (if i<0 then -i else i)) H):=by
 intro pins s σ H xs us Q I r h;obtain ⟨i,rfl,q⟩:=h;obtain ⟨u,rfl,t,rfl⟩:=iG r;exact call_abs_int λu tk=>⟨.int (if i<0 then -i else i),H,I.tok _,⟨_,rfl⟩,q⟩
theorem HG(hc:X.calm=true):eW X (.builtin "max") (λxs H Q=>∃i j,xs=[.int i,.int j]/\Q (.int (if j > i then j else i)) H):=by
 intro pins s σ H xs us Q I r h;obtain ⟨i,j,rfl,q⟩:=h;obtain ⟨u,w',rfl,⟨t,rfl⟩,⟨t',rfl⟩⟩:=uP r;refine max_two_ints (I.ok.hd hc) λh' tk k=>⟨_,H,I.kept k,?_,q⟩;by_cases hj:j > i
 ·rw [if_pos hj,if_pos hj];exact ⟨_,rfl⟩
 ·rw [if_neg hj,if_neg hj];exact ⟨_,rfl⟩
theorem HH:eW X (.type "int") (λxs H Q=>(∃i,xs=[.int i]/\Q (.int i) H)\/∃k,xs=[.bl k]/\Q (.int (if k then 1 else 0)) H):=by
 intro pins s σ H xs us Q I r h;rcases h with ⟨i,rfl,q⟩ | ⟨k,rfl,q⟩
 ·obtain ⟨u,rfl,t,rfl⟩:=iG r;exact call_int_int ⟨.int i,H,I,⟨_,rfl⟩,q⟩
 ·obtain ⟨u,rfl,r1⟩:=iG r;cases r1;exact call_int_bool ⟨.int (if k then 1 else 0),H,I.tok _,⟨_,rfl⟩,q⟩
def aAa(K:PySem.W.Frag)(x:V)(H:Hp)(n:Nat):Prop :=
 match x with
 | .str y=>y.length<=sizeLine/\n=y.length
 | .byt y=>y.size<=sizeLine/\n=y.size
 | .ref p=>(∃xs,gG K H p xs/\n=xs.length)\/∃xs,eI K H p xs/\n=xs.length
 | _=>False
theorem LP:eW X (.builtin "len") (λxs H Q=>∃x n,xs=[x]/\aAa X.K x H n/\Q (.int n) H):=by
 intro pins s σ H xs us Q I r h;obtain ⟨x,n,rfl,e,q⟩:=h;obtain ⟨u,rfl,rx⟩:=iG r;have hl:=sZ;have hs:sizeLine=16777216:=sizeLine_eq;cases x with
 | str y =>
  obtain ⟨t,rfl⟩:=rx;obtain ⟨hy,e'⟩:y.length<=sizeLine/\n=y.length:=e;subst e';exact len_str Oo ⟨.int _,H,I.tok _,⟨_,rfl⟩,q⟩
 | byt y =>
  obtain ⟨t,rfl⟩:=rx;obtain ⟨hy,e'⟩:y.size<=sizeLine/\n=y.size:=e;subst e';exact PySem.W.len_bytes Oo ⟨.int _,H,I.tok _,⟨_,rfl⟩,q⟩
 | ref p =>
  cases rx;have e':(∃xs,gG X.K H p xs/\n=xs.length)\/∃xs,eI X.K H p xs/\n=xs.length:=e;rcases e' with ⟨xs,hx,e'⟩ | ⟨xs,hx,e'⟩
  ·subst e';obtain ⟨its,r',pl,hz⟩:=I.list hx;have hlen:=r'.length;exact Calls.call_len_list pl.isList (by simp only [aO];omega) ⟨.int xs.length,H,I.tok _,⟨_,by simp only [aO];rw [hlen]⟩,q⟩
  ·subst e';obtain ⟨its,r',pl,hz⟩:=I.tuple hx;have hlen:=r'.length;exact len_tuple pl (by simp only [aO];omega) ⟨.int xs.length,H,I.tok _,⟨_,by simp only [aO];rw [hlen]⟩,q⟩
 | _=>exact (show False from e).elim
end
structure XC(h:Heap)(x dx C:Addr)(mA:Str->Option Value):Prop where
 obj:h.get? x=some (PySem.W.instObj C dx)
 ns:h.Ns1 dx mA
 ne:dx≠x
theorem GM{h:Heap}{dx:Addr}{mA:Str->Option Value}(n:h.Ns1 dx mA):∃od,h.get? dx=some od/\∀name,PySem.W.lookIn name od=some (mA name):=by
 obtain ⟨o,es,ep,ho,hd,hk,_,hm⟩:=n;refine ⟨o,ho,λname=>?_⟩;have e:=hm name;unfold nsFind findBy at e;rw [<-Array.find?_toList] at e;unfold PySem.W.lookIn;rw [hd];dsimp only;split
 ·rename_i y q
  rw [q] at e;exact congrArg some e
 ·rename_i q
  rw [q] at e;have a:es.toList.any (·.refKey)=false:=by
   rw [List.any_eq_false];intro y hy;obtain ⟨z,t,hkey⟩:=hk y (Array.mem_toList_iff.mp hy);simp [DictEntry.refKey,hkey]
  have a':¬es.toList.any (·.refKey)=true:=by rw [a];exact bQ
  rw [if_neg a'];exact congrArg some e
theorem XC.look{h:Heap}{x dx C:Addr}{mA:Str->Option Value}(I:XC h x dx C mA):∃od,PySem.W.InstAt h x (PySem.W.instObj C dx) C (some od)/\∀name,PySem.W.lookIn name od=some (mA name) :=
 let ⟨od,ho,hl⟩:=GM I.ns
 ⟨od,⟨I.obj,rfl,rfl,ho⟩,hl⟩
section
variable{prog:Program}{w:World}{A:Around}{E:Value->Shared->Prop}{s:Shared}{K:PySem.W.Frag}{x dx C f:Addr}{mA:Str->Option Value}{name:Str}{v:Value}
end
theorem uB.some_of{v:V}{o:Option Value}(r:uB (some v) o):∃u,o=some u/\cW v u:=by
 cases o with
 | none=>exact (show False from r).elim
 | some u=>exact ⟨u,rfl,r⟩
section
variable{P:Program}{w:World}{H H':Hp}{h h':Heap}{a C dx:Addr}{fs fs':List (Str × V)}
theorem PR(hok:mW P w H h)(e:H a=some (.ins C dx fs)):∃mA,XC h a dx C mA/\(∀f,uB (fs.lookup f) (mA f))/\PySem.Within mA (fs.map (·.1))/\fs.length<=1000/\H dx=some (.own a):=by
 obtain ⟨d,z,ne,ob,mA,n,r,q⟩:=(show dL P w H h a (.ins C dx fs) from hok a _ e);exact ⟨mA,⟨ob,n,ne⟩,r,q,z,d⟩
end
structure Cls(K:PySem.W.Frag)(C:Addr):Prop where
 pg:PySem.W.plainGet K C Str.empty=true
 hd:PySem.W.hasDictIn K C=true
 po:PySem.W.plainOver K C=true
 sa:PySem.W.findIn K (.ref C) "__setattr__" = some (some (.builtin "object.__setattr__"))
theorem Cls.get{K:PySem.W.Frag}{C:Addr}(c:Cls K C)(f:Str):PySem.W.plainGet K C f=true:=c.pg
section
variable{X:Cx}{pins:List (Addr × Obj)}{σ:St}{H:Hp}{s:Shared}{a C dx:Addr}{fs:List (Str × V)}{f:Str}{v:V}{A:Around}{E:Value->Shared->Prop}
end
section
variable{X:Cx}{o e value:Expr}{f:Str}{pos pos' tpos:Pos}{ta tv:TE}
end
section
variable{X:Cx}{pins:List (Addr × Obj)}{σ:St}{H:Hp}{s:Shared}{A:Around}{E:Value->Shared->Prop}{Q:Value->Shared->Prop}{c:Value}{b:Bool}
inductive nY (K:PySem.W.Frag) (H:Hp):V->Value->Prop where
 | non:nY K H .non (.type "NoneType")
 | bl (x:Bool):nY K H (.bl x) (.type "bool")
 | int (i:Int):nY K H (.int i) (.type "int")
 | str (x:Str):nY K H (.str x) (.type "str")
 | flt (x:UInt64):nY K H (.flt x) (.type "float")
 | lst {a:Addr} {xs:List V} (e:H a=some (.lst xs)):nY K H (.ref a) (.type "list")
 | frz {a:Addr} {o:Obj} {xs:List V} (e:H a=some (.frz o (.lst xs))):nY K H (.ref a) (.type "list")
 | tup {a:Addr} {xs:List V} (e:H a=some (.tup xs)):nY K H (.ref a) (.type "tuple")
 | dK {a:Addr} {kvs:List (dE × V)} (e:H a=some (.dK kvs)):nY K H (.ref a) (.type "dict")
 | dT {a:Addr} {kvs:List (List dE × V)} (e:H a=some (.dT kvs)):nY K H (.ref a) (.type "dict")
 | ins {a C dx:Addr} {fs:List (Str × V)} (e:H a=some (.ins C dx fs)) (cl:Cls K C) (ha:PySem.W.findIn K (.ref C) "__class__" = some (some (.builtin "object.__class__")))
   (hn:PySem.W.specialIn K (.builtin "object.__class__") "__get__" = some (some (.builtin "getset_descriptor.__get__"))) (htk:PySem.W.takesIn K (.builtin "object.__class__")=some true)
   (hm:PySem.W.mroIn K C (.type "object")=some true):nY K H (.ref a) (.ref C)
theorem qC{x:V}{u t:Value}(I:bY X pins σ H s)(rx:cW x u)(ty:nY X.K H x t)(e:PySem.W.kitOne X.K t c=some b)(h:∀tk,Q (.bool b) { s with toks:=tk }) :
  wpAny (model X.prog X.w) A (call (.builtin "isinstance") [u,c]) Q E s:=by
 cases ty with
 | non=>cases (show u=Value.none from rx);exact PySem.W.kia_one PySem.W.kitx_none I.kIn True.intro e (λz=>nomatch z) h
 | bl y=>cases (show u=Value.bool y from rx);exact PySem.W.kia_one PySem.W.kitx_bool I.kIn True.intro e (λz=>nomatch z) h
 | int i=>obtain ⟨t,q⟩:=(show ∃t,u=Value.int i t from rx);cases q;exact PySem.W.kia_one PySem.W.kitx_int I.kIn True.intro e (λz=>nomatch z) h
 | str y=>obtain ⟨t,q⟩:=(show ∃t,u=Value.str y t from rx);cases q;exact PySem.W.kia_one PySem.W.kitx_str I.kIn True.intro e (λz=>nomatch z) h
 | flt y=>obtain ⟨t,q⟩:=(show ∃t,u=Value.float y t from rx);cases q;exact PySem.W.kia_one PySem.W.kitx_float I.kIn True.intro e (λz=>nomatch z) h
 | @lst a xs ea =>
  cases (show u=Value.ref a from rx);obtain ⟨_,_,n,_,h1⟩:=(show dL X.prog X.w H s.heap a (.lst xs) from I.hok a _ ea);exact PySem.W.kia_one PySem.W.kitx_list I.kIn ⟨_,h1,rfl⟩ e (λz=>nomatch z) h
 | @frz a ob xs ea =>
  cases (show u=Value.ref a from rx);obtain ⟨_,_,_,n,_,h1⟩:=(show dL X.prog X.w H s.heap a (.frz ob (.lst xs)) from I.hok a _ ea);exact PySem.W.kia_one PySem.W.kitx_list I.kIn ⟨_,h1,rfl⟩ e (λz=>nomatch z) h
 | @tup a xs ea =>
  cases (show u=Value.ref a from rx);obtain ⟨_,_,_,p⟩:=(show dL X.prog X.w H s.heap a (.tup xs) from I.hok a _ ea);obtain ⟨o,h1,h2,_⟩:=p;exact PySem.W.kia_one PySem.W.kitx_tuple I.kIn ⟨o,h1,h2⟩ e (λz=>nomatch z) h
 | @dK a kvs ea =>
  cases (show u=Value.ref a from rx);obtain ⟨_,_,vs,_,p⟩:=(show dL X.prog X.w H s.heap a (.dK kvs) from I.hok a _ ea);obtain ⟨o,es,ep,h1,h2,_⟩:=p;exact PySem.W.kia_one PySem.W.kitx_dict I.kIn ⟨o,h1,h2.1⟩ e (λz=>nomatch z) h
 | @dT a kvs ea =>
  cases (show u=Value.ref a from rx);obtain ⟨_,_,xs,_,o,es,ep,h1,h2,_⟩:=(show dL X.prog X.w H s.heap a (.dT kvs) from I.hok a _ ea);exact PySem.W.kia_one PySem.W.kitx_dict I.kIn ⟨o,h1,h2.1⟩ e (λz=>nomatch z) h
 | @ins a C dx fs ea cl ha hn htk hm =>
  cases (show u=Value.ref a from rx);obtain ⟨mA,O,_⟩:=PR I.hok ea;obtain ⟨od,J,_⟩:=O.look;exact PySem.W.kia_one (PySem.W.kitx_own (cl.get _) cl.hd ha hn htk hm) I.kIn J e (λz=>nomatch z) h
end
structure gA(k:Nat)(A:Around):Prop where
 hd:A.handled=none
 dp:A.depth+3*k+5<recursionLimit
 un:A.units+16*k+200<cLine
 gd:A.guards=some []
theorem gA.mono{j k:Nat}{A:Around}(r:gA k A)(h:j<=k):gA j A:=⟨r.hd,by have:=r.dp;omega,by have:=r.un;omega,r.gd⟩
theorem gA.deeper{k:Nat}{A:Around}(r:gA (k+1) A)(env:Env):gA k (A.deeper env) :=
 ⟨r.hd,by have:=r.dp;show A.depth+1+3*k+5<_;omega,by have:=r.un;show A.units+3+16*k+200<_;omega,r.gd⟩
theorem gA.in1{k:Nat}{A:Around}(r:gA (k+1) A):gA k A.in1 :=
 ⟨r.hd,by have:=r.dp;show A.depth+3*k+5<_;omega,by have:=r.un;show A.units+1+16*k+200<_;omega,r.gd⟩
theorem gA.depth{k:Nat}{A:Around}(r:gA k A):A.depth<recursionLimit:=by have:=r.dp;omega
theorem gA.units{k:Nat}{A:Around}(r:gA k A):A.units+64<cLine:=by have:=r.un;omega
def SR:TA:=λ_ H Q=>Q [] H
def IN(ta:TE)(tr:TA):TA:=λσ H Q=>ta σ H λx H1=>tr σ H1 λxs H2=>Q (x::xs) H2
section
variable{X:Cx}{e:Expr}{es:List Expr}{te:TE}{t:TA}{pos:Pos}
theorem pa_nil:PA X [] SR:=λ_ _ _ _ H Q I h=>Calls.spliced_nil ⟨[],H,I,.nil,h⟩
theorem OU(ha:PE X e te)(hr:PA X es t)(hs:starEach (e::es) X.env=(false,eval e X.env)::starEach es X.env:=by rfl):PA X (e::es) (IN te t):=by
 intro pos pins s σ H Q I h;rw [hs];show wpAny _ _ (spliced ((false,eval e X.env)::backTo pos (starEach es X.env))) _ _ s;refine Calls.spliced_cons (thn (ha pins s σ H _ I h) λu s1 ⟨x,H1,I1,r1,q1⟩=>?_);exact thn (hr pos pins s1 σ H1 _ I1 q1) λus s2 ⟨xs,H2,I2,r2,q2⟩=>⟨x::xs,H2,I2,.cons r1 r2,q2⟩
def aAp(t:TA):TE:=λσ H Q=>t σ H λxs H1=>xs.length<=sizeLine/\∀p,H1 p=none->Q (.ref p) (upd H1 p (.tup xs))
def aAr(t:TA):TE:=λσ H Q=>t σ H λxs H1=>xs.length<=sizeLine/\∀p,H1 p=none->Q (.ref p) (upd H1 p (.lst xs))
theorem US{x1}(h:PA X es t):PE X (.Tuple es x1 pos) (aAp t):=by
 intro pins s σ H Q I hq;refine wpAny_Tuple_spliced (thn (h pos pins s σ H _ I hq) λus s1 ⟨xs,H1,I1,r,z,q⟩=>⟨by rw [<-r.length];exact z,?_⟩);have hf:H1 s1.heap.objs.size=none:=I1.hok.fresh (aK _);refine ⟨.ref s1.heap.objs.size,upd H1 s1.heap.objs.size (.tup xs),I1.laid (t':=s1.toks) (λb u e=>aB _ e) (aK _) ?_,rfl,q _ hf⟩;exact ⟨⟨z,_,bB _ rfl,rfl⟩,us,r,⟨_,bB _ rfl,rfl,_,rfl⟩⟩
theorem UV(h:PA X es t):PE X (.List es pos) (aAr t):=by
 intro pins s σ H Q I hq;refine wpAny_List_spliced (thn (h pos pins s σ H _ I hq) λus s1 ⟨xs,H1,I1,r,z,q⟩=>⟨by rw [<-r.length];exact z,?_⟩);have hf:H1 s1.heap.objs.size=none:=I1.hok.fresh (aK _);refine ⟨.ref s1.heap.objs.size,upd H1 s1.heap.objs.size (.lst xs),I1.laid (t':=s1.toks) (λb u e=>aB _ e) (aK _) ?_,rfl,q _ hf⟩;exact ⟨z,us,0,r,bB _ rfl⟩
end
abbrev Sp:=List V->Hp->VK->XK->Prop
abbrev IB:=List Env->Hp->Shared->XK->Value->Shared->Prop
structure AA(P:Program)(w:World)(K:PySem.W.Frag)(mg:Str->Option Value)(base:Heap)(A:Around)(outer:List Env)(s:Shared)(H:Hp):Prop where
 frames:A.frames=some outer
 mod:IA K mg base
 bs:∀b o,base.get? b=some o->s.heap.get? b=some o/\H b=none
 bsz:base.objs.size<=s.heap.objs.size
 funs:s.heap.FunFrames base outer
 frf:∀b∈frs outer,H b=none
 hok:mW P w H s.heap
 bare:AllBare s.gens
def CE(outer:List Env)(P:Program)(w:World)(H:Hp)(s:Shared)(Q:VK)(u:Value)(s':Shared):Prop :=
 ∃v H',s'.os=s.os/\AllBare s'.gens/\Un (frs outer) [] H H' s.heap s'.heap/\mW P w H' s'.heap/\cW v u/\Q v H'
def CR(CX:IB)(outer:List Env)(P:Program)(w:World)(H:Hp)(s:Shared)(Q:VK)(E:XK)(r:Result)(s':Shared):Prop :=
 match r with
 | .ok (.ret u)=>CE outer P w H s Q u s'
 | .ok _=>False
 | .error e=>CX outer H s E e s'
structure dP(P:Program)(w:World)(K:PySem.W.Frag)(mg:Str->Option Value)(base:Heap)(CX:IB)(k:Nat)(f:Addr)(fd:FuncData)(ps:List Str)(sp:Sp):Prop where
 len:∀vs H Q E,sp vs H Q E->vs.length=ps.length
 run:∀(A:Around) (outer:List Env) (s:Shared) (H:Hp) (args:Args) (us:List Value) (vs:List V) (Q:VK) (E:XK),gA k A->AA P w K mg base A outer s H->BindsTo s fd args (ps.zip us)->cJ vs us->sp vs H Q E ->
  codeAny (model P w) A (.call (.ref f) args) (CR CX outer P w H s Q E) s
theorem AA.in1{P:Program}{w:World}{K:PySem.W.Frag}{mg:Str->Option Value}{base:Heap}{A:Around}{outer:List Env}{s:Shared}{H:Hp}(e:AA P w K mg base A outer s H) :
  AA P w K mg base A.in1 outer s H:=⟨e.frames,e.mod,e.bs,e.bsz,e.funs,e.frf,e.hok,e.bare⟩
section
variable{X:Cx}{pins:List (Addr × Obj)}{σ:St}{H:Hp}{s s':Shared}
theorem bY.env0(I:bY X pins σ H s):AA X.prog X.w X.K X.mg X.base X.A X.stack s H :=
 ⟨I.ok.frames,I.ok.mod,I.bs,bC I.ok.bsz I.sz,I.stack,I.stkFree,I.hok,I.bare⟩
theorem bY.after{Q:VK}{u:Value}(I:bY X pins σ H s)(h:CE X.stack X.prog X.w H s Q u s'):EP X pins σ Q u s':=by
 obtain ⟨v,H',os,bare,un,hok,r,q⟩:=h;obtain ⟨hh,g,d,t,os'⟩:=s';obtain rfl:os'=s.os:=os;exact ⟨v,H',I.call (h':=hh) (g':=g) (d':=d) (t':=t) (ch:=[]) un hok bare (λb z=>absurd z (by simp)),r,q⟩
end
def IR(sp:Sp)(dvs:List V)(E:XK)(t:TA):TE:=λσ H Q=>t σ H λvs H1=>sp (vs++dvs) H1 Q E
def nK(K:PySem.W.Frag)(fd:FuncData)(ps:List Str)(ds:List Value):Prop :=
 ∀(s:Shared) (us:List Value),K.In s.heap->(us++ds).length=ps.length->BindsTo s fd ⟨us,[]⟩ (ps.zip (us++ds))
theorem nK.all{K:PySem.W.Frag}{fd:FuncData}{ps:List Str}(h:∀us:List Value,us.length=ps.length->bindArgs fd ⟨us,[]⟩=pure (ps.zip us)):nK K fd ps []:=λs us _ hl=>by
 rw [List.append_nil] at hl ⊢;exact .of_eq (h us hl)
def CJ(CX:IB)(X:Cx)(E:XK):Prop:=∀(pins:List (Addr × Obj)) (σ:St) (H:Hp) (s:Shared) (e:Value) (s':Shared),bY X pins σ H s->CX X.stack H s E e s'->X.xe e s'
section
variable{X:Cx}{CX:IB}{k:Nat}{f C:Addr}{fd:FuncData}{ps:List Str}{sp:Sp}{dvs:List V}{ds:List Value}{E:XK}{x m:Str}{p pos apos:Pos}{e o:Expr}{es:List Expr}{ta:TE}{t:TA}
theorem UA{pins:List (Addr × Obj)}{σ:St}{H:Hp}{s:Shared}{Q:VK}{us:List Value}{vs:List V}(F:dP X.prog X.w X.K X.mg X.base CX k f fd ps sp)(hr:gA k X.A)(hb:nK X.K fd ps ds)(hd:cJ dvs ds)(hx:CJ CX X E)
  (I:bY X pins σ H s) (r:cJ vs us) (h:sp (vs++dvs) H Q E):wpAny (model X.prog X.w) X.A (call (.ref f) us) (EP X pins σ Q) X.xe s:=by
 have r2:cJ (vs++dvs) (us++ds):=r.append hd;have hl:(us++ds).length=ps.length:=by rw [<-r2.length];exact F.len _ _ _ _ h
 refine wpAny_call (codeAny_mono (F.run X.A X.stack s H ⟨us,[]⟩ (us++ds) (vs++dvs) Q E hr I.env0 (hb s us I.kIn hl) r2 h) λr s' hq=>?_);cases r with
 | error e=>exact hx pins σ H s e s' I hq
 | ok fl =>
  cases fl with
  | ret u=>exact I.after hq
  | next=>exact False.elim hq
  | brk=>exact False.elim hq
  | cont=>exact False.elim hq
theorem OS(F:dP X.prog X.w X.K X.mg X.base CX k f fd ps sp)(hr:gA k X.A)(hg:Gl X x)(hm:X.mg x=some (.ref f))(hk:PySem.W.keepIn X.K (.ref f)=true)(hb:nK X.K fd ps ds)(hd:cJ dvs ds)(hx:CJ CX X E)
  (ha:PA X (e::es) t) (hdb:(x == ("__debug__" : Str))=false:=by decide) (he:starEach (e::es) X.env=(false,eval e X.env)::starEach es X.env:=by rfl) (hpl:(backTo pos (starEach es X.env)).any (·.1)=false:=by rfl) :
  PE X (.Call (.Name x p) (e::es) [] pos) (IR sp dvs E t):=by
 intro pins s σ H Q I h;refine wpAny_Call_Name_kw (DV I hg hm ?_ hdb);refine PySem.W.callWith_K (h₀:=X.base) I.ok.mod.kin hk (thn (ha pos pins s σ H _ I h) λus s1 ⟨vs,H1,I1,r,q⟩=>⟨I1.kIn,?_⟩) he hpl;exact UA F hr hb hd hx I1 r q
end
section
variable{X:Cx}{CX:IB}{k:Nat}{f C:Addr}{fd:FuncData}{ps ks:List Str}{sp:Sp}{E:XK}{x m:Str}{p pos apos kpos:Pos}{e o:Expr}{es:List Expr}{kws:List Keyword}{te ta:TE}{t tk:TA}{nm:Option Str}
variable{g:List Value->List Value->List Value}{gV:List V->List V->List V}
end
structure bZ(N P:List Str)(sc:Scope):Prop where
 kind:sc.kind=.function
 co:sc.isCoroutine=false
 gen:sc.isGenerator=false
 nd:N.Nodup
 pre:N.take P.length=P
 par:∀x∈P,sc.names.lookup x=some .local\/sc.names.lookup x=some .cell
 nofree:∀y∈sc.names,y.2 ≠ .free
theorem vO{kindOf:Str->Option NameKind}{x:Str}:∀{binds:List (Str × Value)}{m:Str->Option Value},(∀v,(x,v) ∉ binds)->bindL kindOf binds m x=m x
 | [],_,_=>rfl
 | (n,v)::r,m,h=>by
  unfold bindL;rw [vO λw hw=>h w (aD _ hw)];split
  ·have:x≠n:=by rintro rfl;exact h v aF
   simp [this]
  ·rfl
theorem vQ{kindOf:Str->Option NameKind}{x:Str}:∀{binds:List (Str × Value)}{m:Str->Option Value},(∀v,(x,v) ∉ binds)->bindC kindOf binds m x=m x
 | [],_,_=>rfl
 | (n,v)::r,m,h=>by
  unfold bindC;rw [vQ λw hw=>h w (aD _ hw)];split
  ·rfl
  ·have:x≠n:=by rintro rfl;exact h v aF
   simp [this]
theorem vP{kindOf:Str->Option NameKind}{x:Str}{v:Value}:∀{P:List Str}{vs:List Value}{i:Nat}{m:Str->Option Value},P.Nodup->P[i]?=some x->vs[i]?=some v->kindOf x=some .local ->
  bindL kindOf (P.zip vs) m x=some v
 | [],_,_,_,_,h,_,_=>by simp at h
 | _::_,[],_,_,_,_,h,_=>by simp at h
 | p::P,w::vs,0,m,nd,h1,h2,hk=>by
  simp at h1 h2;subst h1;subst h2;show bindL kindOf ((p,w)::P.zip vs) m p=_;unfold bindL;rw [vO λv hv=>(List.nodup_cons.mp nd).1 (List.of_mem_zip hv).1,if_pos hk];simp
 | p::P,w::vs,i+1,m,nd,h1,h2,hk=>by
  show bindL kindOf ((p,w)::P.zip vs) m x=_;unfold bindL;exact vP (i:=i) (List.nodup_cons.mp nd).2 (by simpa using h1) (by simpa using h2) hk
theorem vR{kindOf:Str->Option NameKind}{x:Str}{v:Value}:∀{P:List Str}{vs:List Value}{i:Nat}{m:Str->Option Value},P.Nodup->P[i]?=some x->vs[i]?=some v->kindOf x≠some .local ->
  bindC kindOf (P.zip vs) m x=some v
 | [],_,_,_,_,h,_,_=>by simp at h
 | _::_,[],_,_,_,_,h,_=>by simp at h
 | p::P,w::vs,0,m,nd,h1,h2,hk=>by
  simp at h1 h2;subst h1;subst h2;show bindC kindOf ((p,w)::P.zip vs) m p=_;unfold bindC;rw [vQ λv hv=>(List.nodup_cons.mp nd).1 (List.of_mem_zip hv).1,if_neg hk];simp
 | p::P,w::vs,i+1,m,nd,h1,h2,hk=>by
  show bindC kindOf ((p,w)::P.zip vs) m x=_;unfold bindC;exact vR (i:=i) (List.nodup_cons.mp nd).2 (by simpa using h1) (by simpa using h2) hk
def start(N:List Str)(vs:List V):St:=vs.map some++List.replicate (N.length-vs.length) none
def rN(CX:IB)(P:Program)(w:World)(K:PySem.W.Frag)(mg:Str->Option Value)(base:Heap)(N:List Str)(qual:Str)(scope:Scope)(f:Addr)(cd:Value)(A:Around)(outer:List Env)(s:Shared)(H:Hp)(E:XK):Cx where
 prog:=P
 w:=w
 K:=K
 mg:=mg
 base:=base
 A:=A.deeper (envOfC qual scope s.heap.objs.size f cd)
 N:=N
 s₀:=s
 H₀:=H
 env:=envOfC qual scope s.heap.objs.size f cd
 outer:=outer
 stack:=envOfC qual scope s.heap.objs.size f cd::outer
 ex:=[]
 calm:=true
 fn:=λ_=>true
 pn:=[]
 xe:=λe s'=>wpAny (model P w) (A.deeper (envOfC qual scope s.heap.objs.size f cd)) (leaving (envOfC qual scope s.heap.objs.size f cd) e) (λ_ s''=>CX outer H s E e s'') (λe' s''=>CX outer H s E e' s'') s'
theorem zR{sc:Scope}{n:Nat}{x:Str}(h:sc.names.lookup x=some .cell):∃c,(cellsFrom n sc.names []).lookup x=some c:=by
 have q:=PySem.W.cellsFrom_some sc.names n [] (.inl h);exact Option.isSome_iff_exists.mp q
theorem vF{CX:IB}{P:Program}{w:World}{K:PySem.W.Frag}{mg:Str->Option Value}{base:Heap}{N ps:List Str}{qual:Str}{scope:Scope}{f:Addr}{cd:Value}{A:Around}{outer:List Env}{s s1:Shared}{H:Hp}{E:XK}{us:List Value}{vs:List V}
  (S:bZ N ps scope) (hd:A.handled=none) (e0:AA P w K mg base A outer s H) (hl:vs.length=ps.length) (r:cJ vs us)
  (x:InCallC s s.heap.objs.size (bindL (envOfC qual scope s.heap.objs.size f cd).kindOf (ps.zip us) λ_=>none) (cellsFrom (s.heap.objs.size+1) scope.names []) (bindC (envOfC qual scope s.heap.objs.size f cd).kindOf (ps.zip us) λ_=>none) s1) :
  bY (rN CX P w K mg base N qual scope f cd A outer s H E) [] (start N vs) H s1:=by
 have hpl:ps.length<=N.length:=by have:=congrArg List.length S.pre;rw [bA] at this;omega
 obtain ⟨h1,tk,rfl,hk⟩:=x.done;have noA:∀b:Addr,b ∉ (rN CX P w K mg base N qual scope f cd A outer s H E).ex:=λb z=>absurd (show b∈([]:List Addr) from z) (by simp);refine ⟨⟨e0.mod,S.kind,rfl,rfl,aK _,λy z c h1 h2=>?_,λy hy=>?_,λy c _ h=>?_,λ_=>hd,Around.frames_deeper e0.frames,.inr ⟨rfl,rfl⟩,λb z=>absurd z (noA b),e0.bs,e0.bsz,λb _ _=>noA b,λb z=>absurd z (noA b),e0.funs,e0.frf⟩,
  rfl,e0.bare,Un.kept hk,⟨_,x.toInCall.ns,λi y v h1 h2 h3=>?_⟩,λy c h=>⟨_,x.cell y c h⟩,e0.hok.fresh (aK _),λy c h=>?_,λp hp=>absurd (show p∈([]:List (Addr × Obj)) from hp) (by simp),e0.hok.kept hk,?_⟩
 ·exact name_of_addr x.apart (PySem.mem_of_lookup h1) (PySem.mem_of_lookup h2)
 ·have hy:scope.names.lookup y=some .cell\/scope.names.lookup y=some .free:=hy;rcases hy with hy | hy
  ·exact zR hy
  ·exact absurd rfl (S.nofree _ (PySem.mem_of_lookup hy))
 ·exact Nat.le_of_lt (x.above y c (PySem.mem_of_lookup h))
 ·have hi:i<vs.length:=by
   unfold start at h2;by_cases hi:i<vs.length
   ·exact hi
   ·rw [List.getElem?_append_right (by simpa using hi)] at h2;rw [List.getElem?_replicate] at h2;split at h2 <;> cases h2
  have ha:vs[i]?=some v:=by
   unfold start at h2;rw [List.getElem?_append_left (by simpa using hi),aS] at h2;cases e:vs[i]? with
   | none=>rw [e] at h2;cases h2
   | some a=>rw [e] at h2;cases h2;rfl
  obtain ⟨u,hu,rv⟩:=r.get ha;have hp:ps[i]?=some y:=by
   rw [<-S.pre,List.getElem?_take_of_lt Oo];exact h1
  have ndP:ps.Nodup:=by rw [<-S.pre];exact S.nd.sublist (List.take_sublist _ _)
  refine ⟨u,rv,?_⟩;rcases S.par y (bK hp) with k | k
  ·exact .inl ⟨k,vP ndP hp hu k⟩
  ·obtain ⟨c,e⟩:=zR (n:=s.heap.objs.size+1) k;refine .inr ⟨.inl k,c,e,?_⟩;have q:=x.cell y c e;rw [vR ndP hp hu (by show scope.names.lookup y≠_;rw [k];decide)] at q;exact q
 ·exact e0.hok.fresh (Nat.le_of_lt (x.above y c (PySem.mem_of_lookup h)))
 ·unfold start;show _=N.length;rw [aI,aA,bX];omega
theorem SB{CX:IB}{P:Program}{w:World}{K:PySem.W.Frag}{mg:Str->Option Value}{base:Heap}{k:Nat}{f:Addr}{name qual:Str}{params:Arguments}{body:List Stmt}{scope:Scope}{dV kV doc pm cdv ct oc:Value}{an od:Option Addr}
  {osl:Array (Option Value)} {N ps:List Str} {sp:Sp} (lk:K.lookup f=some ⟨oc,od,.func (PySem.W.fnOf name qual params body scope dV kV doc pm an cdv ct),osl⟩) (hcd:PySem.W.codeIn K cdv qual=true) (S:bZ N ps scope)
  (len:∀vs H Q E,sp vs H Q E->vs.length=ps.length)
  (hbody:∀(A:Around) (outer:List Env) (s:Shared) (H:Hp) (vs:List V) (Q:VK) (E:XK),gA k (A.deeper (envOfC qual scope s.heap.objs.size f cdv))->sp vs H Q E ->
   ∃t,CK (rN CX P w K mg base N qual scope f cdv A outer s H E) body t/\t { nx:=λ_ H'=>Q .non H',rt:=Q } (start N vs) H) :
  dP P w K mg base CX (k+1) f (PySem.W.fnOf name qual params body scope dV kV doc pm an cdv ct) ps sp:=by
 refine ⟨len,λA outer s H args us vs Q E hr e0 hb r hsp=>?_⟩;have hl:=len _ _ _ _ hsp;have KX:K.In s.heap:=e0.mod.kin.keeps λb o e=>(e0.bs b o e).1;have lim:s.heap.NoLimit:=e0.mod.nolimit.keeps λb o e=>(e0.bs b o e).1;have hkind:∀y∈ps.zip us,scope.names.lookup y.1=some .local\/(scope.names.lookup y.1=some .cell/\((cellsFrom (s.heap.objs.size+1) scope.names []).lookup y.1).isSome=true):=λ⟨n,v⟩ hy=>by
  rcases S.par n (List.of_mem_zip hy).1 with q | q
  ·exact .inl q
  ·exact .inr ⟨q,PySem.W.cellsFrom_some _ _ _ (.inl q)⟩
 refine codeAny_call_function hr.depth (KX _ _ lk) rfl S.co S.gen rfl (PySem.W.codeRec_of KX hcd) (hb _ _ _ _ ?_);refine wpAny_newFunctionEnv_cells S.kind hkind λenv he s1 x=>?_;subst he;refine ⟨lim.keeps x.toInCall.keep,codeAny_func ?_⟩;obtain ⟨t,ht,hq⟩:=hbody A outer s H vs Q E (hr.deeper _) hsp;have I:bY (rN CX P w K mg base N qual scope f cdv A outer s H E) [] (start N vs) H s1:=vF S hr.hd e0 hl r x;refine wpAny_mono (ht [] s1 (start N vs) H _ I hq) (λfl s' hs=>?_) λe s' hs=>hs;have fin:∀{σ':St} {H':Hp} {v:V} {u:Value},bY (rN CX P w K mg base N qual scope f cdv A outer s H E) [] σ' H' s'->cW v u->Q v H'->CE outer P w H s Q u s' :=
  λ{σ' H' v u} J rv q=>⟨v,H',J.os,J.bare,J.base,J.hok,rv,q⟩
 cases fl with
 | ret u =>
  obtain ⟨v,σ',H',J,rv,q⟩:=hs;exact fin J rv q
 | next =>
  obtain ⟨σ',H',J,q⟩:=hs;exact fin (v:=V.non) (u:=Value.none) J rfl q
 | brk =>
  obtain ⟨_,_,_,q⟩:=hs;exact False.elim q
 | cont =>
  obtain ⟨_,_,_,q⟩:=hs;exact False.elim q
section
variable{X:Cx}{x:Str}{p pos:Pos}{e:Expr}{es:List Expr}{t:TA}{id T:String}{r:List V->Hp->VK->Prop}
def tCB(r:List V->Hp->VK->Prop)(t:TA):TE:=λσ H Q=>t σ H λvs H1=>r vs H1 Q
theorem JX(hc:eW X (.builtin id) r)(hg:Gl X x)(hm:X.mg x=none)(hv:bootBuiltins x=some (.builtin id))(ha:PA X (e::es) t)(hn:x ≠ "__name__" := by decide)(hdb:(x == ("__debug__" : Str))=false:=by decide)
  (he:starEach (e::es) X.env=(false,eval e X.env)::starEach es X.env:=by rfl) (hpl:(backTo pos (starEach es X.env)).any (·.1)=false:=by rfl):PE X (.Call (.Name x p) (e::es) [] pos) (tCB r t):=by
 intro pins s σ H Q I h;refine wpAny_Call_Name_kw (qB I hg hm hv ?_ hn hdb);exact PyProof.Rows.callWith_builtin1 (thn (ha pos pins s σ H _ I h) λus s1 ⟨vs,H1,I1,r1,q1⟩=>hc pins s1 σ H1 vs us Q I1 r1 q1) he hpl
theorem GH(hc:eW X (.type T) r)(hg:Gl X x)(hm:X.mg x=none)(hv:bootBuiltins x=some (.type T))(ha:PA X (e::es) t)(hn:x ≠ "__name__" := by decide)(hdb:(x == ("__debug__" : Str))=false:=by decide)
  (he:starEach (e::es) X.env=(false,eval e X.env)::starEach es X.env:=by rfl) (hpl:(backTo pos (starEach es X.env)).any (·.1)=false:=by rfl):PE X (.Call (.Name x p) (e::es) [] pos) (tCB r t):=by
 intro pins s σ H Q I h;refine wpAny_Call_Name_kw (qB I hg hm hv ?_ hn hdb);exact PyProof.Rows.callWith_type1 (thn (ha pos pins s σ H _ I h) λus s1 ⟨vs,H1,I1,r1,q1⟩=>hc pins s1 σ H1 vs us Q I1 r1 q1) he hpl
end
end L2
namespace HT
open PySem PyProof.Rows
def jJ:List Int->List Int->Bool
 | [],[]=>false
 | [],_::_=>true
 | _::_,[]=>false
 | x::xs,y::ys=>if x=y then jJ xs ys else decide (x<y)
theorem nS(x y:Int)(xs ys:List Int):jJ (x::xs) (y::ys)=if x=y then jJ xs ys else decide (x<y):=rfl
theorem uK:jJ [] []=false:=rfl
theorem tF(y:Int)(ys:List Int):jJ [] (y::ys)=true:=rfl
theorem tH(x:Int)(xs:List Int):jJ (x::xs) []=false:=rfl
theorem tQ(A:Around)(s:Shared)(a:Int)(t:Tok)(c:Int)(u:Tok):∃e,SeqAt.EqAt A s (.int a t) (.int c u) e/\(e=true↔a=c) :=
 ⟨(a == c),SeqAt.EqAt.int_int a t c u,by simp⟩
theorem JI(A:Around)(s:Shared)(a:Int)(t:Tok)(c:Int)(u:Tok)(prog:Program)(w:World)(E:Value->Shared->Prop)(Q:Value->Shared->Prop)(h:Q (.bool (decide (a<c))) s) :
  wpAny (model prog w) A (richCompare .Lt (.int a t) (.int c u)) Q E s :=
 (PyProof.Rows.lt_int h:wpAny (model prog w) A (compareOp .Lt (.int a t) (.int c u)) Q E s)
section
open PySem.SeqAt
open PySem.AutoSeq1 (wpAny_loadPart')
open PySem.MeetsSeq PySem.MeetsSeq2 PySem.MeetsSeq3
theorem uF(l b:Addr)(items items2:Array Value)(n n2:Nat)(dd dd2:Option Addr)(sl sl2:Array (Option Value))(ns ms:List Int)(hi:IntsAre items.toList ns)(hj:IntsAre items2.toList ms) :
  Meets (Builtin.«tuple.__lt__» ⟨[.ref l,.ref b],[]⟩)
   (λ_ R s=>s.heap.get? l=some { cls:=.type "tuple",dict:=dd,data:=.seq items n,slots:=sl }/\s.heap.get? b=some { cls:=.type "tuple",dict:=dd2,data:=.seq items2 n2,slots:=sl2 } /\
    R (.ok (.ret (.bool (jJ ns ms)))) s) :=
 .of_wp λprog w A R s h=>by
  obtain ⟨hp,g,d,tk,os⟩:=s;obtain ⟨hl,hb,h⟩:=h;have f2:=AutoSeq1.sub_tuple_tuple;have z1:items.size=ns.length:=by rw [<-hi.length];simp
  have z2:items2.size=ms.length:=by rw [<-hj.length];simp
  wp_walk using wpAny_loadPart' hl,wpAny_loadPart' hb,wpAny_forIn_list _ (λrest b s'=>b.1=none/\s'=⟨hp,g,d,tk,os⟩/\∃(vs ws:List Value) (ns' ms':List Int),rest=vs.zip ws /\
   IntsAre vs ns'/\IntsAre ws ms'/\ns'.length+items2.size=ms'.length+items.size/\R (.ok (.ret (.bool (jJ ns' ms')))) ⟨hp,g,d,tk,os⟩) _
  case turn =>
   rintro ⟨y,x⟩ rest b s' ⟨hb',rfl,vs,ws,ns',ms',hz,hvi,hwi,hlen,hR⟩;cases hvi with
   | nil=>rw [List.zip_nil_left] at hz;cases hz
   | cons a t hvi' =>
    cases hwi with
    | nil=>rw [List.zip_nil_right] at hz;cases hz
    | cons c u hwi' =>
     rw [List.zip_cons_cons] at hz;injection hz with hyx hrest;injection hyx with hy hx;subst hy hx;rw [nS] at hR;simp only [bF] at hlen;obtain ⟨e,he,hiff⟩:=tQ A.in1 ⟨hp,g,d,tk,os⟩ a t c u;refine wpAny_bind (he prog w _ _ ?_);cases e with
     | true =>
      rw [if_pos (hiff.mp rfl)] at hR
      wp_walk
      exact ⟨rfl,rfl,_,_,_,_,hrest,hvi',hwi',Oo,hR⟩
     | false =>
      rw [if_neg (λq=>absurd (hiff.mpr q) bQ)] at hR;have hri:=JI A.in1 ⟨hp,g,d,tk,os⟩ a t c u prog w
      wp_walk using hri
      exact ⟨_,rfl,by simpa using hR⟩
  case fin =>
   rintro ⟨b1,b2⟩ s' ⟨hb',rfl,vs,ws,ns',ms',hz,hvi,hwi,hlen,hR⟩;simp only at hb';subst hb';have hv:jJ ns' ms'=decide (items.size<items2.size):=by
    cases hvi with
    | nil =>
     cases hwi with
     | nil =>
      simp only [List.length_nil] at hlen;rw [uK];exact (bH Oo).symm
     | cons c u hw =>
      simp only [List.length_nil,bF] at hlen;rw [tF];exact (aM Oo).symm
    | cons a t hv =>
     cases hwi with
     | nil =>
      simp only [List.length_nil,bF] at hlen;rw [tH];exact (bH Oo).symm
     | cons c u hw =>
      rw [List.zip_cons_cons] at hz;cases hz
   rw [hv] at hR
   wp_walk
   exact ⟨_,rfl,by simpa [Builtin.Tuple.tupleCompareSizes] using hR⟩
  case h =>
   exact ⟨rfl,rfl,items.toList,items2.toList,ns,ms,rfl,hi,hj,Oo,h⟩
end
section
variable{prog:Program}{w:World}{A:Around}{E:Value->Shared->Prop}{s:Shared}
theorem BR{l b:Addr}{items items2:Array Value}{ns ms:List Int}{Q:Value->Shared->Prop}(hl:IsTup s.heap l items)(hb:IsTup s.heap b items2)(hi:IntsAre items.toList ns)(hj:IntsAre items2.toList ms)
  (hu:A.units<cLine) (h:Q (.bool (jJ ns ms)) s):wpAny (model prog w) A (compareOp .Lt (.ref l) (.ref b)) Q E s:=by
 obtain ⟨⟨cls,dd,data,sl⟩,ho,hc,n,hd⟩:=id hl;obtain ⟨⟨cls2,dd2,data2,sl2⟩,ho2,hc2,n2,hd2⟩:=id hb;simp only at hc hd hc2 hd2;subst hc hd hc2 hd2;exact richCompare_meets_room (op:=.Lt) ⟨_,ho,rfl⟩ ⟨_,ho2,rfl⟩ PySem.F.slot_tuple_lt PySem.F.entry_tuple_lt (PySem.F.args_tuple_lt_2 _ _) (uF l b items items2 n n2 dd dd2 sl sl2 ns ms hi hj)
  ⟨ho,ho2,show Value.bool (jJ ns ms)≠Value.notImplemented/\Q (.bool (jJ ns ms)) s from ⟨(λx=>nomatch x),h⟩⟩ hu
theorem QH{t b:Addr}{vs ws:List Value}{Q:Value->Shared->Prop}(ht:IsTup s.heap t vs.toArray)(hb:IsTup s.heap b ws.toArray)(hv:vs≠[])
  (h1:ws=[]->Q (.ref t) s) (h2:ws≠[]->Q (.ref s.heap.objs.size) { s with heap:=s.heap.push { cls:=.type "tuple",data:=.seq (vs++ws).toArray } })
  (hsz:vs.length+ws.length<=sizeLine):wpAny (model prog w) A (binaryOp .Add (.ref t) (.ref b)) Q E s:=by
 obtain ⟨⟨cls,dd,data,sl⟩,ho,hc,n,hd⟩:=id ht;obtain ⟨⟨cls2,dd2,data2,sl2⟩,ho2,hc2,n2,hd2⟩:=id hb;simp only at hc hd hc2 hd2;subst hc hd hc2 hd2;have e:vs.toArray++ws.toArray=(vs++ws).toArray:=by simp
 by_cases hw:ws=[]
 ·exact concat_meets ⟨_,ho,rfl⟩ ⟨_,ho2,rfl⟩ noFill_tuple_add seq_tuple_add PySem.F.slot_tuple_add PySem.F.entry_tuple_add (PySem.F.args_tuple_add_2 _ _)
   (tuple_addW1 t b vs.toArray ws.toArray n n2 dd dd2 sl sl2 (by simpa using hv) (by simp [hw])) ⟨ho,ho2,h1 hw⟩
 ·refine concat_meets ⟨_,ho,rfl⟩ ⟨_,ho2,rfl⟩ noFill_tuple_add seq_tuple_add PySem.F.slot_tuple_add PySem.F.entry_tuple_add (PySem.F.args_tuple_add_2 _ _)
   (tuple_addW2 t b vs.toArray ws.toArray n n2 dd dd2 sl sl2 (by simpa using hv) (by simpa using hw) (by rw [aO,aO];exact hsz)) ⟨ho,ho2,?_⟩
  rw [e];exact h2 hw
def gB(n d:Nat):Option Int->Nat
 | none=>d
 | some v=>if v<0 then (v+(n:Int)).toNat else min v.toNat n
theorem sP(n d:Nat):gB n d none=d:=rfl
theorem sA(n d k:Nat):gB n d (some (k:Int))=min k n:=by
 show (if (k:Int)<0 then ((k:Int)+(n:Int)).toNat else min (k:Int).toNat n)=min k n;rw [if_neg Oo,Int.toNat_natCast]
theorem TZ(n d:Nat)(hd:d<=n)(o:Option Int):gB n d o<=n:=by
 cases o with
 | none=>exact hd
 | some v =>
  show (if v<0 then (v+(n:Int)).toNat else min v.toNat n)<=n;by_cases hv:v<0
  ·rw [if_pos hv];omega
  ·rw [if_neg hv];exact Nat.min_le_right _ _
theorem EX(v:Int)(n d:Nat):(if v<0 then max (v+(n:Int)) 0 else min v (n:Int))=((gB n d (some v):Nat):Int):=by
 show (if v<0 then max (v+(n:Int)) 0 else min v (n:Int))=(((if v<0 then (v+(n:Int)).toNat else min v.toNat n):Nat):Int);by_cases hv:v<0
 ·simp only [if_pos hv];omega
 ·simp only [if_neg hv];omega
theorem CI(lo hi:Option Int)(n:Nat):Builtin.Slice.sliceAdjust lo hi 1 (n:Int)=(((gB n 0 lo:Nat):Int),((gB n n hi:Nat):Int)):=by
 have h1:¬((1:Int)<0):=Oo;unfold Builtin.Slice.sliceAdjust;simp only [h1,if_false];refine Prod.ext ?_ ?_
 ·cases lo with
  | none=>rfl
  | some v=>exact EX v n 0
 ·cases hi with
  | none=>rfl
  | some v=>exact EX v n n
theorem BH(i j:Nat):Builtin.Slice.slicePlaces (i:Int) (j:Int) 1=j-i:=by
 unfold Builtin.Slice.slicePlaces;have h1:(1:Int) > 0:=Oo;simp only [h1,if_true,Int.ediv_one];split <;> omega
theorem sN{v:Value}{o:Option Int}{Q:Option Int->Shared->Prop}(p:IsPart v o)(h:Q o s):wpAny (model prog w) A (Builtin.Slice.slicePartIndex v) Q E s:=by
 cases p with
 | none=>exact slicePart_none h
 | int i t=>exact slicePart_int h
theorem kJ{sl:Addr}{vl vu:Value}{lo hi:Option Int}{n:Nat}{Q:Int × Int × Nat->Shared->Prop}(hs:s.heap.IsSliceOf sl vl vu .none)(pl:IsPart vl lo)(pu:IsPart vu hi)
  (h:Q (((gB n 0 lo:Nat):Int),1,gB n n hi-gB n 0 lo) s):wpAny (model prog w) A (Builtin.Slice.sliceApplied (.ref sl) (pure (n:Int))) Q E s:=by
 obtain ⟨os,hos,hcs,hds⟩:=id hs;unfold Builtin.Slice.sliceApplied Builtin.Slice.sliceFields;refine wpAny_bind (wpAny_bind (wpAny_field hos hds (x:=vl) rfl (wpAny_bind (wpAny_field hos hds (x:=vu) rfl (wpAny_bind (wpAny_field hos hds (x:=.none) rfl (wpAny_pure ?_)))))));refine wpAny_bind (slicePart_none ?_);show wpAny _ _ (if ((1:Int) == 0)=true then _ else _) _ _ s;rw [if_neg Dd];refine wpAny_bind (sN pl (wpAny_bind (sN pu (wpAny_bind (wpAny_pure ?_)))));show wpAny _ _ (match Builtin.Slice.sliceAdjust lo hi 1 (n:Int) with | (lo,hi)=>pure (lo,(1:Int),Builtin.Slice.slicePlaces lo hi 1)) _ _ s;rw [CI lo hi n];show wpAny _ _ (pure (((gB n 0 lo:Nat):Int),(1:Int),Builtin.Slice.slicePlaces ((gB n 0 lo:Nat):Int) ((gB n n hi:Nat):Int) 1)) _ _ s;rw [BH];exact wpAny_pure h
theorem JS(xs:Array Value)(i k:Nat):((List.range k).filterMap λ(m:Nat)=>xs[((i:Int)+(m:Int)*1).toNat]?).toArray=((xs.toList.drop i).take k).toArray:=by
 have e:(λ(m:Nat)=>xs[((i:Int)+(m:Int)*1).toNat]?)=λm=>xs[i+m]?:=by
  funext m
  have:((i:Int)+(m:Int)*1).toNat=i+m:=Oo;rw [this]
 rw [e];have:=pick_run xs i k;rw [List.filterMap_map] at this;have e2:((λx=>xs[x]?) ∘ λx=>i+x)=λm=>xs[i+m]?:=rfl;rw [e2] at this;rw [this]
theorem pB{t sl:Addr}{items:Array Value}{vl vu:Value}{lo hi:Option Int}{Q:Value->Shared->Prop}(ht:IsTup s.heap t items)(hs:s.heap.IsSliceOf sl vl vu .none)(pl:IsPart vl lo)(pu:IsPart vu hi)
  (hw:¬(gB items.size 0 lo=0/\gB items.size items.size hi=items.size))
  (h:Q (.ref s.heap.objs.size) { s with heap:=s.heap.push { cls:=.type "tuple",data:=.seq ((items.toList.drop (gB items.size 0 lo)).take (gB items.size items.size hi-gB items.size 0 lo)).toArray } })
  (hsz:items.size<=sizeLine):wpAny (model prog w) A (getItem (.ref t) (.ref sl)) Q E s:=by
 have htake:sizeOk (.seq ((items.toList.drop (gB items.size 0 lo)).take (gB items.size items.size hi-gB items.size 0 lo)).toArray):=by
  show ((items.toList.drop (gB items.size 0 lo)).take (gB items.size items.size hi-gB items.size 0 lo)).toArray.size<=sizeLine;rw [aO,bA,List.length_drop,Array.length_toList];omega
 have hj:gB items.size items.size hi<=items.size:=TZ _ _ (aK _) hi;obtain ⟨os,hos,hcs,hds⟩:=id hs;have hTs:s.TypeIs (.ref sl) "slice" := ⟨os,hos,hcs⟩;unfold getItem
 try with_reducible refine wpAny_holding ?_
 first | refine wpAny_bind (wpAny_pure ?_) | skip
 refine wpAny_bind (wpAny_sequenceKey ht.typeIs Dd ?_);refine wpAny_bind (wpAny_callSpecial?_slot (name:=Str.ofString "__getitem__") ht.typeIs PyProof.Rows.slot_tuple_getitem
  (wpAny_call_entry PyProof.Rows.slot_tuple_getitem ht.typeIs entry_tuple_getitem ?_ (args_tuple_getitem _ _)))
 show wpAny _ _ (Builtin.Tuple.tupleItemsOf (.ref t) >>= _) _ _ s;refine wpAny_bind (tupleItemsOf_ ht ?_);refine wpAny_bind (wpAny_typeOf hTs ?_);rw [if_pos Dd];refine wpAny_bind (kJ hs pl pu ?_);have hno:¬((((gB items.size 0 lo:Nat):Int) == 0&&(1:Int) == 1&&(gB items.size items.size hi-gB items.size 0 lo) == items.size)=true):=by
  intro q;rw [aQ,aQ] at q;have q1:((gB items.size 0 lo:Nat):Int)=0:=eq_of_beq q.1.1;have q2:gB items.size items.size hi-gB items.size 0 lo=items.size:=eq_of_beq q.2;exact hw ⟨Oo,Oo⟩
 show wpAny _ _ (if (((gB items.size 0 lo:Nat):Int) == 0&&(1:Int) == 1&&(gB items.size items.size hi-gB items.size 0 lo) == items.size)=true then _ else _) _ _ s;rw [if_neg hno,JS]
 first
  | exact wpAny_bind (m:=Builtin.Tuple.tupleExact _) (wpAny_newObj_type (wpAny_pure ⟨_,rfl,wpAny_pure h⟩) htake)
  | exact wpAny_bind (m:=Builtin.Tuple.tupleExact _) (wpAny_newObj_type (wpAny_bind (wpAny_pure (wpAny_pure ⟨_,rfl,wpAny_pure h⟩))) htake)
  | exact wpAny_bind (wpAny_bind (m:=Builtin.Tuple.tupleExact _) (wpAny_newObj_type (wpAny_pure (wpAny_pure ⟨_,rfl,wpAny_pure h⟩)) htake))
  | exact wpAny_bind (wpAny_bind (m:=Builtin.Tuple.tupleExact _) (wpAny_newObj_type (wpAny_pure ⟨_,rfl,wpAny_pure h⟩) htake))
end
end HT
namespace L2
open PySem PySem.Spec PyProof.Rows
abbrev TO:=St->Hp->(Option Int->Hp->Prop)->Prop
def PO(X:Cx)(e:Option Expr)(t:TO):Prop :=
 ∀(pins:List (Addr × Obj)) (s:Shared) (σ:St) (H:Hp) (Q:Option Int->Hp->Prop),bY X pins σ H s->t σ H Q ->
  wpAny (model X.prog X.w) X.A (evalPart e X.env) (λu s'=>∃o H',bY X pins σ H' s'/\IsPart u o/\Q o H') X.xe s
def CV:TO:=λ_ H Q=>Q none H
def RA(t:TE):TO:=λσ H Q=>t σ H λx H1=>∃i,x=.int i/\Q (some i) H1
theorem nU{ns:List Int}:∀{us:List Value},cJ (ns.map V.int) us->IntsAre us ns:=by
 induction ns with
 | nil=>intro us r;rw [List.map_nil] at r;cases r;exact .nil
 | cons n ns ih =>
  intro us r;rw [aV] at r;cases r with
  | cons r1 r2 =>
   obtain ⟨t,e⟩:=r1;subst e;exact .cons n t (ih r2)
section
variable{X:Cx}{e:Expr}{te:TE}{lo hi:Option Expr}{tl th:TO}{pos p2:Pos}
theorem po_none:PO X none CV:=by
 intro pins s σ H Q I h;rw [evalPart_none];exact wpAny_pure ⟨none,H,I,.none,h⟩
theorem OI(h:PE X e te):PO X (some e) (RA te):=by
 intro pins s σ H Q I hw;rw [evalPart_some];refine thn (h pins s σ H _ I hw) λu s1 ⟨x,H1,I1,r1,q1⟩=>?_;obtain ⟨i,rfl,q⟩:=q1;obtain ⟨t,rfl⟩:=r1;exact ⟨some i,H1,I1,.int i t,q⟩
def ZT(X:Cx)(r:V->Option Int->Option Int->Hp->VK->Prop):Prop :=
 ∀(pins:List (Addr × Obj)) (s:Shared) (σ:St) (H:Hp) (x:V) (v vl vu:Value) (lo hi:Option Int) (sl:Addr) (Q:VK),bY X pins σ H s->cW x v->s.heap.IsSliceOf sl vl vu .none->IsPart vl lo->IsPart vu hi->r x lo hi H Q ->
  ∃T id,typeLookup (.type T) "__getitem__" = pure (some (.builtin id))/\s.TypeIs v T/\wpAny (model X.prog X.w) X.A (getItem v (.ref sl)) (EP X pins σ Q) X.xe s
def tSl(r:V->Option Int->Option Int->Hp->VK->Prop)(te:TE)(tl th:TO):TE:=λσ H Q=>te σ H λx H1=>tl σ H1 λl H2=>th σ H2 λu H3=>r x l u H3 Q
theorem JU{r:V->Option Int->Option Int->Hp->VK->Prop}(hr:ZT X r)(he:PE X e te)(hl:PO X lo tl)(hu:PO X hi th):PE X (.Subscript e (.Slice lo hi none p2) pos) (tSl r te tl th):=by
 intro pins s σ H Q I h;refine Subscript_ (thn (he pins s σ H _ I h) λv s1 ⟨x,H1,I1,r1,q1⟩=>?_);refine wpAny_Slice (thn (hl pins s1 σ H1 _ I1 q1) λvl s2 ⟨l,H2,I2,pl,q2⟩=>thn (hu pins s2 σ H2 _ I2 q2) λvu s3 ⟨u,H3,I3,pu,q3⟩=>?_);rw [evalPart_none];refine wpAny_pure ?_;have I4:bY X pins σ H3 { s3 with heap:=s3.heap.push { cls:=.type "slice",data:=.fields #[vl,vu,.none] } }:=I3.kept (t':=s3.toks) λb ob q=>aB _ q;obtain ⟨T,id,hT,ht,hg⟩:=hr pins { s3 with heap:=s3.heap.push { cls:=.type "slice",data:=.fields #[vl,vu,.none] } } σ H3 x v vl vu l u s3.heap.objs.size Q I4 r1 (Heap.IsSliceOf.new ..) pl pu q3;show wpAny (model X.prog X.w) X.A (subscriptTail e (.Slice lo hi none p2) v (.ref s3.heap.objs.size)) (EP X pins σ Q) X.xe { s3 with heap:=s3.heap.push { cls:=.type "slice",data:=.fields #[vl,vu,.none] } };exact tail_any (ops:=[.ref s3.heap.objs.size,v]) ht hT hg (by with_unfolding_all rfl)
def kA(xs:List V)(lo hi:Option Int):List V:=(xs.drop (HT.gB xs.length 0 lo)).take (HT.gB xs.length xs.length hi-HT.gB xs.length 0 lo)
theorem rG(xs:List V)(lo hi:Option Int):(kA xs lo hi).length<=xs.length:=by
 unfold kA;rw [bA,List.length_drop];omega
def aAH(K:PySem.W.Frag):V->Option Int->Option Int->Hp->VK->Prop:=λx lo hi H Q=>∃a xs,x=.ref a/\eI K H a xs /\
 ¬(HT.gB xs.length 0 lo=0/\HT.gB xs.length xs.length hi=xs.length)/\∀p,H p=none->Q (.ref p) (upd H p (.tup (kA xs lo hi)))
theorem SU:ZT X (aAH X.K):=by
 intro pins s σ H x v vl vu lo hi sl Q I rx hs pl pu h;obtain ⟨a,xs,rfl,hx,hw,q⟩:=h;cases rx;obtain ⟨its,r,ht,hz⟩:=I.tuple hx;have hlen:its.toArray.size=xs.length:=by rw [aO];exact r.length.symm
 refine ⟨"tuple",_,PyProof.Rows.slot_tuple_getitem.lookup,ht.typeIs,?_⟩;refine HT.pB ht hs pl pu (by rw [hlen];exact hw) ?_ (by rw [hlen];exact hz);rw [hlen];refine ⟨.ref s.heap.objs.size,_,I.laid (t':=s.toks) (o:=.tup (kA xs lo hi)) (λb ob q=>aB _ q) (aK _) ?_,rfl,q _ (I.hok.fresh (aK _))⟩;exact ⟨⟨bC (rG xs lo hi) hz,_,bB _ rfl,rfl⟩,_,(r.drop (HT.gB xs.length 0 lo)).take (HT.gB xs.length xs.length hi-HT.gB xs.length 0 lo),IsTup.new _ _⟩
def YS(K:PySem.W.Frag):R2:=λx y H Q=>∃a b xs ys,x=.ref a/\y=.ref b/\eI K H a xs/\eI K H b ys/\xs≠[]/\xs.length+ys.length<=sizeLine /\
 (ys=[]->Q (.ref a) H)/\(ys≠[]->∀p,H p=none->Q (.ref p) (upd H p (.tup (xs++ys))))
theorem cJ.nil_iff{xs:List V}{us:List Value}(r:cJ xs us):us=[]↔xs=[]:=by
 cases r with
 | nil=>simp
 | cons _ _=>simp
theorem OW:lN X (binaryOp .Add) (YS X.K):=by
 intro pins s σ H x y v u Q I rx ry h;obtain ⟨a,b,xs,ys,rfl,rfl,ha,hb,hx,hz,q1,q2⟩:=h;cases rx;cases ry;obtain ⟨its,r1,p1,_⟩:=I.tuple ha;obtain ⟨its2,r2,p2,_⟩:=I.tuple hb;refine HT.QH p1 p2 (λz=>hx (r1.nil_iff.mp z)) (λz=>⟨.ref a,H,I,rfl,q1 (r2.nil_iff.mp z)⟩) (λz=>?_) (by rw [<-r1.length,<-r2.length];exact hz);refine ⟨.ref s.heap.objs.size,_,I.laid (t':=s.toks) (o:=.tup (xs++ys)) (λb ob q=>aB _ q) (aK _) ?_,rfl,q2 (λw=>z (r2.nil_iff.mpr w)) _ (I.hok.fresh (aK _))⟩;exact ⟨⟨by rw [aI];exact hz,_,bB _ rfl,rfl⟩,_,r1.append r2,IsTup.new _ _⟩
end
def KO(n:Nat)(i:Int):Option Nat:=if 0<=i then (if i<n then some i.toNat else none) else if -(n:Int)<=i then some (i+n).toNat else none
def AC{α:Type}(xs:List α)(i:Int):Option α:=(KO xs.length i).bind λj=>xs[j]?
theorem DY{n:Nat}{i:Int}{j:Nat}(h:KO n i=some j):seqIndex? i n=some j/\j<n/\-(n:Int)<=i/\i<n:=by
 unfold KO at h;by_cases h0:0<=i
 ·rw [if_pos h0] at h;by_cases h1:i<n
  ·rw [if_pos h1] at h;have e:i.toNat=j:=eB h;exact ⟨by rw [seqIndex_of h0 h1,e],Oo,Oo,h1⟩
  ·rw [if_neg h1] at h;cases h
 ·rw [if_neg h0] at h;by_cases h1:-(n:Int)<=i
  ·rw [if_pos h1] at h;have e:(i+n).toNat=j:=eB h;exact ⟨by rw [seqIndex_neg Oo h1,e],Oo,h1,Oo⟩
  ·rw [if_neg h1] at h;cases h
theorem xJ{α:Type}{xs:List α}{i:Int}{v:α}(h:AC xs i=some v):∃j,seqIndex? i xs.length=some j/\xs[j]?=some v/\j<xs.length/\-(xs.length:Int)<=i/\i<xs.length:=by
 unfold AC at h;cases e:KO xs.length i with
 | none=>rw [e] at h;cases h
 | some j =>
  rw [e] at h;obtain ⟨h1,h2,h3,h4⟩:=DY e;exact ⟨j,h1,h,h2,h3,h4⟩
theorem fK{α:Type}{xs:List α}{j:Nat}{v:α}(h:xs[j]?=some v):AC xs (j:Int)=some v:=by
 have hj:j<xs.length:=(bN.mp h).1;have e:KO xs.length (j:Int)=some j:=by
  unfold KO;rw [if_pos Oo,if_pos Oo];simp
 unfold AC;rw [e];exact h
def FC(b:Expr):Prop:=∀o i,subscripted b false o i=operate [o,i] (getItem o i)
def MD(X:Cx)(r:R2):Prop :=
 ∀(value slice:Expr) (pins:List (Addr × Obj)) (s:Shared) (σ:St) (H:Hp) (x y:V) (v u:Value) (Q:VK),bY X pins σ H s->cW x v->cW y u->r x y H Q ->
  subscripted slice false v u=operate [v,u] (getItem v u)->wpAny (model X.prog X.w) X.A (subscriptTail value slice v u) (EP X pins σ Q) X.xe s
def ZY(X:Cx)(id:String)(r:V->List V->Hp->VK->Prop):Prop :=
 ∀(pins:List (Addr × Obj)) (s:Shared) (σ:St) (H:Hp) (x:V) (xs:List V) (v:Value) (us:List Value) (Q:VK),bY X pins σ H s->cW x v->cJ xs us->r x xs H Q ->
  wpAny (model X.prog X.w) X.A (call (.builtin id) (v::us)) (EP X pins σ Q) X.xe s
section
variable{X:Cx}{a b:Expr}{ta tb:TE}{pos:Pos}
theorem MD.or{r r':R2}(h:MD X r)(h':MD X r'):MD X (λx y H Q=>r x y H Q\/r' x y H Q):=by
 intro value slice pins s σ H x y v u Q I rx ry q hs;rcases q with q | q
 ·exact h value slice pins s σ H x y v u Q I rx ry q hs
 ·exact h' value slice pins s σ H x y v u Q I rx ry q hs
theorem YY{r:R2}(hr:MD X r)(ha:PE X a ta)(hb:PE X b tb)(hs:FC b):PE X (.Subscript a b pos) (HW r ta tb):=by
 intro pins s σ H Q I h;exact Subscript_ (WT ha hb I h λv u s2 x y H2 I2 rx ry q=>hr a b pins s2 σ H2 x y v u Q I2 rx ry q (hs _ _))
def YQ(K:PySem.W.Frag):R2:=λx y H Q=>∃p xs i v,x=.ref p/\y=.int i/\gG K H p xs/\AC xs i=some v/\Q v H
def YN(K:PySem.W.Frag):R2:=λx y H Q=>∃p xs i v,x=.ref p/\y=.int i/\eI K H p xs/\AC xs i=some v/\Q v H
def YO:R2:=λx y H Q=>∃z i c,x=.str z/\y=.int i/\z.length<=sizeLine/\AC z.cps.toList i=some c/\Q (.str ⟨#[c]⟩) H
theorem PQ:MD X (YQ X.K):=by
 intro value slice pins s σ H x y v u Q I rx ry h hs;obtain ⟨p,xs,i,z,rfl,rfl,hq,he,q⟩:=h;cases rx;obtain ⟨t,rfl⟩:=ry;obtain ⟨its,r,pl,hz⟩:=I.list hq;obtain ⟨j,h1,h2,h3,h4,h5⟩:=xJ he;obtain ⟨w,ew,rw'⟩:=r.get h2;have hl:=r.length;have hn:=sZ;have fin:EP X pins σ Q w s:=⟨z,H,I,rw',q⟩;by_cases h0:0<=i
 ·have hj:i.toNat=j:=by
   rw [seqIndex_of h0 h5] at h1;exact eB h1
  exact item_listR pl.isList h0 Oo (by rw [hj];simpa using ew) fin hs
 ·have hj:(i+(its.toArray.size:Int)).toNat=j:=by
   rw [seqIndex_neg Oo h4] at h1;rw [aO,<-hl];exact eB h1
  exact subscriptTail_builtinR (x:=w) pl.isList.typeIs slot_list_getitem.lookup
   (wpAny_getItem_list_neg (Q:=λr s'=>r=w/\EP X pins σ Q r s') pl.isList Oo (by rw [aO] <;> omega) Oo (by rw [hj];simpa using ew) ⟨rfl,fin⟩) hs
theorem VX:MD X (YN X.K):=by
 intro value slice pins s σ H x y v u Q I rx ry h hs;obtain ⟨p,xs,i,z,rfl,rfl,hq,he,q⟩:=h;cases rx;obtain ⟨t,rfl⟩:=ry;obtain ⟨its,r,pl,hz⟩:=I.tuple hq;obtain ⟨j,h1,h2,h3,h4,h5⟩:=xJ he;obtain ⟨w,ew,rw'⟩:=r.get h2;have hl:=r.length;have hn:=sZ;have fin:EP X pins σ Q w s:=⟨z,H,I,rw',q⟩;exact subscriptTail_builtinR (x:=w) pl.typeIs slot_tuple_getitem.lookup
  (getItem_tuple (j:=j) (Q:=λr s'=>r=w/\EP X pins σ Q r s') pl Oo Oo (by rw [aO,<-hl];exact h1) (by simpa using ew) ⟨rfl,fin⟩) hs
theorem VY:MD X YO:=by
 intro value slice pins s σ H x y v u Q I rx ry h hs;obtain ⟨z,i,c,rfl,rfl,hz,he,q⟩:=h;obtain ⟨t,rfl⟩:=rx;obtain ⟨t',rfl⟩:=ry;obtain ⟨j,h1,h2,h3,h4,h5⟩:=xJ he;have hl:z.cps.toList.length=z.length:=by simp [Str.length]
 rw [hl] at h1 h4 h5;have hn:=sZ;exact tail_any (typeIs_str s z t) slot_str_getitem.lookup (getItem_str (c:=c) (by
  have e1:decide (i < -(2^63:Int))=false:=bH Oo;have e2:decide (i ≥ 2^63)=false:=bH Oo;rw [e1,e2,Bool.or_false]) (by rw [h1];simpa using h2) ⟨.str ⟨#[c]⟩,H,I.tok _,⟨_,rfl⟩,q⟩) hs
def YR(K:PySem.W.Frag):R2:=λx y H Q=>YQ K x y H Q\/YN K x y H Q\/YO x y H Q
theorem cG:MD X (YR X.K):=PQ.or (VX.or VY)
theorem BO(its:List Value)(n j:Nat)(u:Value):Obj.mapSeq (·.setIfInBounds j u) { cls:=.type "list",data:=.seq its.toArray n }={ cls:=.type "list",data:=.seq (its.set j u).toArray n }:=by
 simp [Obj.mapSeq]
theorem bY.lst{pins:List (Addr × Obj)}{σ:St}{H:Hp}{s:Shared}{p:Addr}{xs:List V}(I:bY X pins σ H s)(h:H p=some (.lst xs)) :
  ∃(its:List Value) (n:Nat),cJ xs its/\s.heap.get? p=some { cls:=.type "list",data:=.seq its.toArray n }/\xs.length<=sizeLine:=by
 obtain ⟨z,its,n,r,e⟩:=I.hok p _ h;exact ⟨its,n,r,e,z⟩
theorem bY.lstUpd{pins:List (Addr × Obj)}{σ:St}{H:Hp}{s:Shared}{p:Addr}{xs ys:List V}{its its':List Value}{n n':Nat}{f:Obj->Obj}(I:bY X pins σ H s)(h:H p=some (.lst xs))
  (ho:s.heap.get? p=some { cls:=.type "list",data:=.seq its.toArray n }) (hf:f { cls:=.type "list",data:=.seq its.toArray n }={ cls:=.type "list",data:=.seq its'.toArray n' }) (r:cJ ys its') (hz:ys.length<=sizeLine) (t:Nat) :
  bY X pins σ (upd H p (.lst ys)) { s with heap:=s.heap.update p f,toks:=t }:=by
 have e:(s.heap.update p f).get? p=some { cls:=.type "list",data:=.seq its'.toArray n' }:=by
  rw [Heap.get?_update_self f ho (by rw [hf] <;> rfl),hf]
 refine I.write (x:=p) (e:=p) (by rw [h];trivial) (.inl rfl) (λb u hb q=>(Heap.get?_update_other _ _ (Ne.symm hb)).trans q) ⟨_,e⟩ ?_;exact ⟨hz,its',n',r,e⟩
def JK:V->V->V->Hp->(Hp->Prop)->Prop:=λo i v H Q=>∃p xs k j,o=.ref p/\i=.int k/\H p=some (.lst xs)/\KO xs.length k=some j/\Q (upd H p (.lst (xs.set j v)))
theorem JA:WY X JK:=by
 intro pins s σ H o i v ov iv u Q I ro ri rv h;obtain ⟨p,xs,k,j,rfl,rfl,hp,hj,q⟩:=h;cases ro;obtain ⟨t,rfl⟩:=ri;obtain ⟨its,n,r,ho,hz⟩:=I.lst hp;obtain ⟨h1,h2,h3,h4⟩:=DY hj;have hl:=r.length;have hn:=sZ;have I':bY X pins σ (upd H p (.lst (xs.set j v))) { s with heap:=s.heap.update p (Obj.mapSeq (·.setIfInBounds j u)) } :=
  I.lstUpd hp ho (BO its n j u) (r.set rv j) (by rw [List.length_set];exact hz) s.toks
 by_cases h0:0<=k
 ·have hk:k.toNat=j:=by
   rw [seqIndex_of h0 h4] at h1;exact eB h1
  exact PySem.W.ki_setAt ho h0 Oo (by rw [aO,<-hl];exact h4) (by rw [hk];exact ⟨_,I',q⟩)
 ·have hk:(k+(its.toArray.size:Int)).toNat=j:=by
   rw [seqIndex_neg Oo h3] at h1;rw [aO,<-hl];exact eB h1
  exact PySem.W.ki_setBack ho Oo (by rw [aO,<-hl];exact h3) Oo (by rw [hk];exact ⟨_,I',q⟩)
theorem wI(lo hi:Option Int)(n:Nat):(sliceBounds lo hi none n).1=((HT.gB n 0 lo:Nat):Int)/\(sliceBounds lo hi none n).2.1=((HT.gB n n hi:Nat):Int)/\(sliceBounds lo hi none n).2.2=1:=by
 refine ⟨?_,?_,rfl⟩
 ·cases lo with
  | none=>simp [sliceBounds,HT.gB]
  | some i =>
   simp only [sliceBounds,HT.gB,Option.getD_none,show (1:Int) > 0 by decide,if_true];by_cases h:i<0
   ·simp only [h,if_true] <;> omega
   ·simp only [h,if_false] <;> omega
 ·cases hi with
  | none=>simp [sliceBounds,HT.gB]
  | some i =>
   simp only [sliceBounds,HT.gB,Option.getD_none,show (1:Int) > 0 by decide,if_true];by_cases h:i<0
   ·simp only [h,if_true] <;> omega
   ·simp only [h,if_false] <;> omega
theorem uH(its:List Value)(lo hi:Option Int):slicePick its.toArray lo hi none=((its.drop (HT.gB its.length 0 lo)).take (HT.gB its.length its.length hi-HT.gB its.length 0 lo)).toArray:=by
 obtain ⟨h1,h2,h3⟩:=wI lo hi its.toArray.size;unfold slicePick;rw [h1,h2,h3];simp only [sliceRange_one,pick_run,aO] <;> rfl
def aAI(K:PySem.W.Frag):V->Option Int->Option Int->Hp->VK->Prop:=λx lo hi H Q=>∃a xs,x=.ref a/\gG K H a xs/\∀p,H p=none->Q (.ref p) (upd H p (.lst (kA xs lo hi)))
theorem NB:ZT X (aAI X.K):=by
 intro pins s σ H x v vl vu lo hi sl Q I rx hs pl pu h;obtain ⟨a,xs,rfl,hx,q⟩:=h;cases rx;obtain ⟨its,r,ht,hz⟩:=I.list hx;have hlen:=r.length;refine ⟨"list",_,slot_list_getitem.lookup,ht.isList.typeIs,?_⟩;refine wpAny_getItem_list_slice ht.isList hs pl pu .none (by simp) ?_ (by rw [aO] <;> omega);rw [uH,<-hlen];refine ⟨.ref s.heap.objs.size,_,I.laid (t':=s.toks) (o:=.lst (kA xs lo hi)) (λb ob q=>aB _ q) (aK _) ?_,rfl,q _ (I.hok.fresh (aK _))⟩;exact ⟨bC (rG xs lo hi) hz,_,0,(r.drop (HT.gB xs.length 0 lo)).take (HT.gB xs.length xs.length hi-HT.gB xs.length 0 lo),bB _ rfl⟩
theorem lJ:eW X (.type "list") (λxs H Q=>∃p ys,xs=[.ref p]/\(gG X.K H p ys\/eI X.K H p ys)/\∀l,H l=none->Q (.ref l) (upd H l (.lst ys))):=by
 intro pins s σ H xs us Q I r h;obtain ⟨p,ys,rfl,hq,q⟩:=h;obtain ⟨u,rfl,rx⟩:=iG r;cases rx;have fin:∀(its:List Value),cJ ys its->ys.length<=sizeLine->∀(h':Heap) (c':Nat),(∀b o',s.heap.get? b=some o'->h'.get? b=some o') ->
   h'.get? s.heap.objs.size=some { cls:=.type "list",dict:=none,data:=.seq its.toArray c',slots:=#[] }->EP X pins σ Q (.ref s.heap.objs.size) { s with heap:=h' }:=λits r' hz h' c' kp e =>
  ⟨.ref s.heap.objs.size,_,I.laid (t':=s.toks) kp (aK _) (show dL X.prog X.w _ h' _ (.lst ys) from ⟨hz,its,c',r',e⟩),rfl,q _ (I.hok.fresh (aK _))⟩
 rcases hq with hq | hq
 ·obtain ⟨its,r',pl,hz⟩:=I.list hq;have hlen:=r'.length;obtain ⟨o,ho,hc,n,hd⟩:=pl.isList;exact call_list_seq p (.inl rfl) ho hc hd (λh' c' kp e=>fin its r' hz h' c' kp e) (by simp only [aO] <;> omega)
 ·obtain ⟨its,r',pl,hz⟩:=I.tuple hq;have hlen:=r'.length;obtain ⟨o,ho,hc,n,hd⟩:=pl;exact call_list_seq p (.inr rfl) ho hc hd (λh' c' kp e=>fin its r' hz h' c' kp e) (by simp only [aO] <;> omega)
theorem gF:eW X (.type "tuple") (λxs H Q=>∃p ys,xs=[.ref p]/\((gG X.K H p ys/\∀l,H l=none->Q (.ref l) (upd H l (.tup ys)))\/(eI X.K H p ys/\Q (.ref p) H))):=by
 intro pins s σ H xs us Q I r h;obtain ⟨p,ys,rfl,h⟩:=h;obtain ⟨u,rfl,rx⟩:=iG r;cases rx;rcases h with ⟨hq,q⟩ | ⟨hq,q⟩
 ·obtain ⟨its,r',pl,hz⟩:=I.list hq;have hlen:=r'.length;refine call_tuple_list pl.isList (λh' kp=>?_) (by simp only [aO] <;> omega);have I1:bY X pins σ H { s with heap:=h' }:=I.kept (t':=s.toks) kp;have I2:bY X pins σ (upd H h'.objs.size (.tup ys)) { s with heap:=h'.push { cls:=.type "tuple",data:=.seq its.toArray } } :=
   I1.laid (t':=s.toks) (λb o e=>aB _ e) (aK _) (show dL X.prog X.w _ _ _ (.tup ys) from ⟨⟨hz,_,bB _ rfl,rfl⟩,its,r',IsTup.new _ _⟩)
  exact ⟨.ref h'.objs.size,_,I2,rfl,q _ (I1.hok.fresh (aK _))⟩
 ·obtain ⟨its,r',pl,hz⟩:=I.tuple hq;exact call_tuple_same pl ⟨.ref p,H,I,rfl,q⟩
def tyV(K:PySem.W.Frag)(T:String)(x:V)(H:Hp):Prop:=match x with
 | .str _=>T = "str"
 | .int _=>T = "int"
 | .ref p=>(T = "list" /\ ∃xs,gG K H p xs)\/(T = "tuple" /\ ((∃o,K.lookup p=some o/\o.cls=.type "tuple" /\ o.dict=none)\/∃xs,H p=some (.tup xs))) \/
   (T = "dict" /\ ((∃kvs,H p=some (.dK kvs))\/∃kvs,H p=some (.dT kvs)))\/(T = "set" /\ ∃S n,H p=some (.set S n))
 | _=>False
theorem SN{pins:List (Addr × Obj)}{σ:St}{H:Hp}{s:Shared}{T:String}{x:V}{v:Value}(I:bY X pins σ H s)(r:cW x v)(ty:tyV X.K T x H) :
  s.TypeIs v T/\∀a,v=.ref a->∃ob,s.heap.get? a=some ob/\ob.dict=none:=by
 cases x with
 | str z =>
  obtain ⟨t,rfl⟩:=r;cases (show T = "str" from ty);exact ⟨typeIs_str s z t,λ_ e=>nomatch e⟩
 | int i =>
  obtain ⟨t,rfl⟩:=r;cases (show T = "int" from ty);exact ⟨typeIs_int s i t,λ_ e=>nomatch e⟩
 | ref p =>
  cases r;rcases ty with ⟨rfl,xs,hq⟩ | ⟨rfl,⟨o,hk,hc,hd⟩ | ⟨xs,hq⟩⟩ | ⟨rfl,hk⟩ | ⟨rfl,S,n,hk⟩
  ·obtain ⟨its,_,pl,_⟩:=I.list hq;refine ⟨pl.isList.typeIs,λa e=>?_⟩;cases e;obtain ⟨o,n,e,c,hd,_⟩:=pl;exact ⟨o,e,hd⟩
  ·refine ⟨⟨o,I.kIn p o hk,hc⟩,λa e=>?_⟩;cases e;exact ⟨o,I.kIn _ o hk,hd⟩
  ·obtain ⟨⟨_,on,en,dn⟩,_,_,o,e1,e2,_⟩:=(show dL X.prog X.w H s.heap p (.tup xs) from I.hok p _ hq);refine ⟨⟨o,e1,e2⟩,λa e=>?_⟩;cases e;exact ⟨on,en,dn⟩
  ·have z:∃o,s.heap.get? p=some o/\o.ExactDict:=by
    rcases hk with ⟨kvs,hk⟩ | ⟨kvs,hk⟩
    ·obtain ⟨_,_,_,_,o,_,_,e,ex,_⟩:=I.hok p _ hk;exact ⟨o,e,ex⟩
    ·obtain ⟨_,_,_,_,o,_,_,e,ex,_⟩:=I.hok p _ hk;exact ⟨o,e,ex⟩
   obtain ⟨o,e,ex⟩:=z;refine ⟨⟨o,e,ex.1⟩,λa e2=>?_⟩;cases e2;exact ⟨o,e,ex.2.1⟩
  ·obtain ⟨o,_,_,_,e,ex,_⟩:=I.hok p _ hk;refine ⟨⟨o,e,ex.1⟩,λa e2=>?_⟩;cases e2;exact ⟨o,e,ex.2.1⟩
 | _=>exact False.elim ty
def tBM(K:PySem.W.Frag)(T:String)(r:V->List V->Hp->VK->Prop)(to:TE)(t:TA):TE:=λσ H Q=>to σ H λx H1=>tyV K T x H1/\t σ H1 λxs H2=>r x xs H2 Q
variable{o e:Expr}{es:List Expr}{to:TE}{t:TA}{name:Str}{apos cpos:Pos}{T id:String}{r:V->List V->Hp->VK->Prop}
theorem ZA(pa:PlainAttrs T)(slot:Slot T name id)(hty:typeOf (.builtin id)=pure (.type "method_descriptor"))(hm:ZY X id r)(ho:PE X o to)(ha:PA X (e::es) t)
  (hbase:attributeBase o name X.env (eval o X.env)=eval o X.env:=by rfl)
  (hfew:((backTo cpos (starEach (e::es) X.env)).all (λx=>!x.1)&&(backToKw cpos (keywordEach [] X.env)).all (λx=>x.1.isSome)
   && decide ((e::es).length+([]:List Keyword).length+(if ([]:List Keyword).isEmpty then 0 else 1)<30))=true:=by rfl)
  (hline:(apos.endLine == cpos.line)=true:=by rfl) (hs:starEach (e::es) X.env=(false,eval e X.env)::starEach es X.env:=by rfl) (hplain:(backTo cpos (starEach es X.env)).any (·.1)=false:=by rfl) :
  PE X (.Call (.Attribute o name apos) (e::es) [] cpos) (tBM X.K T r to t):=by
 intro pins s σ H Q I h;refine wpAny_Call_method_late hbase hfew hline rfl (thn (ho pins s σ H _ I h) λv s1 ⟨x,H1,I1,r1,ty,q1⟩=>?_);obtain ⟨h1,h2⟩:=SN I1 r1 ty;refine ⟨T,id,pa,slot,hty,h1,h2,?_⟩;have hA:=ha cpos pins s1 σ H1 _ I1 q1;rw [hs] at hA ⊢;refine Calls.callWith_builtin (by show (false || (backTo cpos (starEach es X.env)).any (·.1))=false;rw [hplain] <;> rfl) (Calls.evalArgs_plain ?_);exact thn hA λus s2 ⟨vs,H2,I2,r2,q2⟩=>hm pins s2 σ H2 x vs v us Q I2 r1 r2 q2
/- xs.append(e),list.index on a module's tuple .. are ZY facts of 06m -/
end
def MtM(X:Cx)(id:String)(r:V->List V->Hp->VK->Prop):Prop :=
 ∀(pins:List (Addr × Obj)) (s:Shared) (σ:St) (H:Hp) (x:V) (xs:List V) (v:Value) (us:List Value) (Q:VK),bY X pins σ H s->cW x v->cJ xs us->r x xs H Q ->
  wpAny (model X.prog X.w) X.A (call (.builtin id) (v::us)) (EP X pins σ Q) X.xe s
theorem cJ.one:∀{x:V}{us:List Value},cJ [x] us->∃u,us=[u]/\cW x u
 | _,_,.cons r .nil=>⟨_,rfl,r⟩
theorem cJ.rep{xs:List V}{us:List Value}(h:cJ xs us):∀k:Nat,cJ (List.replicate k xs).flatten (List.replicate k us).flatten
 | 0=>.nil
 | k+1=>by
  rw [List.replicate_succ,List.replicate_succ,List.flatten_cons,List.flatten_cons];exact cJ.append h (cJ.rep h k)
theorem qF(its:List Value):∀(k:Nat) (acc:List Value),
  List.foldl (λx1 x2=>x1++x2) acc.toArray (List.replicate k its.toArray)=(acc++(List.replicate k its).flatten).toArray
 | 0,acc=>by simp
 | k+1,acc=>by
  have e:acc.toArray++its.toArray=(acc++its).toArray:=by simp
  have e2:(acc++its)++(List.replicate k its).flatten=acc++(List.replicate (k+1) its).flatten:=by
   rw [List.replicate_succ,List.flatten_cons,List.append_assoc]
  rw [<-e2,<-qF its k (acc++its),<-e,List.replicate_succ,List.foldl_cons]
section
variable{X:Cx}{pins:List (Addr × Obj)}{σ:St}{H:Hp}{s:Shared}{l b:Addr}{xs ys zs:List V}
theorem bY.lset{its its':List Value}{n:Nat}{f:Array Value->Array Value}{t':Nat}(I:bY X pins σ H s)(hH:H l=some (.lst xs))
  (e:s.heap.get? l=some { cls:=.type "list",data:=.seq its.toArray n }) (hf:f its.toArray=its'.toArray) (hv:cJ ys its') (hz:ys.length<=sizeLine) :
  bY X pins σ (upd H l (.lst ys)) { s with heap:=s.heap.update l (Obj.mapSeq f),toks:=t' }:=by
 have q:=PySem.IsL.update e f;rw [hf] at q;refine I.write (x:=l) (e:=l) (by rw [hH];exact trivial) (.inl rfl) (λb' u hb hu=>(Heap.get?_update_other s.heap (Obj.mapSeq f) (Ne.symm hb)).trans hu) ⟨_,q⟩ ?_;exact ⟨hz,its',_,hv,q⟩
theorem bY.lnew{its:List Value}{t':Nat}(I:bY X pins σ H s)(hv:cJ ys its)(hz:ys.length<=sizeLine) :
  bY X pins σ (upd H s.heap.objs.size (.lst ys)) { s with heap:=s.heap.push { cls:=.type "list",data:=.seq its.toArray },toks:=t' } :=
 I.laid (λ_ _ q=>aB _ q) (aK _) ⟨hz,its,0,hv,bB _ rfl⟩
theorem bY.fresh(I:bY X pins σ H s):H s.heap.objs.size=none:=I.hok.fresh (aK _)
theorem bY.lstM(I:bY X pins σ H s)(hH:H l=some (.lst xs)):xs.length<=sizeLine/\∃(its:List Value) (n:Nat),cJ xs its/\xs.length=its.length/\s.heap.get? l=some { cls:=.type "list",data:=.seq its.toArray n }:=by
 obtain ⟨z,its,n,r,e⟩:=I.hok l _ hH;exact ⟨z,its,n,r,r.length,e⟩
theorem yN{n:Nat}(h:n<=sizeLine):Builtin.List.listTooLong n=false:=by
 unfold Builtin.List.listTooLong;exact bH Oo
end
section
variable{X:Cx}
def DL:V->List V->Hp->VK->Prop:=λx vs H Q=>∃l xs y,x=.ref l/\vs=[y]/\H l=some (.lst xs)/\xs.length<sizeLine/\Q .non (upd H l (.lst (xs++[y])))
theorem qA:MtM X "list.append" DL:=by
 intro pins s σ H x vs v us Q I rx rv h;obtain ⟨l,xs,y,rfl,rfl,hH,hz,q⟩:=h;cases rx;obtain ⟨u,rfl,ru⟩:=rv.one;obtain ⟨z,its,n,r,hl,e⟩:=I.lstM hH;refine call_meets F.slot_list_append ⟨_,e,rfl⟩ F.entry_list_append (F.args_list_append_2 _ _) (PySem.list_append l its.toArray n u (by rw [aO];omega)) ⟨e,?_⟩;refine ⟨.non,_,I.lset (its':=its++[u]) hH e (by simp) (r.append (.cons ru .nil)) ?_,rfl,q⟩;rw [aI,List.length_singleton];omega
def DK:V->List V->Hp->VK->Prop:=λx vs H Q=>∃l b xs zs,x=.ref l/\vs=[.ref b]/\H l=some (.lst xs)/\H b=some (.lst zs)/\xs.length+zs.length<=sizeLine/\Q .non (upd H l (.lst (xs++zs)))
theorem GL:MtM X "list.extend" DK:=by
 intro pins s σ H x vs v us Q I rx rv h;obtain ⟨l,b,xs,zs,rfl,rfl,hH,hB,hz,q⟩:=h;cases rx;obtain ⟨u,rfl,ru⟩:=rv.one;cases ru;obtain ⟨z,its,n,r,hl,e⟩:=I.lstM hH;obtain ⟨z2,its2,n2,r2,hl2,e2⟩:=I.lstM hB;have hsz:its.toArray.size+its2.toArray.size<=sizeLine:=by rw [aO,aO];omega
 have hlong:¬(!its.toArray.isEmpty&&Builtin.List.listTooLong (its.toArray.size+its2.toArray.size))=true:=by
  rw [yN hsz,Bool.and_false];exact bQ
 refine call_meets F.slot_list_extend ⟨_,e,rfl⟩ F.entry_list_extend (F.args_list_extend_2 _ _)
  (AutoSeq1.list_extend_list_list_0 l its.toArray n b its2.toArray n2 hlong (by rw [aO];omega) Oo) ⟨e,e2,?_⟩
 refine ⟨.non,_,I.lset (its':=its++its2) hH e (by simp) (r.append r2) ?_,rfl,q⟩;rw [aI];omega
def YT:R2:=λx y H Q=>∃l b xs zs,x=.ref l/\y=.ref b/\H l=some (.lst xs)/\H b=some (.lst zs)/\xs.length+zs.length<=sizeLine/\∀p,H p=none->Q (.ref p) (upd H p (.lst (xs++zs)))
theorem VB:lN X (binaryOp .Add) YT:=by
 intro pins s σ H x y v u Q I rx ry h;obtain ⟨l,b,xs,zs,rfl,rfl,hH,hB,hz,q⟩:=h;cases rx;cases ry;obtain ⟨z,its,n,r,hl,e⟩:=I.lstM hH;obtain ⟨z2,its2,n2,r2,hl2,e2⟩:=I.lstM hB;refine PySem.P.add_list e e2 ?_ (by rw [aO,aO];omega);have ea:its.toArray++its2.toArray=(its++its2).toArray:=by simp
 rw [ea];exact ⟨.ref _,_,I.lnew (t':=s.toks) (r.append r2) (by rw [aI];omega),rfl,q _ I.fresh⟩
def YM:R2:=λx y H Q=>∃l k xs,x=.ref l/\y=.int k/\H l=some (.lst xs)/\-(2^63)<=k/\k<2^63/\xs.length*k.toNat<=sizeLine /\
 ∀p,H p=none->Q (.ref p) (upd H p (.lst (List.replicate k.toNat xs).flatten))
theorem PJ{α:Type}(xs:List α)(k:Nat):(List.replicate k xs).flatten.length=k*xs.length:=by
 induction k with
 | zero=>simp
 | succ k ih=>rw [List.replicate_succ,List.flatten_cons,aI,ih,Nat.succ_mul,Nat.add_comm]
theorem UX:lN X (binaryOp .Mult) YM:=by
 intro pins s σ H x y v u Q I rx ry h;obtain ⟨l,k,xs,rfl,rfl,hH,h1,h2,hz,q⟩:=h;cases rx;obtain ⟨t,rfl⟩:=ry;obtain ⟨z,its,n,r,hl,e⟩:=I.lstM hH;have hlen:its.toArray.size*k.toNat<=sizeLine:=by rw [aO,<-hl];exact hz
 have hcap:¬its.toArray.size*k.toNat > (2^63-1)/8:=by
  have:(sizeLine:Nat)<=(2^63-1)/8:=Dd;omega
 have hfit:¬(!Builtin.List.listFitsIndex k)=true:=by
  rw [fitsIndex_both h1 h2];exact bQ
 have hlong:¬Builtin.List.listTooLong (its.toArray.size*k.toNat)=true:=by
  rw [yN hlen];exact bQ
 have hnew:List.foldl (λx1 x2=>x1++x2) #[] (List.replicate (if its.toArray.isEmpty=true then 0 else k.toNat) its.toArray)=(List.replicate k.toNat its).flatten.toArray:=by
  have f0:∀m:Nat,List.foldl (λx1 x2=>x1++x2) #[] (List.replicate m its.toArray)=(List.replicate m its).flatten.toArray:=λm=>by
   have:=qF its m [];rw [List.nil_append] at this;exact this
  rw [f0];cases its with
  | nil=>simp
  | cons a r'=>rw [if_neg (by simp)]
 refine wpAny_binaryOp_repeat_ref (T := "list") (U := "int") Dd ⟨_,e,rfl⟩ (λs'=>typeIs_int s' k t) noFill_list_mul F.fills_int_mul F.slot_int_rmul repeat_list F.slot_int_index.lookup
  (call_meets F.slot_int_rmul (typeIs_int s k t) F.entry_int_rmul (F.args_int_rmul_2 _ _) (int___rmul___int_list k t l its.toArray n)
   ⟨e,rfl,⟨_,e,rfl⟩,call_meets F.slot_list_mul ⟨_,e,rfl⟩ F.entry_list_mul (F.args_list_mul_2 _ _) (AutoListH.list___mul___list_int_3 l its.toArray n k t hfit hcap hlong) ⟨e,?_⟩⟩)
 rw [hnew];exact ⟨.ref _,_,I.lnew (t':=s.toks) (r.rep k.toNat) (by rw [PJ,Nat.mul_comm];exact hz),rfl,q _ I.fresh⟩
end
section
variable{prog:Program}{w:World}{A:Around}{E:Value->Shared->Prop}{s:Shared}
end
section
variable{X:Cx}
end
end L2
namespace Att
open PySem PySem.W PySem.Calls PyProof.Rows
theorem rK{P:Params}{h:Heap}:∀(ns:List Int) (vs:List Value),WellAll P h vs (ns.map WData.int)->IntsAre vs ns:=by
 intro ns
 induction ns with
 | nil =>
  intro vs w;rw [List.map_nil] at w;cases w;exact .nil
 | cons n ns ih =>
  intro vs w;rw [aV] at w;cases w with
  | cons a b =>
   cases a;exact .cons _ _ (ih _ b)
theorem FZ{l:OpenLaw}{n:Nat}(hn:l.most=some n){P:Params}{h:Heap}{args:List WData}{vals:List Value}
  (hpre:l.row.toRowW.claim.pre args=true) (hwl:WellAll P h vals args) :
  ∃a vs ns,vals=[Value.ref a]/\args=[WData.list (ns.map WData.int)]/\h.get? a=some { cls:=.type "list",data:=.seq vs.toArray }/\IntsAre vs ns/\ns.length<=n:=by
 have hsh:WShape.hasAll [] args [.list .int]=true:=(pre_splitW hpre).1;have hc:l.pre.holds [] { args:=args }=true:=(pre_splitW hpre).2;obtain ⟨d,r,rfl,h1,h2⟩:=hasAllW_cons hsh;obtain rfl:=hasAllW_nil h2;obtain ⟨xs,rfl,h3⟩:=hasW_list h1;obtain ⟨ns,rfl⟩:=items_int h3;have hlen:ns.length<=n:=by
  unfold OpenLaw.pre at hc;have h4:(WTm.not (.lt (.lit (.int (n:Int))) (.len (.arg 0)))).holds [] { args:=[.list (ns.map .int)] }=true:=by
   have h4:=(holds_andW hc).1;rw [hn] at h4;exact h4
  have h5:=condW_of h4 (w_not (w_lt w_lit (w_len_list (w_arg rfl))));rw [aA] at h5;refine Nat.le_of_not_lt λq=>?_;have q':(n:Int)<((ns.length:Nat):Int):=Oo
  first
   | (rw [aM q'] at h5;exact absurd h5 Dd)
   | (simp at h5;omega)
 cases hwl with
 | cons w1 w2 =>
  cases w2;cases w1 with
  | list ho hall=>exact ⟨_,_,ns,rfl,rfl,ho,rK ns _ hall,hlen⟩
theorem GE(l:OpenLaw)(args:List WData):l.row.toRowW.claim.post args (.bool true) args=true :=
 postW_of (r:=l.row.toRowW) (X:=(true == true))
  (show WShape.has [] (.bool true) .bool=true by first | rfl | decide | simp [WShape.has,WShape.arms,WShape.armsAll])
  (show (WTm.eq .res (.lit (.bool true))).value [] { args:=args,res:=some (.bool true),after:=args }=some (.bool (true == true)) from w_eq_bool (w_res rfl) w_lit) rfl
theorem zV{l:OpenLaw}{n:Nat}{q:Program}{loose:List Str}{XP:(Str->Option Value)->Heap->Prop}{YP:World->Heap->Prop}{d:DefRec}
  (hn:l.most=some n) (hdf:d.params.defaults=[])
  (call:∀(w:World) (s₀ s₁:Shared) (mg mb:Str->Option Value) (fa:Addr) (o:Obj) (pm cd doc:Value) (a:Addr) (vs:List Value) (ns:List Int),
   Ground q loose [] XP w s₀ mg mb s₁.heap->YP w s₁.heap ->
   s₁.heap.get? fa=some o->o.data=.func (docDef d.name d.params d.body d.scope pm cd doc)->s₁.heap.CodeRec cd d.name->mg d.name=some (.ref fa) ->
   s₁.heap.get? a=some { cls:=.type "list",data:=.seq vs.toArray }->IntsAre vs ns->ns.length<=n->s₁.gens=#[] ->
   codeAny (model l.prog w) callerA (.call (.ref fa) ⟨[.ref a],[]⟩) (λr s'=>r=.ok (.ret (.bool true))/\OldK s₁.heap s'.heap/\s'.os=s₁.os/\AllBare s'.gens) s₁) :
  WalkO q loose XP YP l.row.toRowW d [] (λf vs=>PySem.call f vs):=by
 intro w s₀ s₁ mg mb G Y fa o pm cd doc dV kV ho hd hcd hD hmg hg args vals as hpre hlay hrd hwl hlo;obtain rfl:dV=.none:=Dflts.none hD hdf;obtain rfl:kV=.none:=Dflts.noKw hD;obtain ⟨a,vs,ns,rfl,rfl,hobj,hints,hlen⟩:=FZ hn hpre hwl;refine enter_call (codeAny_mono (call w s₀ s₁ mg mb fa o pm cd doc a vs ns G Y ho (fd_plain hd) hcd hmg hobj hints hlen hg) λr s' hq=>?_);obtain ⟨rfl,h2,h3,h4⟩:=hq;exact ⟨.inl ⟨.bool true,.bool true,[],rfl,λ_=>rfl,.bool true,GE l _,λ_=>⟨List.Pairwise.nil,λ_ hm=>(nomatch hm)⟩⟩,h2,h3,h4⟩
section
variable{prog:Program}{w:World}{A:Around}{E:Value->Shared->Prop}{s:Shared}{K:Frag}
end
end Att
namespace L2
open PySem PySem.Spec PyProof.Rows
theorem uO:∀{vs:List Value}{ns:List Int},IntsAre vs ns->cJ (ns.map V.int) vs
 | _,_,.nil=>.nil
 | _,_,.cons n t h=>.cons ⟨t,rfl⟩ (uO h)
end L2
/- THE LAST THEOREM (shape;LID,My.* are yours):
   My.Adr: a structure of the addresses that your layer names (classes,functions);My.Txt K t: a structure (Prop) of the equations over K;
   My.txt_mk:{K} {implicit addresses ..} (e1:nsIn K mainGlobals "law" = some (some (.ref f))) (e2:K.lookup f=some ⟨oc,od,.func (fnOf "law" "law" params body scope dV kV doc pm an cdv ct),sl⟩) (e3:codeIn K cdv "law" = true) .. : ∃t,My.Txt K t
set_option maxRecDepth 100000 in
set_option maxHeartbeats 0 in
theorem PySem.Challenge.cw_LID_holds : PySem.Challenge.rw_LID.Holds := by
  w_on;o_law;k_head;(case hw=>w_witness2)
  k_fill
  refine L2.walk_of (l:=PySem.Challenge.rw_LID) (n:=63) (k:=40) (x := "script") (CX:=λw=>..) (sp:=λ_=>My.sp_law) rfl Dd rfl ⟨rfl,Dd,Dd⟩ (λw h Y=>PySem.W.kIn_of Y) ?F ?S ?C
  case F =>
    intro w mg fa h KX G hmg;have T:∃t,My.Txt (L2.KOf KX) t:=by
      dsimp only [L2.KOf]                          -- K must stand as «<heap const> w.params» for k_is
      refine' My.txt_mk ?e1 ?e2 ?e3 ..
      (case e1=>PySem.W.k_is)                    -- in the order: a name -> its address -> its object -> its parts
      (case e2=>PySem.W.k_is)
      ..
    obtain ⟨t,T⟩:=T;have e0:=hmg.symm.trans (PySem.W.mg_of KX G T.law);cases e0                                       -- fa is the law's own address;exact ⟨_,λs u=>.of_eq rfl,λbase kb nb=>My.law_fn T kb nb⟩     -- if «.of_eq rfl» comes too early: refine' ⟨_,?b,λbase kb nb=>My.law_fn T kb nb⟩;exact λs u=>.of_eq rfl
  case S=>exact λw H a ns hl hO hS=>..
  case C=>exact ..
(the tactic k_is has no namespace: write k_is) -/
namespace L2
open PySem PySem.Spec PyProof.Rows
def lI(s:Stmt):Arguments:=match s with
 | .FunctionDef _ a _ _ _ _ _ _ _ _=>a
 | _=>{ posonlyargs:=[],args:=[],vararg:=none,kwonlyargs:=[],kw_defaults:=[],kwarg:=none,defaults:=[] }
def hJ(s:Stmt):List Stmt:=match s with
 | .FunctionDef _ _ b _ _ _ _ _ _ _=>b
 | _=>[]
def bD(s:Stmt):Scope:=match s with
 | .FunctionDef _ _ _ _ _ _ sc _ _ _=>sc
 | _=>{ kind:=.function,names:=[],isGenerator:=false,isCoroutine:=false }
abbrev dM:IB:=λ_ _ _ _ _ _=>False
abbrev E0:XK:=λ_ _ _=>False
theorem ZB{X:Cx}:CJ dM X E0:=λ_ _ _ _ _ _ _ h=>h.elim
structure iK(K:PySem.W.Frag)(x qual:Str)(st:Stmt)(f:Addr)(fd:FuncData):Prop where
 ex:∃(oc:Value) (od:Option Addr) (kV doc pm:Value) (an:Option Addr) (cdv ct:Value) (osl:Array (Option Value)),
  fd=PySem.W.fnOf x qual (lI st) (hJ st) (bD st) .none kV doc pm an cdv ct/\K.lookup f=some ⟨oc,od,.func fd,osl⟩/\PySem.W.codeIn K cdv qual=true
 kp:PySem.W.keepIn K (.ref f)=true
section
variable{P:Program}{w:World}{K:PySem.W.Frag}{mg:Str->Option Value}{base:Heap}
theorem iK.ok{x qual:Str}{st:Stmt}{f:Addr}{fd:FuncData}{N ps:List Str}{k:Nat}{sp:Sp}(F:iK K x qual st f fd)(S:bZ N ps (bD st))(len:∀vs H Q E,sp vs H Q E->vs.length=ps.length)
  (hbody:∀(cdv:Value) (A:Around) (outer:List Env) (s:Shared) (H:Hp) (vs:List V) (Q:VK) (E:XK),gA k (A.deeper (envOfC qual (bD st) s.heap.objs.size f cdv))->sp vs H Q E ->
   ∃t,CK (rN dM P w K mg base N qual (bD st) f cdv A outer s H E).nox (hJ st) t/\t { nx:=λ_ H'=>Q .non H',rt:=Q } (start N vs) H):dP P w K mg base dM (k+1) f fd ps sp:=by
 obtain ⟨oc,od,kV,doc,pm,an,cdv,ct,osl,rfl,lk,hcd⟩:=F.ex;refine SB lk hcd S len λA outer s H vs Q E hr hsp=>?_;obtain ⟨t,h,q⟩:=hbody cdv A outer s H vs Q E hr hsp;exact ⟨t,h.nox,q⟩
theorem iK.binds{x qual:Str}{st:Stmt}{f:Addr}{fd:FuncData}{ps:List Str}(F:iK K x qual st f fd)
  (h:∀(kV doc pm:Value) (an:Option Addr) (cdv ct:Value) (us:List Value),us.length=ps.length->bindArgs (PySem.W.fnOf x qual (lI st) (hJ st) (bD st) .none kV doc pm an cdv ct) ⟨us,[]⟩=pure (ps.zip us)):nK K fd ps []:=by
 obtain ⟨oc,od,kV,doc,pm,an,cdv,ct,osl,rfl,lk,hcd⟩:=F.ex;exact .all (h kV doc pm an cdv ct)
theorem wZ{x qual:Str}{st:Stmt}{f:Addr}{oc:Value}{od an:Option Addr}{osl:Array (Option Value)}{kV doc pm cdv ct:Value}(l:K.lookup f=some ⟨oc,od,.func (PySem.W.fnOf x qual (lI st) (hJ st) (bD st) .none kV doc pm an cdv ct),osl⟩)
  (c:PySem.W.codeIn K cdv qual=true) (k:PySem.W.keepIn K (.ref f)=true):iK K x qual st f (PySem.W.fnOf x qual (lI st) (hJ st) (bD st) .none kV doc pm an cdv ct):=⟨⟨oc,od,kV,doc,pm,an,cdv,ct,osl,rfl,l,c⟩,k⟩
end
theorem pQ{n:Nat}(h:n<=1000):n<sizeLine:=bI h Dd
section
variable{X:Cx}
theorem pv(i:Nat){x:Str}{pos:Pos}(hN:X.N[i]?=some x:=by rfl)(hv:Vis X.env.scope x:=by first | exact Or.inl rfl | exact Or.inr (Or.inl rfl) | exact Or.inr (Or.inr rfl))(hd:(x == ("__debug__" : Str))=false:=by decide)
  (hcd:(x == ("__classdict__" : Str))=false:=by decide):PE X (.Name x pos) (MV i):=UR hN hv hd hcd
end
theorem fB{A B:Prop}(h:B):if false=true then A else B:=by
 rw [if_neg bQ];exact h
theorem eX{A B:Prop}(h:A):if true=true then A else B:=by
 rw [if_pos rfl];exact h
theorem ZK{c A B:Prop}[Decidable c](h1:c->A)(h2:¬c->B):if c then A else B:=by
 by_cases h:c
 ·rw [if_pos h];exact h1 h
 ·rw [if_neg h];exact h2 h
def aX(H H':Hp):Prop:=∀b o,H b=some o->H' b=some o
theorem aX.refl(H:Hp):aX H H:=λ_ _ h=>h
theorem aX.trans{H H1 H2:Hp}(a:aX H H1)(b:aX H1 H2):aX H H2:=λc o h=>b c o (a c o h)
theorem aX.free{H H':Hp}(e:aX H H'){l:Addr}(h:H' l=Option.none):H l=Option.none:=by
 cases q:H l with
 | none=>rfl
 | some o =>
  rw [e l o q] at h;cases h
section
variable{κ:Type}[DecidableEq κ]
def gS(kvs:List (κ × V))(k:κ):Option V:=(kvs.find? λkv=>decide (kv.1=k)).map (·.2)
def fL(kvs:List (κ × V))(k:κ)(v:V):List (κ × V) :=
 if (kvs.any λkv=>decide (kv.1=k))=true then kvs.map (λkv=>if kv.1=k then (kv.1,v) else kv) else kvs++[(k,v)]
theorem lQ{p:κ × V}{r:List (κ × V)}{k:κ}(e:p.1=k):gS (p::r) k=some p.2:=by simp [gS,List.find?_cons,e]
theorem lR{p:κ × V}{r:List (κ × V)}{k:κ}(e:¬p.1=k):gS (p::r) k=gS r k:=by simp [gS,List.find?_cons,e]
theorem kD(k:κ):∀kvs:List (κ × V),(kvs.any λkv=>decide (kv.1=k))=(gS kvs k).isSome
 | []=>rfl
 | p::r=>by
  rw [List.any_cons];by_cases e:p.1=k
  ·simp only [lQ e,aM e,Bool.true_or,Option.isSome_some]
  ·rw [lR e,bH e,Bool.false_or];exact kD k r
theorem gQ(kvs:List (κ × V))(k:κ)(v:V):(fL kvs k v).length<=kvs.length+1:=by
 unfold fL;split
 ·rw [aA];omega
 ·rw [aI,bF,List.length_nil];omega
theorem yL{kvs:List (κ × V)}{k:κ}(v:V)(h:gS kvs k=none):fL kvs k v=kvs++[(k,v)]:=by
 unfold fL;rw [kD,h];exact if_neg Dd
theorem uB.isSome_eq{o:Option V}{u:Option Value}(r:uB o u):o.isSome=u.isSome:=by
 cases o with
 | none=>cases u with
  | none=>rfl
  | some _=>exact (show False from r).elim
 | some _=>cases u with
  | none=>exact (show False from r).elim
  | some _=>rfl
theorem KV.val{kvs:List (κ × V)}{vs:List (κ × Value)}(r:KV kvs vs)(k:κ):uB (gS kvs k) (valueAt vs k):=by
 unfold KV at r
 induction r with
 | nil=>exact True.intro
 | @cons p q ps qs h t ih =>
  obtain ⟨h1,h2⟩:=h;by_cases e:p.1=k
  ·have e':q.1=k:=h1.symm.trans e;have b:valueAt (q::qs) k=some q.2:=by simp [valueAt,List.find?_cons,e']
   rw [lQ e,b];exact h2
  ·have e':¬q.1=k:=λz=>e (h1.trans z);have b:valueAt (q::qs) k=valueAt qs k:=by simp [valueAt,List.find?_cons,e']
   rw [lR e,b];exact ih
theorem KV.any{kvs:List (κ × V)}{vs:List (κ × Value)}(r:KV kvs vs)(k:κ):(kvs.any λkv=>decide (kv.1=k))=vs.any λkv=>decide (kv.1=k):=by
 unfold KV at r
 induction r with
 | nil=>rfl
 | cons h t ih=>rw [List.any_cons,List.any_cons,ih,h.1]
theorem KV.repl{kvs:List (κ × V)}{vs:List (κ × Value)}(r:KV kvs vs)(k:κ){y:V}{u:Value}(ry:cW y u) :
  KV (kvs.map λkv=>if kv.1=k then (kv.1,y) else kv) (vs.map λkv=>if kv.1=k then (kv.1,u) else kv):=by
 unfold KV at r ⊢
 induction r with
 | nil=>exact .nil
 | @cons p q ps qs h t ih =>
  rw [aV,aV];refine .cons ?_ ih;obtain ⟨h1,h2⟩:=h;by_cases e:p.1=k
  ·rw [if_pos e,if_pos (h1.symm.trans e)];exact ⟨h1,ry⟩
  ·rw [if_neg e,if_neg (λz=>e (h1.trans z))];exact ⟨h1,h2⟩
theorem KV.put{kvs:List (κ × V)}{vs:List (κ × Value)}(r:KV kvs vs)(k:κ){y:V}{u:Value}(ry:cW y u):KV (fL kvs k y) (stored vs k u):=by
 unfold fL stored;rw [r.any k];by_cases e:(vs.any λkv=>decide (kv.1=k))=true
 ·rw [if_pos e,if_pos e];exact r.repl k ry
 ·rw [if_neg e,if_neg e];exact Paired.snoc r ⟨rfl,ry⟩
theorem KV.length{kvs:List (κ × V)}{vs:List (κ × Value)}(r:KV kvs vs):kvs.length=vs.length:=Paired.length r
end
theorem yY{P:Program}{w:World}{k:dE}{u:Value}(r:cW (kV k) u):(dQ P w).is k u=true:=by
 cases k with
 | inl i=>obtain ⟨t,e⟩:=(show ∃t,u=Value.int i t from r);subst e;exact yR P w i t
 | inr x=>obtain ⟨t,e⟩:=(show ∃t,u=Value.str x t from r);subst e;exact yQ P w x t
theorem vD{P:Program}{w:World}:∀{ks:List dE}{us:List Value},cJ (ks.map kV) us->ItemsAre (dQ P w) ks us
 | [],_,r=>by rw [List.map_nil] at r;cases r;exact .nil
 | k::ks,_,r=>by
  rw [aV] at r;cases r with
  | cons h t=>exact .cons (yY h) (vD t)
abbrev KT(H:Hp):List (List dE × V)->List (List dE × Addr × Value)->Prop:=Paired λp q=>p.1=q.1/\H q.2.1=some (.tup (p.1.map kV))/\cW p.2 q.2.2
theorem KT.val{H:Hp}{kvs:List (List dE × V)}{xs:List (List dE × Addr × Value)}(r:KT H kvs xs)(k:List dE):uB (gS kvs k) ((atKey xs k).map (·.2)):=by
 induction r with
 | nil=>exact True.intro
 | @cons p q ps qs h t ih =>
  obtain ⟨h1,_,h2⟩:=h;by_cases e:p.1=k
  ·have e':q.1=k:=h1.symm.trans e;have b:atKey (q::qs) k=some q.2:=by simp [atKey,List.find?_cons,e']
   rw [lQ e,b];exact h2
  ·have e':¬q.1=k:=λz=>e (h1.trans z);have b:atKey (q::qs) k=atKey qs k:=by simp [atKey,List.find?_cons,e']
   rw [lR e,b];exact ih
theorem KT.repl{H:Hp}{kvs:List (List dE × V)}{xs:List (List dE × Addr × Value)}(r:KT H kvs xs)(k:List dE){y:V}{u:Value}(ry:cW y u) :
  KT H (kvs.map λkv=>if kv.1=k then (kv.1,y) else kv) (xs.map (putAt k u)):=by
 induction r with
 | nil=>exact .nil
 | @cons p q ps qs h t ih =>
  rw [aV,aV];refine .cons ?_ ih;obtain ⟨h1,h2,h3⟩:=h;unfold putAt;by_cases e:p.1=k
  ·rw [if_pos e,if_pos (h1.symm.trans e)];exact ⟨h1,h2,ry⟩
  ·rw [if_neg e,if_neg (λz=>e (h1.trans z))];exact ⟨h1,h2,h3⟩
theorem KT.put{H:Hp}{kvs:List (List dE × V)}{xs:List (List dE × Addr × Value)}(r:KT H kvs xs)(k:List dE){b:Addr}{y:V}{u:Value}(hb:H b=some (.tup (k.map kV)))(ry:cW y u) :
  KT H (fL kvs k y) (storedH xs k b u):=by
 have e:(kvs.any λkv=>decide (kv.1=k))=(atKey xs k).isSome:=by
  rw [kD,(r.val k).isSome_eq,Option.isSome_map]
 unfold fL storedH;rw [e];by_cases q:(atKey xs k).isSome=true
 ·rw [if_pos q,if_pos q];exact r.repl k ry
 ·rw [if_neg q,if_neg q];exact Paired.snoc r ⟨rfl,hb,ry⟩
theorem KT.keeps{H H':Hp}{kvs:List (List dE × V)}{xs:List (List dE × Addr × Value)}(r:KT H kvs xs)(ht:∀b ys,H b=some (.tup ys)->H' b=some (.tup ys)):KT H' kvs xs :=
 Paired.mapP r λ_ _ z=>⟨z.1,ht _ _ z.2.1,z.2.2⟩
section
variable{P:Program}{w:World}{H:Hp}{h:Heap}{a:Addr}
theorem RL{u:HO}(ok:mW P w H h)(e:Rd H a u):dL P w H h a u:=e.ok ok
theorem EM{kvs:List (dE × V)}(ok:mW P w H h)(e:Rd H a (.dK kvs)):kvs.length<=sizeLine/\(a == sysModules)=false/\∃vs,KV kvs vs/\h.DictOf (dQ P w) a vs :=
 show dL P w H h a (.dK kvs) from RL ok e
theorem SD{kvs:List (dE × V)}(ok:mW P w H h)(e:H a=some (.dK kvs)):kvs.length<=sizeLine/\(a == sysModules)=false/\∃vs,KV kvs vs/\h.DictOf (dQ P w) a vs:=EM ok (.inl e)
theorem mK{ks:List dE}(ok:mW P w H h)(e:H a=some (.tup (ks.map kV))):(tupleKind (dQ P w)).is h ks a:=by
 obtain ⟨_,its,r,o,h1,h2,n,h3⟩:=(show dL P w H h a (.tup (ks.map kV)) from ok a _ e);exact ⟨o,its.toArray,n,h1,h2,h3,by simpa using vD r⟩
theorem EL{kvs:List (List dE × V)}(ok:mW P w H h)(e:Rd H a (.dT kvs)):kvs.length<=sizeLine/\(a == sysModules)=false /\
  ∃xs,KT H kvs xs/\h.DictOfH (tupleKind (dQ P w)) a xs:=by
 obtain ⟨z,y,xs,r,o,es,ep,h1,h2,h3,h4,h5⟩:=(show dL P w H h a (.dT kvs) from RL ok e);refine ⟨z,y,xs,r,o,es,ep,h1,h2,h3,h4,λx hx=>?_,h5⟩;have all:∀{l:List (List dE × V)} {m:List (List dE × Addr × Value)},KT H l m->∀x∈m,(tupleKind (dQ P w)).is h x.1 x.2.1:=by
  intro l m q
  induction q with
  | nil=>intro x hx;exact nomatch hx
  | @cons p q ps qs hq t ih =>
   intro x hx;rcases aR.mp hx with e | hx
   ·subst e;exact mK ok (by rw [<-hq.1];exact hq.2.1)
   ·exact ih x hx
 exact all r x hx
theorem LB{kvs:List (List dE × V)}(ok:mW P w H h)(e:H a=some (.dT kvs)):kvs.length<=sizeLine/\(a == sysModules)=false /\
  ∃xs,KT H kvs xs/\h.DictOfH (tupleKind (dQ P w)) a xs:=EL ok (.inl e)
end
def kQ(H:Hp)(a:Addr)(y:V)(r:Option V):Prop :=
 (∃kvs k,Rd H a (.dK kvs)/\y=kV k/\r=gS kvs k)\/∃kvs k b,Rd H a (.dT kvs)/\y=.ref b/\H b=some (.tup (k.map kV))/\r=gS kvs k
def xP(H:Hp)(a:Addr)(y v:V)(H':Hp):Prop :=
 (∃kvs k,H a=some (.dK kvs)/\y=kV k/\kvs.length<sizeLine/\H'=upd H a (.dK (fL kvs k v))) \/
 ∃kvs k b,H a=some (.dT kvs)/\y=.ref b/\H b=some (.tup (k.map kV))/\kvs.length<sizeLine/\H'=upd H a (.dT (fL kvs k v))
theorem kQ.k{H:Hp}{a:Addr}{kvs:List (dE × V)}{k:dE}(e:H a=some (.dK kvs)):kQ H a (kV k) (gS kvs k):=.inl ⟨kvs,k,.inl e,rfl,rfl⟩
theorem kQ.t{H:Hp}{a b:Addr}{kvs:List (List dE × V)}{k:List dE}(e:H a=some (.dT kvs))(eb:H b=some (.tup (k.map kV))):kQ H a (.ref b) (gS kvs k):=.inr ⟨kvs,k,b,.inl e,rfl,eb,rfl⟩
theorem xP.k{H:Hp}{a:Addr}{kvs:List (dE × V)}{k:dE}{v:V}(e:H a=some (.dK kvs))(hl:kvs.length<sizeLine):xP H a (kV k) v (upd H a (.dK (fL kvs k v))):=.inl ⟨kvs,k,e,rfl,hl,rfl⟩
theorem xP.t{H:Hp}{a b:Addr}{kvs:List (List dE × V)}{k:List dE}{v:V}(e:H a=some (.dT kvs))(eb:H b=some (.tup (k.map kV)))(hl:kvs.length<sizeLine) :
  xP H a (.ref b) v (upd H a (.dT (fL kvs k v))):=.inr ⟨kvs,k,b,e,rfl,eb,hl,rfl⟩
section
variable{X:Cx}{pins:List (Addr × Obj)}{σ:St}{H:Hp}{s:Shared}{a:Addr}{y v:V}{u r:Value}{o:Option V}{A:Around}{E:Value->Shared->Prop}
theorem bY.big(I:bY X pins σ H s):sysModules<s.heap.objs.size:=by
 have h:mainGlobals<s.heap.objs.size:=(I.mod.glob.keeps I.bk).lt;exact Nat.lt_trans Dd h
theorem GV{Q:Value->Shared->Prop}(hu:A.units+1<cLine)(I:bY X pins σ H s)(g:kQ H a y (some v))(ry:cW y u)(h:∀w' s',bY X pins σ H s'->cW v w'->Q w' s') :
  wpAny (model X.prog X.w) A (getItem (.ref a) u) Q E s:=by
 rcases g with ⟨kvs,k,e,ey,l⟩ | ⟨kvs,k,b,e,ey,eb,l⟩
 ·subst ey;obtain ⟨z,hd,vs,rel,dd⟩:=EM I.hok e;obtain ⟨w',hw,rw'⟩:=uB.some_of (v:=v) (o:=valueAt vs k) (by rw [l];exact rel.val k);exact wpAny_getItem_of (yY ry) dd.mapOf hw (h w' _ (I.tok _) rw')
 ·subst ey;cases (show u=Value.ref b from ry);obtain ⟨z,hd,xs,rel,dd⟩:=EL I.hok e;obtain ⟨w',hw,rw'⟩:=uB.some_of (v:=v) (o:=(atKey xs k).map (·.2)) (by rw [l];exact rel.val k);obtain ⟨p,hp,hp2⟩:=dG.mp hw;refine wpAny_getItem_heap (tupleKind_room_in1 hu) (mK I.hok eb) dd hp ?_;rw [hp2];exact h w' _ (I.tok _) rw'
theorem aBn{Q:Value->Shared->Prop}(hu:A.units+1<cLine)(I:bY X pins σ H s)(g:kQ H a y o)(ry:cW y u)(h:∀s',bY X pins σ H s'->Q (.bool o.isSome) s') :
  wpAny (model X.prog X.w) A (compareOp .In u (.ref a)) Q E s:=by
 rcases g with ⟨kvs,k,e,ey,l⟩ | ⟨kvs,k,b,e,ey,eb,l⟩
 ·subst ey;obtain ⟨z,hd,vs,rel,dd⟩:=EM I.hok e;refine wpAny_in_of (yY ry) hd dd.mapOf ?_;rw [<-(rel.val k).isSome_eq,<-l];exact h _ (I.tok _)
 ·subst ey;cases (show u=Value.ref b from ry);obtain ⟨z,hd,xs,rel,dd⟩:=EL I.hok e;refine wpAny_in_heap (tupleKind_room_in1 hu) (mK I.hok eb) hd dd ?_;have q:=(rel.val k).isSome_eq;rw [Option.isSome_map] at q;rw [<-q,<-l];exact h _ (I.tok _)
theorem mT{h':Heap}{t':Nat}{ob:HO}(I:bY X pins σ H s)(mu:ZX (H a))(hs:Heap.SameBut a s.heap h')(he:∃q,h'.get? a=some q)(new:dL X.prog X.w (upd H a ob) h' a ob) :
  bY X pins σ (upd H a ob) { s with heap:=h',toks:=t' } :=
 I.write (x:=a) (e:=a) mu (.inl rfl) (λb q hb z=>(hs.2 b hb).trans z) he new
theorem LC{P:Program}{w:World}{H':Hp}{h':Heap}{kvs:List (dE × V)}{vs:List (dE × Value)}(z:kvs.length<=sizeLine)(hd:(a == sysModules)=false)(rel:KV kvs vs)(dd:h'.DictOf (dQ P w) a vs) :
  dL P w H' h' a (.dK kvs):=⟨z,hd,vs,rel,dd⟩
theorem GU{H':Hp}{Q:Unit->Shared->Prop}(hu:A.units+1<cLine)(I:bY X pins σ H s)(g:xP H a y v H')(ry:cW y u)(rv:cW v r)(h:∀s',bY X pins σ H' s'->Q () s') :
  wpAny (model X.prog X.w) A (setItem (.ref a) u r) Q E s:=by
 rcases g with ⟨kvs,k,e,ey,l,eH⟩ | ⟨kvs,k,b,e,ey,eb,l,eH⟩
 ·subst ey eH;obtain ⟨z,hd,vs,rel,dd⟩:=SD I.hok e;have hz:vs.length<=sizeLine:=by rw [<-rel.length];exact z
  have hl:(fL kvs k v).length<=sizeLine:=by have:=gQ kvs k v;omega
  refine wpAny_setItem_pairs (hsz:=hz) (yY ry) dd λh' dd' hs=>h _ ?_;have he:∃q,h'.get? a=some q:=let ⟨q,_,_,hq,_⟩:=dd';⟨q,hq⟩;exact mT I (by rw [e];exact True.intro) hs he (LC hl hd (rel.put k rv) dd')
 ·subst ey eH;cases (show u=Value.ref b from ry);obtain ⟨z,hd,xs,rel,dd⟩:=LB I.hok e;have hz:xs.length<=sizeLine:=by rw [<-Paired.length rel];exact z
  have hl:(fL kvs k v).length<=sizeLine:=by have:=gQ kvs k v;omega
  refine wpAny_setItem_heap (hsz:=hz) (tupleKind_room_in1 hu) (mK I.hok eb) dd λh' dd' hs=>h _ ?_;obtain ⟨q,es,ep,hq,h2,h3,h4,_,h5⟩:=dd';refine mT I (by rw [e];exact True.intro) hs ⟨q,hq⟩ ⟨hl,hd,_,(rel.put k eb rv).keeps λc ys ec=>?_,q,es,ep,hq,h2,h3,h4,h5⟩;rw [bU (sW ec e (λz=>nomatch z))];exact ec
end
section
variable{X:Cx}{pins:List (Addr × Obj)}{σ:St}{H:Hp}{s:Shared}{a:Addr}{kvs:List (dE × V)}{k:dE}{u:Value}{A:Around}{E:Value->Shared->Prop}
end
def XE(i:Expr):Prop:=∀ov iv,subscripted i false ov iv=operate [ov,iv] (getItem ov iv)
theorem MY{prog:Program}{w:World}{A:Around}{E:Value->Shared->Prop}{s:Shared}{env:Env}{value slice:Expr}{pos:Pos}{T id:String}{Q:Value->Shared->Prop}
  (hl:typeLookup (.type T) "__getitem__" = pure (some (.builtin id))) (hs:XE slice)
  (h:wpAny (model prog w) A (eval value env) (λo s₁=>wpAny (model prog w) A (eval slice env) (λi s₂=>s₂.TypeIs o T/\wpAny (model prog w) A (getItem o i) Q E s₂) E s₁) E s) :
  wpAny (model prog w) A (eval (.Subscript value slice pos) env) Q E s:=by
 refine Subscript_ (wpAny_mono h (λo s₁ h₁=>wpAny_mono h₁ (λi s₂ h₂=>?_) λ_ _ x=>x) λ_ _ x=>x);obtain ⟨hT,h₂⟩:=h₂;unfold subscriptTail;refine wpAny_bind ?_;rw [getitemInPython_of_ne hT.not_modules];refine wpAny_bind (wpAny_specialOf hT hl ?_);have fin:wpAny (model prog w) A (subscripted slice false o i) (λr s₃=>wpAny (model prog w) A (letTemporaryGo value o r >>= λ_=>pure r) Q E s₃) E s₂:=by
  rw [hs o i];exact wpAny_operating (wpAny_mono h₂ (λr s₃ h₃=>wpAny_bind (wpAny_letTemporaryGo (wpAny_pure h₃))) λ_ _ x=>x)
 first
  | exact wpAny_pure (wpAny_bind fin)
  | exact wpAny_bind (wpAny_pure (wpAny_bind fin))
  | exact wpAny_bind fin
theorem zJ{X:Cx}{pins:List (Addr × Obj)}{σ:St}{H:Hp}{s:Shared}{a:Addr}{y:V}{o:Option V}(I:bY X pins σ H s)(g:kQ H a y o):s.TypeIs (.ref a) "dict" := by
 rcases g with ⟨kvs,k,e,_,_⟩ | ⟨kvs,k,b,e,_,_,_⟩
 ·obtain ⟨_,_,vs,_,dd⟩:=EM I.hok e;exact dd.typeIs
 ·obtain ⟨_,_,xs,_,dd⟩:=EL I.hok e;exact dd.typeIs
def XY(td ty:TE):TE:=λσ H Q=>td σ H λx H1=>ty σ H1 λy H2=>∃a v,x=.ref a/\kQ H2 a y (some v)/\Q v H2
def YE(td ty tv:TE):TS:=λD σ H=>tv σ H λv H1=>td σ H1 λx H2=>ty σ H2 λy H3=>∃a H4,x=.ref a/\xP H3 a y v H4/\D.nx σ H4
section
variable{X:Cx}{o i e value:Expr}{pos pos' tpos:Pos}{td ty tv:TE}
theorem OP(hu:X.A.units+1<cLine)(ho:PE X o td)(hi:PE X i ty)(hs:XE i):PE X (.Subscript o i pos) (XY td ty):=by
 intro pins s σ H Q I h;refine MY PySem.F.slot_dict_getitem.lookup hs (thn (ho pins s σ H _ I h) λu s1 ⟨x,H1,I1,rx,q1⟩=>thn (hi pins s1 σ H1 _ I1 q1) λiv s2 ⟨y,H2,I2,ry,a,v,ex,g,q2⟩=>?_);subst ex;obtain rfl:u=Value.ref a:=rx;exact ⟨zJ I2 g,GV hu I2 g ry λw' s3 I3 rw'=>⟨v,H2,I3,rw',q2⟩⟩
theorem OH(hu:X.A.units+1<cLine)(ho:PE X o td)(hi:PE X i ty)(hv:PE X value tv)(hs:swapsWith value (some (.Subscript o i pos')) pos.line X.env=pure false) :
  PS X (.Assign [.Subscript o i pos'] value pos) (YE td ty tv):=by
 intro pins s σ H D I h;refine wpAny_Assign_Subscript (thn (hv pins s σ H _ I h) λr s1 ⟨v,H1,I1,rv,q1⟩=>thn (ho pins s1 σ H1 _ I1 q1) λu s2 ⟨x,H2,I2,rx,q2⟩=>thn (hi pins s2 σ H2 _ I2 q2) λiv s3 ⟨y,H3,I3,ry,a,H4,ex,g,q3⟩=>?_) hs;subst ex;obtain rfl:u=Value.ref a:=rx;exact GU hu I3 g ry rv λs4 I4=>⟨σ,H4,I4,q3⟩
end
theorem LD{P:Program}{w:World}{H:Hp}(h:Heap)(hb:sysModules<h.objs.size):dL P w H (h.push { cls:=.type "dict",data:=.dict #[] }) h.objs.size (.dK []) :=
 ⟨cB _,beq_eq_false_iff_ne.mpr (Ne.symm (bT hb)),[],.nil,Heap.DictOf.new h⟩
theorem pF{P:Program}{w:World}{H:Hp}(h:Heap)(hb:sysModules<h.objs.size):dL P w H (h.push { cls:=.type "dict",data:=.dict #[] }) h.objs.size (.dT []) :=
 ⟨cB _,beq_eq_false_iff_ne.mpr (Ne.symm (bT hb)),[],.nil,_,#[],0,bB _ rfl,⟨rfl,rfl,rfl⟩,rfl,rfl,List.nodup_nil⟩
def IM:TE:=λ_ H Q=>∀p,H p=none->Q (.ref p) (upd H p (.dT []))
section
variable{X:Cx}{pos:Pos}
theorem pe_dnewT:PE X (.Dict [] [] pos) IM:=λpins s σ H Q I h =>
 wpAny_Dict_empty ⟨.ref s.heap.objs.size,_,I.laid (a:=s.heap.objs.size) (o:=.dT []) (t':=s.toks) (λ_ _ q=>aB _ q) (aK _) (pF s.heap I.big),rfl,h _ (I.hok.fresh (aK _))⟩
end
def AL:List (TE × TE)->St->Hp->(List (V × V)->Hp->Prop)->Prop
 | [],_,H,Q=>Q [] H
 | (tk,tv)::r,σ,H,Q=>tk σ H λx H1=>tv σ H1 λy H2=>AL r σ H2 λps H3=>Q ((x,y)::ps) H3
abbrev VV:List (V × V)->List (Value × Value)->Prop:=Paired λp q=>cW p.1 q.1/\cW p.2 q.2
def ZV(X:Cx)(pos:Pos)(keys:List (Option Expr))(values:List Expr)(trs:List (TE × TE)):Prop :=
 ∀(pins:List (Addr × Obj)) (s:Shared) (σ:St) (H:Hp) (Q:List (V × V)->Hp->Prop),bY X pins σ H s->AL trs σ H Q ->
  wpAny (model X.prog X.w) X.A (evalPairs (pairTrees keys values X.env pos)) (λvs s'=>∃ps H',bY X pins σ H' s'/\VV ps vs/\Q ps H') X.xe s
theorem pps_nil{X:Cx}{pos:Pos}:ZV X pos [] [] []:=λpins s σ H Q I h=>pairTrees_nil_walk ⟨[],H,I,.nil,h⟩
theorem JQ{X:Cx}{pos:Pos}{k v:Expr}{ks:List (Option Expr)}{vs:List Expr}{tk tv:TE}{trs:List (TE × TE)}(hk:PE X k tk)(hv:PE X v tv)(hr:ZV X pos ks vs trs) :
  ZV X pos (some k::ks) (v::vs) ((tk,tv)::trs):=λpins s σ H Q I h =>
 pairTrees_cons_walk (thn (hk pins s σ H _ I h) λu s1 ⟨x,H1,I1,rx,q1⟩=>thn (hv pins s1 σ H1 _ I1 q1) λw2 s2 ⟨y,H2,I2,ry,q2⟩ =>
  thn (hr pins s2 σ H2 _ I2 q2) λws s3 ⟨ps,H3,I3,rel,q3⟩=>⟨(x,y)::ps,H3,I3,.cons ⟨rx,ry⟩ rel,q3⟩)
def sX(kvs more:List (dE × V)):List (dE × V):=more.foldl (λacc kv=>fL acc kv.1 kv.2) kvs
theorem KV.merge:∀{more:List (dE × V)}{rs:List (dE × Value)}{kvs:List (dE × V)}{vs:List (dE × Value)},KV more rs->KV kvs vs->KV (sX kvs more) (merged vs rs):=by
 intro more rs kvs vs r;unfold KV at r
 induction r generalizing kvs vs with
 | nil=>intro q;exact q
 | @cons p q ps qs h t ih =>
  intro r0;have e:KV (fL kvs p.1 p.2) (stored vs q.1 q.2):=by
   have:=r0.put p.1 h.2;rw [<-h.1];exact this
  exact ih e
theorem nB:∀(more kvs:List (dE × V)),(sX kvs more).length<=kvs.length+more.length
 | [],kvs=>by show kvs.length<=kvs.length+0;omega
 | p::r,kvs=>by
  have h1:=nB r (fL kvs p.1 p.2);have h2:=gQ kvs p.1 p.2;show (sX (fL kvs p.1 p.2) r).length<=_;rw [bF];omega
theorem tZ{P:Program}{w:World}:∀{kvs:List (dE × V)}{ws:List (Value × Value)},VV (kvs.map λkv=>(kV kv.1,kv.2)) ws->∃rs,Carries (dQ P w) ws rs/\KV kvs rs
 | [],_,r=>by rw [List.map_nil] at r;cases r;exact ⟨[],True.intro,.nil⟩
 | p::kvs,_,r=>by
  rw [aV] at r;cases r with
  | @cons a b as bs h t =>
   obtain ⟨rs,c,q⟩:=tZ (P:=P) (w:=w) t;obtain ⟨b1,b2⟩:=b;exact ⟨(p.1,b2)::rs,⟨yY h.1,rfl,c⟩,.cons ⟨rfl,h.2⟩ q⟩
def RE(trs:List (TE × TE)):TE:=λσ H Q=>∀p,H p=none->AL trs σ (upd H p (.dK [])) λps H2=>H2 p=some (.dK [])/\∃kvs:List (dE × V),ps=kvs.map (λkv=>(kV kv.1,kv.2))/\kvs.length<=15/\Q (.ref p) (upd H2 p (.dK (sX [] kvs)))
theorem OO{X:Cx}{pos:Pos}{keys:List (Option Expr)}{values:List Expr}{trs:List (TE × TE)}(h:ZV X pos keys values trs)(hall:keys.all (·.isSome)=true)(hl:keys.length=values.length)(h0:keys≠[])
  (h15:keys.length<=15):PE X (.Dict keys values pos) (RE trs):=by
 intro pins s σ H Q I q;have hn:=I.hok.fresh (aK s.heap.objs.size);have I1:=I.laid (a:=s.heap.objs.size) (o:=.dK []) (h':=s.heap.push { cls:=.type "dict",data:=.dict #[] }) (t':=s.toks) (λ_ _ q=>aB _ q) (aK _) (LD s.heap I.big);refine wpAny_Dict_walk (knd:=dQ X.prog X.w) hall hl h0 h15 (thn (h pins _ σ _ _ I1 (q _ hn)) λws s2 ⟨ps,H2,I2,rel,e,kvs,ep,lk,q2⟩=>?_);subst ep;obtain ⟨rs,c,rk⟩:=tZ (P:=X.prog) (w:=X.w) rel;obtain ⟨z,hd,vs0,r0,dd⟩:=SD I2.hok e;cases r0;refine ⟨rs,c,dd,λh' dd' hs=>⟨.ref s.heap.objs.size,_,?_,rfl,q2⟩⟩;have hz:(sX [] kvs).length<=sizeLine:=by
  have h1:=nB kvs [];rw [List.length_nil] at h1;rw [sizeLine_eq];omega
 have he:∃q,h'.get? s.heap.objs.size=some q:=let ⟨q,_,_,hq,_⟩:=dd';⟨q,hq⟩;exact mT I2 (by rw [e];exact True.intro) hs he (LC hz hd (rk.merge .nil) dd')
section
variable{X:Cx}{pins:List (Addr × Obj)}{σ:St}{H:Hp}{s:Shared}{a:Addr}{y d:V}{u r:Value}{o:Option V}{A:Around}{E:Value->Shared->Prop}
end
section
variable{X:Cx}{o e f:Expr}{apos cpos:Pos}{td ty tx:TE}
end
section
variable{X:Cx}{pins:List (Addr × Obj)}{σ:St}{H:Hp}{s:Shared}{a:Addr}{kvs:List (dE × V)}{A:Around}{E:Value->Shared->Prop}
end
section
variable{X:Cx}{pins:List (Addr × Obj)}{σ:St}{H:Hp}{s:Shared}{a:Addr}{y:V}{u:Value}{A:Around}{E:Value->Shared->Prop}
end
section
variable{κ:Type}[DecidableEq κ]
theorem IK{kvs:List (κ × V)}{k:κ}(h:gS kvs k=none):¬k∈kvs.map (·.1):=by
 intro m;obtain ⟨p,hp,e⟩:=aU.mp m;have q:(kvs.any λkv=>decide (kv.1=k))=true:=List.any_eq_true.mpr ⟨p,hp,aM e⟩;rw [kD,h] at q;exact absurd q (by simp)
theorem CS{kvs:List (κ × V)}{k:κ}{v:V}(h:gS kvs k=some v):k∈kvs.map (·.1):=by
 have q:(kvs.any λkv=>decide (kv.1=k))=true:=by
  rw [kD,h]
  all_goals rfl
 obtain ⟨p,hp,e⟩:=List.any_eq_true.mp q;exact aU.mpr ⟨p,hp,of_decide_eq_true e⟩
end
abbrev bits(i:Int):Nat:=Builtin.Int.intBits i
def MF(i j:Int):Prop:=0<j/\bits j<=9000
theorem qZ{j:Int}{n:Nat}(h:bits j<=n)(hn:0<n):j.natAbs.log2<n:=by
 unfold bits Builtin.Int.intBits at h;by_cases hj:(j == 0)=true
 ·have:j=0:=by simpa using hj
  subst this;exact bI (by decide +kernel:(0:Int).natAbs.log2<=0) hn
 ·rw [if_neg hj] at h;omega
section
variable{X:Cx}
theorem gE:lN X (binaryOp .FloorDiv) (rI MF λi j=>.int (i/j)):=opI λi j _ _ _ _ _ hc q=>by
 refine floordiv_int (by have:=hc.1;omega) ?_ (.inl (PyProof.noPylong_of_log2 (qZ hc.2 Dd)));rw [Int.fdiv_eq_ediv_of_nonneg i (by have:=hc.1;omega)];exact q
theorem gX:lN X (binaryOp .Mult) (rI IntMulOk λi j=>.int (i*j)):=opI λ_ _ _ _ _ _ _ hc q=>mul_int q hc
end
mutual
def bR(H:Hp):PyData->V->Prop
 | .none,v=>v=.non
 | .bool b,v=>v=.bl b
 | .int i,v=>v=.int i
 | .str x,v=>v=.str x
 | .list ds,v=>∃a xs,v=.ref a/\H a=some (.lst xs)/\aL H ds xs
 | .tuple ds,v=>∃a xs,v=.ref a/\H a=some (.tup xs)/\aL H ds xs
 | .dict kvs,v=>kvs=[]/\∃a,v=.ref a/\H a=some (.dK [])
def aL(H:Hp):List PyData->List V->Prop
 | [],vs=>vs=[]
 | d::ds,vs=>∃x xs,vs=x::xs/\bR H d x/\aL H ds xs
end
mutual
theorem bR.same{H H':Hp}(e:aX H H'):∀{d:PyData}{v:V},bR H d v->bR H' d v
 | .none,_,h=>h
 | .bool _,_,h=>h
 | .int _,_,h=>h
 | .str _,_,h=>h
 | .list ds,_,h=>by
  unfold bR at h ⊢;obtain ⟨a,xs,rfl,h1,h2⟩:=h;exact ⟨a,xs,rfl,e _ _ h1,aL.same e h2⟩
 | .tuple ds,_,h=>by
  unfold bR at h ⊢;obtain ⟨a,xs,rfl,h1,h2⟩:=h;exact ⟨a,xs,rfl,e _ _ h1,aL.same e h2⟩
 | .dict kvs,_,h=>by
  unfold bR at h ⊢;obtain ⟨h0,a,rfl,h1⟩:=h;exact ⟨h0,a,rfl,e _ _ h1⟩
theorem aL.same{H H':Hp}(e:aX H H'):∀{ds:List PyData}{vs:List V},aL H ds vs->aL H' ds vs
 | [],_,h=>h
 | d::ds,_,h=>by
  unfold aL at h ⊢;obtain ⟨x,xs,rfl,h1,h2⟩:=h;exact ⟨x,xs,rfl,bR.same e h1,aL.same e h2⟩
end
theorem bR.tup{H:Hp}{a:Addr}{xs:List V}{ds:List PyData}(h:H a=some (.tup xs))(r:aL H ds xs):bR H (.tuple ds) (.ref a):=by
 unfold bR;exact ⟨a,xs,rfl,h,r⟩
theorem bR.lst{H:Hp}{a:Addr}{xs:List V}{ds:List PyData}(h:H a=some (.lst xs))(r:aL H ds xs):bR H (.list ds) (.ref a):=by
 unfold bR;exact ⟨a,xs,rfl,h,r⟩
theorem bR.int{H:Hp}(i:Int):bR H (.int i) (.int i):=by unfold bR;rfl
theorem bR.bl{H:Hp}(i:Bool):bR H (.bool i) (.bl i):=by unfold bR;rfl
theorem bR.str{H:Hp}(i:Str):bR H (.str i) (.str i):=by unfold bR;rfl
theorem bR.non{H:Hp}:bR H .none .non:=by unfold bR;rfl
theorem aL.nil{H:Hp}:aL H [] []:=by unfold aL;rfl
theorem aL.cons{H:Hp}{d:PyData}{ds:List PyData}{x:V}{xs:List V}(h:bR H d x)(hs:aL H ds xs):aL H (d::ds) (x::xs):=by
 unfold aL;exact ⟨x,xs,rfl,h,hs⟩
section
variable{X:Cx}{pins:List (Addr × Obj)}{σ:St}{H:Hp}{s:Shared}
mutual
theorem bR.reads(I:bY X pins σ H s):∀{d:PyData}{v:V}{u:Value},bR H d v->cW v u->∃as,Reads s.heap u d as
 | .none,_,u,h,r=>by
  cases (show _=V.non from h);cases (show u=Value.none from r);exact ⟨_,.none⟩
 | .bool b,_,u,h,r=>by
  cases (show _=V.bl b from h);cases (show u=Value.bool b from r);exact ⟨_,.bool b⟩
 | .int b,_,u,h,r=>by
  cases (show _=V.int b from h);obtain ⟨t,q⟩:=(show ∃t,u=Value.int b t from r);cases q;exact ⟨_,.int b t⟩
 | .str b,_,u,h,r=>by
  cases (show _=V.str b from h);obtain ⟨t,q⟩:=(show ∃t,u=Value.str b t from r);cases q;exact ⟨_,.str b t⟩
 | .list ds,v,u,h,r=>by
  unfold bR at h;obtain ⟨a,xs,rfl,h1,h2⟩:=h;cases (show u=Value.ref a from r);obtain ⟨_,its,n,r',e⟩:=(show dL X.prog X.w H s.heap a (.lst xs) from I.hok a _ h1);obtain ⟨as,q⟩:=aL.reads I h2 r';exact ⟨_,.list e rfl rfl (by simpa using q)⟩
 | .tuple ds,v,u,h,r=>by
  unfold bR at h;obtain ⟨a,xs,rfl,h1,h2⟩:=h;cases (show u=Value.ref a from r);obtain ⟨_,its,r',o,e,hc,n,hd⟩:=(show dL X.prog X.w H s.heap a (.tup xs) from I.hok a _ h1);obtain ⟨as,q⟩:=aL.reads I h2 r';exact ⟨_,.tuple e hc hd (by simpa using q)⟩
 | .dict kvs,v,u,h,r=>by
  unfold bR at h;obtain ⟨rfl,a,rfl,h1⟩:=h;cases (show u=Value.ref a from r);obtain ⟨_,_,vs,kv,o,es,ep,e,hx,hd,_,hes,_⟩:=(show dL X.prog X.w H s.heap a (.dK []) from I.hok a _ h1);cases kv;have he:es.toList=[]:=by
   cases q:es.toList with
   | nil=>rfl
   | cons y ys=>rw [q] at hes;cases hes
  exact ⟨_,.dict e hx.1 hd (by rw [he];exact .nil) (by rw [he];exact .nil)⟩
theorem aL.reads(I:bY X pins σ H s):∀{ds:List PyData}{vs:List V}{us:List Value},aL H ds vs->cJ vs us->∃as,ReadsAll s.heap us ds as
 | [],_,us,h,r=>by
  cases (show _=[] from h);cases r;exact ⟨_,.nil⟩
 | d::ds,_,us,h,r=>by
  unfold aL at h;obtain ⟨x,xs,rfl,h1,h2⟩:=h;cases r with
  | cons r1 r2 =>
   obtain ⟨as,q1⟩:=bR.reads I h1 r1;obtain ⟨bs,q2⟩:=aL.reads I h2 r2;exact ⟨_,.cons q1 q2⟩
end
end
section
variable{X:Cx}
theorem HF(hg:X.A.guards=some [])(hu:X.A.units+64<cLine):eW X (.builtin "repr") (λxs H Q=>∃x d,xs=[x]/\bR H d x/\d.showable=true/\d.hasDict=false/\d.depth<=60/\d.shown.length<=sizeLine/\Q (.str d.shown) H):=by
 intro pins s σ H xs us Q I r h;obtain ⟨x,d,rfl,hr,hs,hnd,hdp,hz,q⟩:=h;obtain ⟨u,rfl,ru⟩:=iG r;obtain ⟨as,rd⟩:=hr.reads I ru;cases rd with
 | none=>exact PySem.P.repr_of_none ⟨.str _,H,I.tok _,⟨_,rfl⟩,q⟩
 | bool b=>exact PySem.P.repr_of_bool ⟨.str _,H,I.tok _,⟨_,rfl⟩,q⟩
 | int i t=>exact PySem.P.repr_of_int (by simpa [PyData.showable] using hs) ⟨.str _,H,I.tok _,⟨_,rfl⟩,q⟩
 | str y t=>exact PySem.P.repr_of_str ⟨.str _,H,I.tok _,⟨_,rfl⟩,q⟩ hz
 | list a1 a2 a3 a4=>exact repr_of_reads' (.list a1 a2 a3 a4) hs (PyData.noDict_hsm hnd) hg Oo (λ_ _ e=>e) (λh' u tk hk=>⟨.str _,H,I.kept hk,⟨_,rfl⟩,q⟩) hz
 | tuple a1 a2 a3 a4=>exact repr_of_reads' (.tuple a1 a2 a3 a4) hs (PyData.noDict_hsm hnd) hg Oo (λ_ _ e=>e) (λh' u tk hk=>⟨.str _,H,I.kept hk,⟨_,rfl⟩,q⟩) hz
 | dict a1 a2 a3 a4 a5=>simp [PyData.hasDict] at hnd
end
def MG:PyData->String
 | .none => "NoneType"
 | .bool _ => "bool"
 | .int _ => "int"
 | .str _ => "str"
 | .list _ => "list"
 | .tuple _ => "tuple"
 | .dict _ => "dict"
theorem bR.ty{K:PySem.W.Frag}{H:Hp}{d:PyData}{v:V}(h:bR H d v):nY K H v (.type (MG d)):=by
 cases d with
 | none=>cases (show v=V.non from h);exact .non
 | bool b=>cases (show v=V.bl b from h);exact .bl b
 | int b=>cases (show v=V.int b from h);exact .int b
 | str b=>cases (show v=V.str b from h);exact .str b
 | list ds=>unfold bR at h;obtain ⟨a,xs,rfl,h1,h2⟩:=h;exact .lst h1
 | tuple ds=>unfold bR at h;obtain ⟨a,xs,rfl,h1,h2⟩:=h;exact .tup h1
 | dict ds=>unfold bR at h;obtain ⟨_,a,rfl,h1⟩:=h;exact .dK h1
def HX(T:String)(d:PyData):Bool:=MG d == T || (T == "int" && MG d == "bool")
theorem VR : ∀ T ∈ ["int", "bool", "tuple", "str", "list", "dict"], ∀ S ∈ ["NoneType", "bool", "int", "str", "list", "tuple", "dict"],
      PySem.W.kitOne [] (.type S) (.type T)=some (S == T || (T == "int" && S == "bool")):=Kk
theorem PN(K:PySem.W.Frag)(S T:String):PySem.W.kitOne K (.type S) (.type T)=PySem.W.kitOne [] (.type S) (.type T):=rfl
theorem DW(K:PySem.W.Frag)(d:PyData)(T:String)(hT:T = "int" \/ T = "bool" \/ T = "tuple" \/ T = "str" \/ T = "list" \/ T = "dict"):PySem.W.kitOne K (.type (MG d)) (.type T)=some (HX T d):=by
 rw [PN];refine VR T ?_ (MG d) ?_
 ·rcases hT with rfl | rfl | rfl | rfl | rfl | rfl <;> decide
 ·cases d <;> simp [MG]
section
variable{X:Cx}
theorem zS:eW X (.builtin "isinstance") (λxs H Q=>∃x d T,xs=[x,.ty T]/\bR H d x/\(T = "int" \/ T = "bool" \/ T = "tuple" \/ T = "str" \/ T = "list" \/ T = "dict")/\Q (.bl (HX T d)) H):=by
 intro pins s σ H xs us Q I r h;obtain ⟨x,d,T,rfl,hr,hT,q⟩:=h;obtain ⟨u,w',rfl,r1,r2⟩:=uP r;cases (show w'=Value.type T from r2);exact qC I r1 hr.ty (DW _ d T hT) λtk=>⟨.bl _,H,I.tok _,rfl,q⟩
end
structure hU(CX:IB)(P:Program)(w:World)(K:PySem.W.Frag)(mg:Str->Option Value)(base:Heap)(k:Nat)(x:Str)(ps:List Str)(sp:Sp):Prop where
 ex:∃(f:Addr) (fd:FuncData),dP P w K mg base CX k f fd ps sp/\mg x=some (.ref f)/\PySem.W.keepIn K (.ref f)=true/\nK K fd ps []
section
variable{X:Cx}{k:Nat}{ps:List Str}{sp:Sp}{x:Str}{p pos:Pos}{e:Expr}{es:List Expr}{t:TA}
theorem YZ(F:hU dM X.prog X.w X.K X.mg X.base k x ps sp)(hr:gA k X.A)(ha:PA X (e::es) t)(hg:Gl X x:=by rfl)
  (hdb:(x == ("__debug__" : Str))=false:=by decide) (he:starEach (e::es) X.env=(false,eval e X.env)::starEach es X.env:=by rfl) (hpl:(backTo pos (starEach es X.env)).any (·.1)=false:=by rfl) :
  PE X (.Call (.Name x p) (e::es) [] pos) (IR sp [] E0 t):=by
 obtain ⟨f,fd,h1,h2,h3,h4⟩:=F.ex;exact OS h1 hr hg h2 h3 h4 .nil ZB ha hdb he hpl
end
section
variable{K:PySem.W.Frag}{H:Hp}{p:Addr}{xs:List V}{i:Int}{v:V}{Q:VK}
theorem xR(h:H p=some (.lst xs))(e:AC xs i=some v)(q:Q v H):YR K (.ref p) (.int i) H Q:=.inl ⟨p,xs,i,v,rfl,rfl,gG.of h,e,q⟩
theorem xQ(h:H p=some (.tup xs))(e:AC xs i=some v)(q:Q v H):YR K (.ref p) (.int i) H Q:=.inr (.inl ⟨p,xs,i,v,rfl,rfl,eI.of h,e,q⟩)
theorem stL{u:V}{Q:Hp->Prop}{j:Nat}(h:H p=some (.lst xs))(e:KO xs.length i=some j)(q:Q (upd H p (.lst (xs.set j u)))):JK (.ref p) (.int i) u H Q:=⟨p,xs,i,j,rfl,rfl,h,e,q⟩
end
def eN(p:Addr)(H:Hp):Hp:=λb=>if b=p then none else H b
theorem eN.at{p b:Addr}{H:Hp}(h:b≠p):eN p H b=H b:=by unfold eN;rw [if_neg h]
theorem eN.self{p:Addr}{H:Hp}:eN p H p=none:=by unfold eN;rw [if_pos rfl]
theorem eN.same{p:Addr}{H:Hp}:aX (eN p H) H:=λb o h=>by
 unfold eN at h;by_cases e:b=p
 ·rw [if_pos e] at h;cases h
 ·rw [if_neg e] at h;exact h
theorem eN.ne{p b:Addr}{H:Hp}{o:HO}(h:eN p H b=some o):b≠p:=λe=>by
 subst e;rw [eN.self] at h;cases h
theorem eN.of{p b:Addr}{H:Hp}{o:HO}(n:b≠p)(h:H b=some o):eN p H b=some o:=by rw [eN.at n];exact h
theorem eN.upd_self{p:Addr}{H:Hp}{o:HO}:eN p (upd H p o)=eN p H:=by
 funext b
 by_cases e:b=p
 ·subst e;rw [eN.self,eN.self]
 ·rw [eN.at e,eN.at e,L2.bU e]
abbrev aT(p:Addr)(H H':Hp):Prop:=aX (eN p H) (eN p H')
theorem aX.but{p:Addr}{H H':Hp}(h:aX H H'):aT p H H':=λb o e=>by
 have n:=eN.ne e;exact eN.of n (h _ _ (eN.same _ _ e))
theorem aX.upd{H:Hp}{q:Addr}{o:HO}(h:H q=none):aX H (upd H q o):=λb u e=>by
 rw [L2.bU (fA e h)];exact e
theorem aT.self{p:Addr}{H:Hp}{o:HO}:aT p H (upd H p o):=by unfold aT;rw [eN.upd_self];exact aX.refl _
theorem aT.free{p q:Addr}{H H':Hp}(e:aT p H H')(hp:∃o,H' p=some o)(h:H' q=none):H q=none:=by
 cases k:H q with
 | none=>rfl
 | some o =>
  by_cases n:q=p
  ·subst n;obtain ⟨o',h'⟩:=hp;rw [h'] at h;cases h
  ·have:=eN.same _ _ (e q o (eN.of n k));rw [this] at h;cases h
section
variable{K:PySem.W.Frag}{H:Hp}{p:Addr}{xs:List V}{i:Int}{v:V}{Q:VK}
theorem stG{u:V}{Q:Hp->Prop}{j:Nat}(h:H p=some (.lst xs))(e:KO xs.length i=some j)(k:∀H',H' p=some (.lst (xs.set j u))->aT p H H'->Q H'):JK (.ref p) (.int i) u H Q :=
 stL h e (k _ bL aT.self)
theorem alT{Q:V->Hp->Prop}(hz:xs.length<=sizeLine)(k:∀q H',H q=none->H' q=some (.tup xs)->aX H H'->Q (.ref q) H'):xs.length<=sizeLine/\∀p,H p=none->Q (.ref p) (upd H p (.tup xs)) :=
 ⟨hz,λq hq=>k q _ hq bL (aX.upd hq)⟩
theorem alL{Q:V->Hp->Prop}(hz:xs.length<=sizeLine)(k:∀q H',H q=none->H' q=some (.lst xs)->aX H H'->Q (.ref q) H'):xs.length<=sizeLine/\∀p,H p=none->Q (.ref p) (upd H p (.lst xs)) :=
 ⟨hz,λq hq=>k q _ hq bL (aX.upd hq)⟩
theorem aT.at{p b:Addr}{H H':Hp}{o:HO}(s:aT p H H')(n:b≠p)(h:H b=some o):H' b=some o:=eN.same _ _ (s _ _ (eN.of n h))
end
theorem oR{n:Nat}(h:n<=64):n<=sizeLine:=bC h Dd
theorem lP{c A B:Prop}[Decidable c](h1:c->A)(h2:¬c->B):if decide c=true then A else B :=
 ZK (λh=>h1 (of_decide_eq_true h)) (λh=>h2 (λk=>h (aM k)))
theorem RU{c A B:Prop}[Decidable c](h1:¬c->A)(h2:c->B):if (!decide c)=true then A else B :=
 ZK (λh=>h1 (λk=>by rw [aM k] at h;exact absurd h Dd)) (λh=>h2 (Decidable.of_not_not λk=>h (by rw [bH k];rfl)))
def oF(c:TT):TT:=λσ H Q=>∃Q':Bool->Hp->Prop,c σ H Q'/\∀b H1,Q' b H1->Q b H1
theorem PT.mono{X:Cx}{e:Expr}{c:TT}(h:PT X e c):PT X e (oF c):=λpins s σ H Q I ⟨Q',h1,h2⟩ =>
 thn (h pins s σ H Q' I h1) λb s' ⟨H',I',q⟩=>⟨H',I',h2 _ _ q⟩
theorem GD{X:Cx}{pos:Pos}{c:Expr}{body:List Stmt}{tc:TT}{tb:TS}(hp:PassesOwn (model X.prog X.w) X.A X.env X.xe)(hc:PT X c tc)(hb:CK X body tb):PS X (.While c body [] pos) (vZ (oF tc) tb) :=
 JP hp hc.mono hb
@[irreducible] def uI(K:PySem.W.Frag):List V->Hp->VK->Prop:=λxs H Q=>∃x n,xs=[x]/\aAa K x H n/\Q (.int n) H
@[irreducible] def OB:List V->Hp->VK->Prop:=λxs H Q=>∃i,xs=[.int i]/\Q (.int (i.natAbs:Int)) H
@[irreducible] def BF:List V->Hp->VK->Prop:=λxs H Q=>∃x d T,xs=[x,.ty T]/\bR H d x/\(T = "int" \/ T = "bool" \/ T = "tuple" \/ T = "str" \/ T = "list" \/ T = "dict")/\Q (.bl (HX T d)) H
section
variable{X:Cx}{K:PySem.W.Frag}{H:Hp}{p:Addr}{xs:List V}{Q:VK}
theorem fS:eW X (.builtin "len") (uI X.K):=by unfold uI;exact LP
theorem WK:eW X (.builtin "abs") OB:=by
 unfold OB;exact λpins s σ H xs us Q I r ⟨i,e,q⟩=>LQ pins s σ H xs us Q I r ⟨i,e,by
 have:(if i<0 then -i else i)=(i.natAbs:Int):=by split <;> omega
 rw [this];exact q⟩
theorem qP:eW X (.builtin "isinstance") BF:=by unfold BF;exact zS
theorem rlL(h:H p=some (.lst xs))(q:Q (.int xs.length) H):uI K [V.ref p] H Q:=by unfold uI;exact ⟨_,_,rfl,.inl ⟨xs,gG.of h,rfl⟩,q⟩
theorem NP(h:H p=some (.tup xs))(q:Q (.int xs.length) H):uI K [V.ref p] H Q:=by unfold uI;exact ⟨_,_,rfl,.inr ⟨xs,eI.of h,rfl⟩,q⟩
theorem raI{i:Int}(q:Q (.int (i.natAbs:Int)) H):OB [V.int i] H Q:=by unfold OB;exact ⟨i,rfl,q⟩
theorem riI{x:V}{d:PyData}{T:String}(r:bR H d x)(q:Q (.bl (HX T d)) H)(hT:(T = "int" \/ T = "bool" \/ T = "tuple" \/ T = "str" \/ T = "list" \/ T = "dict"):=by decide):BF [x,.ty T] H Q:=by unfold BF;exact ⟨x,d,T,rfl,r,hT,q⟩
end
theorem rV{c:TT}{tb:TS}{D:rR}{σ:St}{H:Hp}(W:Nat->St->Hp->Prop)(R:St->Hp->Prop)(m:Nat)(h0:W m σ H)
  (hs:∀m σ H,W m σ H->c σ H λb H1=>if b=true then tb { D with nx:=λσ' H'=>∃m',m' < m/\W m' σ' H',ct:=λσ' H'=>∃m',m' < m/\W m' σ' H',bk:=D.nx } σ H1 else R σ H1)
  (hd:∀σ H,R σ H->D.nx σ H):vZ (oF c) tb D σ H :=
 ⟨W,⟨m,h0⟩,λm σ H hw=>⟨_,hs m σ H hw,λb H1 q=>by
  by_cases hb:b=true
  ·rw [if_pos hb] at q ⊢;exact ⟨_,λ_ _ h=>h,q⟩
  ·rw [if_neg hb] at q ⊢;exact hd _ _ q⟩⟩
def XZ(t:TS):TS:=λD σ H=>∃R:St->Hp->Prop,(∀σ' H',R σ' H'->D.nx σ' H')/\t { D with nx:=R } σ H
theorem UM{X:Cx}{st:Stmt}{t:TS}(h:PS X st t):PS X st (XZ t):=λpins s σ H D I ⟨R,hR,q⟩ =>
 thn (h pins s σ H _ I q) λf s' z=>by
  cases f with
  | next=>obtain ⟨σ',H',I',r⟩:=z;exact ⟨σ',H',I',hR _ _ r⟩
  | brk=>exact z
  | cont=>exact z
  | ret u=>exact z
section
variable{es:List Expr}{env:Env}
theorem fP{a b c d}:starEach (.BinOp a b c d::es) env=(false,eval (.BinOp a b c d) env)::starEach es env:=by rw [starEach] <;> (intros;contradiction)
theorem eF{a b c}:starEach (.UnaryOp a b c::es) env=(false,eval (.UnaryOp a b c) env)::starEach es env:=by rw [starEach] <;> (intros;contradiction)
theorem dY{a b c d}:starEach (.ListComp a b c d::es) env=(false,eval (.ListComp a b c d) env)::starEach es env:=by rw [starEach] <;> (intros;contradiction)
theorem eG{a b c d}:starEach (.Compare a b c d::es) env=(false,eval (.Compare a b c d) env)::starEach es env:=by rw [starEach] <;> (intros;contradiction)
theorem gJ{a b c d}:starEach (.Call a b c d::es) env=(false,eval (.Call a b c d) env)::starEach es env:=by rw [starEach] <;> (intros;contradiction)
theorem dZ{a b c}:starEach (.Constant a b c::es) env=(false,eval (.Constant a b c) env)::starEach es env:=by rw [starEach] <;> (intros;contradiction)
theorem cZ{a b c}:starEach (.Subscript a b c::es) env=(false,eval (.Subscript a b c) env)::starEach es env:=by rw [starEach] <;> (intros;contradiction)
theorem gI{a b}:starEach (.Name a b::es) env=(false,eval (.Name a b) env)::starEach es env:=by rw [starEach] <;> (intros;contradiction)
theorem gW{a b}:starEach (.List a b::es) env=(false,eval (.List a b) env)::starEach es env:=by rw [starEach] <;> (intros;contradiction)
theorem fO{a b c}:starEach (.Tuple a b c::es) env=(false,eval (.Tuple a b c) env)::starEach es env:=by rw [starEach] <;> (intros;contradiction)
end
section
variable{X:Cx}{k:Nat}{ps:List Str}{sp:Sp}{x:Str}{p pos:Pos}{e:Expr}{es:List Expr}{te:TE}{t:TA}{id T:String}{r:List V->Hp->VK->Prop}
theorem xL{env:Env}:(backTo pos (starEach [] env)).any (·.1)=false:=rfl
theorem sG{env:Env}(hs:starEach (e::es) env=(false,eval e env)::starEach es env)(h:(backTo pos (starEach es env)).any (·.1)=false):(backTo pos (starEach (e::es) env)).any (·.1)=false:=by
 rw [hs];show (false || (backTo pos (starEach es env)).any (·.1))=false;rw [h];rfl
end
structure fI(X:Cx)(e:Expr)(t:TE):Prop where p:PE X e t
structure FD(X:Cx)(e:Expr)(t:TT):Prop where p:PT X e t
structure WX(X:Cx)(e:Expr)(t:TT):Prop where p:PW X e t
structure HZ(X:Cx)(es:List Expr)(t:TA):Prop where p:PA X es t
structure HQ(X:Cx)(st:Stmt)(t:TS):Prop where p:PS X st t
structure uC(X:Cx)(st:List Stmt)(t:TS):Prop where p:CK X st t
structure SI(X:Cx)(e:Expr)(t:TG):Prop where p:PG X e t
structure QS(X:Cx)(es:List Expr)(t:LZ):Prop where p:ZW X es t
structure WZ(X:Cx)(tg iter:Expr)(t:TI):Prop where p:PI X tg iter t
structure POw(X:Cx)(e:Option Expr)(t:TO):Prop where p:PO X e t
@[irreducible] def DH(xs:List V)(H:Hp)(Q:VK):Prop:=xs.length<=sizeLine/\∀p,H p=none->Q (.ref p) (upd H p (.tup xs))
@[irreducible] def DI(xs:List V)(H:Hp)(Q:VK):Prop:=xs.length<=sizeLine/\∀p,H p=none->Q (.ref p) (upd H p (.lst xs))
theorem mS{xs:List V}{H:Hp}{Q:VK}(hz:xs.length<=64)(k:∀q H',H q=none->H' q=some (.tup xs)->aX H H'->Q (.ref q) H'):DH xs H Q:=by unfold DH;exact alT (oR hz) k
theorem rJ{xs:List V}{H:Hp}{Q:VK}(hz:xs.length<=64)(k:∀q H',H q=none->H' q=some (.lst xs)->aX H H'->Q (.ref q) H'):DI xs H Q:=by unfold DI;exact alL (oR hz) k
def tTu(t:TA):TE:=λσ H Q=>t σ H λxs H1=>DH xs H1 Q
def tLs(t:TA):TE:=λσ H Q=>t σ H λxs H1=>DI xs H1 Q
section
variable{X:Cx}{a b c e o tg:Expr}{es rest:List Expr}{ta tb tc te to:TE}{tA tB':TT}{t:TA}{pos p p2:Pos}{st:Stmt}{sts body orelse:List Stmt}{ts us:TS}{x:Str}{r r':R2}{id T:String}{rl:List V->Hp->VK->Prop}{k i j:Nat}{ps:List Str}{sp:Sp}{n:Nat}
theorem aJ(i:Nat){x:Str}{pos:Pos}(hN:X.N[i]?=some x:=by rfl)(hv:Vis X.env.scope x:=by first | exact Or.inl rfl | exact Or.inr (Or.inl rfl) | exact Or.inr (Or.inr rfl))(hd:(x == ("__debug__" : Str))=false:=by decide)
  (hcd:(x == ("__classdict__" : Str))=false:=by decide):fI X (.Name x pos) (MV i):=⟨pv i hN hv hd hcd⟩
theorem aE{i j pos}:fI X (.Constant (.int i) j pos) (tC (.int i)):=⟨pe_int⟩
theorem fW{b j pos}:fI X (.Constant (.bool b) j pos) (tC (.bl b)):=⟨pe_bl⟩
theorem vW{j pos}:fI X (.Constant .none j pos) (tC .non):=⟨pe_non⟩
theorem iM{x j pos}:fI X (.Constant (.str x) j pos) (tC (.str x)):=⟨pe_str⟩
theorem CQ{v:V}{u:Value}(hg:Gl X x)(hm:X.mg x=some u)(r:cW v u)(hd:(x == ("__debug__" : Str))=false:=by decide):fI X (.Name x pos) (tC v):=⟨ON hg hm r hd⟩
theorem fU{v:V}{u:Value}(hg:Gl X x)(hm:X.mg x=none)(hv:bootBuiltins x=some u)(r:cW v u)(hn:x ≠ "__name__" := by decide)(hd:(x == ("__debug__" : Str))=false:=by decide):fI X (.Name x pos) (tC v):=⟨OT hg hm hv r hn hd⟩
theorem bS{op:Operator}(ho:lN X (binaryOp op) r)(ha:fI X a ta)(hb:fI X b tb):fI X (.BinOp a op b pos) (HW r ta tb):=⟨YX ho ha.p hb.p⟩
theorem xS{op:UnaryOp}{r:V->Hp->VK->Prop}(ho:UnR X (unaryOp op) r)(ha:fI X a ta):fI X (.UnaryOp op a pos) (tUn r ta):=⟨YW ho ha.p⟩
theorem fG{op:CmpOp}(ho:lN X (compareOp op) r)(ha:fI X a ta)(hb:fI X b tb)(hm:behindInMarks op b=false):fI X (.Compare a [op] [b] pos) (HW r ta tb):=⟨OR ho ha.p hb.p hm⟩
theorem dH{op:CmpOp}(ho:lN X (compareOp op) r)(ha:fI X a ta)(hb:fI X b tb)(hm:behindInMarks op b=false):FD X (.Compare a [op] [b] pos) (QZ (HW r ta tb)):=⟨OE ho ha.p hb.p hm⟩
theorem xT{op op':CmpOp}(ho:lN X (compareOp op) r)(ho':lN X (compareOp op') r')(ha:fI X a ta)(hb:fI X b tb)(hc:fI X c tc)
  (hm:lastMarks [op,op'] [b,c]=false:=by with_unfolding_all rfl):fI X (.Compare a [op,op'] [b,c] pos) (IQ r r' ta tb tc):=⟨JW ho ho' ha.p hb.p hc.p hm⟩
theorem eE(h:fI X e te)(he:∀whole,isTrue e X.env whole=(do let v <-whole;standAt e.pos;holding [v] (truthy v)):=by intro _;rfl):FD X e (tB te):=⟨UG h.p he⟩
theorem CP(ha:FD X a tA):WX X (.BoolOp .And [a] pos) tA:=⟨OC ha.p⟩
theorem iL(ha:FD X a tA):WX X (.BoolOp .Or [a] pos) tA:=⟨UD ha.p⟩
theorem IC(ha:FD X a tA)(hb:WX X (.BoolOp .And (b::rest) pos) tB'):WX X (.BoolOp .And (a::b::rest) pos) (YB tA tB'):=⟨UE ha.p hb.p⟩
theorem jQ(ha:FD X a tA)(hb:WX X (.BoolOp .Or (b::rest) pos) tB'):WX X (.BoolOp .Or (a::b::rest) pos) (tOr tA tB'):=⟨YU ha.p hb.p⟩
theorem oA(h:WX X e tA):FD X e tA:=⟨h.p.pt⟩
theorem eT(ha:FD X a tA):FD X (.UnaryOp .Not a pos) (XV tA):=⟨UH ha.p⟩
theorem hZ{op}(h:fI X a ta):fI X (.BoolOp op [a] pos) ta:=⟨UT h.p⟩
theorem fX(ha:fI X a ta)(hb:fI X (.BoolOp .And (b::rest) pos) tb):fI X (.BoolOp .And (a::b::rest) pos) (RG ta tb):=⟨UW ha.p hb.p⟩
theorem IF(ha:fI X a ta):fI X (.UnaryOp .Not a pos) (RB ta):=⟨UU ha.p⟩
theorem aC:HZ X [] SR:=⟨pa_nil⟩
theorem aH(ha:fI X e te)(hr:HZ X es t)(hs:starEach (e::es) X.env=(false,eval e X.env)::starEach es X.env:=by first | exact gI | exact dZ | exact se_BoolOp | exact fP | exact eF | exact se_IfExp | exact se_Dict | exact dY | exact eG | exact gJ | exact se_Attribute | exact cZ | exact gW | exact fO | exact se_JoinedStr | exact se_GeneratorExp):HZ X (e::es) (IN te t):=⟨OU ha.p hr.p hs⟩
theorem cH{x1}(h:HZ X es t):fI X (.Tuple es x1 pos) (tTu t):=⟨by unfold tTu DH;exact US h.p⟩
theorem dS(h:HZ X es t):fI X (.List es pos) (tLs t):=⟨by unfold tLs DI;exact UV h.p⟩
theorem IG:fI X (.Dict [] [] pos) IM:=⟨pe_dnewT⟩
theorem cK(hr:MD X r)(ha:fI X a ta)(hb:fI X b tb)(hs:FC b):fI X (.Subscript a b pos) (HW r ta tb):=⟨YY hr ha.p hb.p hs⟩
theorem cX:POw X none CV:=⟨po_none⟩
theorem cT(h:fI X e te):POw X (some e) (RA te):=⟨OI h.p⟩
theorem cM{lo hi:Option Expr}{tl th:TO}{r:V->Option Int->Option Int->Hp->VK->Prop}(hr:ZT X r)(he:fI X e te)(hl:POw X lo tl)(hu:POw X hi th):fI X (.Subscript e (.Slice lo hi none p2) pos) (tSl r te tl th):=⟨JU hr he.p hl.p hu.p⟩
theorem cF(F:hU dM X.prog X.w X.K X.mg X.base k x ps sp)(hr:gA k X.A)(ha:HZ X (e::es) t)(hg:Gl X x:=by rfl)
  (hdb:(x == ("__debug__" : Str))=false:=by decide) (he:starEach (e::es) X.env=(false,eval e X.env)::starEach es X.env:=by first | exact gI | exact dZ | exact se_BoolOp | exact fP | exact eF | exact se_IfExp | exact se_Dict | exact dY | exact eG | exact gJ | exact se_Attribute | exact cZ | exact gW | exact fO | exact se_JoinedStr | exact se_GeneratorExp)
  (hpl:(backTo pos (starEach es X.env)).any (·.1)=false:=by repeat (first | exact xL | refine sG (by first | exact gI | exact dZ | exact se_BoolOp | exact fP | exact eF | exact se_IfExp | exact se_Dict | exact dY | exact eG | exact gJ | exact se_Attribute | exact cZ | exact gW | exact fO | exact se_JoinedStr | exact se_GeneratorExp) ?_)) :
  fI X (.Call (.Name x p) (e::es) [] pos) (IR sp [] E0 t):=⟨YZ F hr ha.p hg hdb he hpl⟩
theorem cS(hc:eW X (.builtin id) rl)(hg:Gl X x)(hm:X.mg x=none)(hv:bootBuiltins x=some (.builtin id))(ha:HZ X (e::es) t)(hn:x ≠ "__name__" := by decide)(hdb:(x == ("__debug__" : Str))=false:=by decide)
  (he:starEach (e::es) X.env=(false,eval e X.env)::starEach es X.env:=by first | exact gI | exact dZ | exact se_BoolOp | exact fP | exact eF | exact se_IfExp | exact se_Dict | exact dY | exact eG | exact gJ | exact se_Attribute | exact cZ | exact gW | exact fO | exact se_JoinedStr | exact se_GeneratorExp) (hpl:(backTo pos (starEach es X.env)).any (·.1)=false:=by repeat (first | exact xL | refine sG (by first | exact gI | exact dZ | exact se_BoolOp | exact fP | exact eF | exact se_IfExp | exact se_Dict | exact dY | exact eG | exact gJ | exact se_Attribute | exact cZ | exact gW | exact fO | exact se_JoinedStr | exact se_GeneratorExp) ?_)):fI X (.Call (.Name x p) (e::es) [] pos) (tCB rl t) :=
 ⟨JX hc hg hm hv ha.p hn hdb he hpl⟩
theorem kC(hc:eW X (.type T) rl)(hg:Gl X x)(hm:X.mg x=none)(hv:bootBuiltins x=some (.type T))(ha:HZ X (e::es) t)(hn:x ≠ "__name__" := by decide)(hdb:(x == ("__debug__" : Str))=false:=by decide)
  (he:starEach (e::es) X.env=(false,eval e X.env)::starEach es X.env:=by first | exact gI | exact dZ | exact se_BoolOp | exact fP | exact eF | exact se_IfExp | exact se_Dict | exact dY | exact eG | exact gJ | exact se_Attribute | exact cZ | exact gW | exact fO | exact se_JoinedStr | exact se_GeneratorExp) (hpl:(backTo pos (starEach es X.env)).any (·.1)=false:=by repeat (first | exact xL | refine sG (by first | exact gI | exact dZ | exact se_BoolOp | exact fP | exact eF | exact se_IfExp | exact se_Dict | exact dY | exact eG | exact gJ | exact se_Attribute | exact cZ | exact gW | exact fO | exact se_JoinedStr | exact se_GeneratorExp) ?_)):fI X (.Call (.Name x p) (e::es) [] pos) (tCB rl t) :=
 ⟨GH hc hg hm hv ha.p hn hdb he hpl⟩
theorem II{name:Str}{apos cpos:Pos}{r:V->List V->Hp->VK->Prop}(pa:PlainAttrs T)(slot:Slot T name id)(hty:typeOf (.builtin id)=pure (.type "method_descriptor"))(hm:ZY X id r)(ho:fI X o to)(ha:HZ X (e::es) t)
  (hbase:attributeBase o name X.env (eval o X.env)=eval o X.env:=by rfl)
  (hfew:((backTo cpos (starEach (e::es) X.env)).all (λx=>!x.1)&&(backToKw cpos (keywordEach [] X.env)).all (λx=>x.1.isSome)
   && decide ((e::es).length+([]:List Keyword).length+(if ([]:List Keyword).isEmpty then 0 else 1)<30))=true:=by rfl)
  (hline:(apos.endLine == cpos.line)=true:=by rfl) (hs:starEach (e::es) X.env=(false,eval e X.env)::starEach es X.env:=by first | exact gI | exact dZ | exact se_BoolOp | exact fP | exact eF | exact se_IfExp | exact se_Dict | exact dY | exact eG | exact gJ | exact se_Attribute | exact cZ | exact gW | exact fO | exact se_JoinedStr | exact se_GeneratorExp) (hplain:(backTo cpos (starEach es X.env)).any (·.1)=false:=by repeat (first | exact xL | refine sG (by first | exact gI | exact dZ | exact se_BoolOp | exact fP | exact eF | exact se_IfExp | exact se_Dict | exact dY | exact eG | exact gJ | exact se_Attribute | exact cZ | exact gW | exact fO | exact se_JoinedStr | exact se_GeneratorExp) ?_)) :
  fI X (.Call (.Attribute o name apos) (e::es) [] cpos) (tBM X.K T r to t):=⟨ZA pa slot hty hm ho.p ha.p hbase hfew hline hs hplain⟩
theorem cR:uC X [] RC:=⟨pss_nil⟩
theorem aW(h1:HQ X st ts)(h2:uC X sts us):uC X (st::sts) (XR ts us):=⟨JO h1.p h2.p⟩
theorem bG(h1:HQ X st ts):uC X [st] ts:=⟨OF h1.p⟩
theorem vU(he:fI X e te)(hs:swapsWith e none pos.line X.env=pure false:=by rfl):HQ X (.Expr e pos) (RD te):=⟨OG he.p hs⟩
theorem bV(he:fI X e te):HQ X (.Return (some e) pos) (XT te):=⟨UJ he.p⟩
theorem eP{c:Expr}{a b:List Stmt}(hc:FD X c tA)(ha:uC X a ts)(hb:uC X b us):HQ X (.If c a b pos) (XW tA ts us):=⟨YV hc.p ha.p hb.p⟩
theorem AD(h:HQ X st ts):HQ X st (XZ ts):=⟨UM h.p⟩
theorem eK{i:Nat}{x:Str}(hN:X.N.Nodup)(hi:X.N[i]?=some x)(hx:XM X.env.scope x)(hf:X.fn x=true\/X.env.scope.names.lookup x=some .local:=by first | exact .inl rfl | exact .inr rfl | assumption):SI X (.Name x pos) (vI i):=⟨OM hN hi hx hf⟩
theorem rW:QS X [] WC:=⟨pgs_nil⟩
theorem gR{t:TG}{u:LZ}(h1:SI X e t)(h2:QS X es u)
  (hs:(assignEach (e::es) X.env).map (·.2)=assign e X.env::(assignEach es X.env).map (·.2):=by rfl):QS X (e::es) (KU t u):=⟨JT h1.p h2.p hs⟩
theorem vV{k:Nat}{t:LZ}{n:Nat}(hc:X.calm=true)(h:QS X es t)
  (hn:(assignEach es X.env).length=n:=by rfl) (hst:(assignEach es X.env).findIdx? (·.1)=none:=by rfl):SI X (.Tuple es k pos) (WB X.K n t):=⟨UP hc h.p hn hst⟩
theorem SM{i:Expr}{ti:TE}{t:QP}(ho:fI X o to)(hi:fI X i ti)(hs:WY X t)
  (ha:∀v,assign (.Subscript o i pos) X.env v=(do
   let ov <-holding [v] (eval o X.env)
   let iv <-holding [v,ov] (eval i X.env)
   standAt pos
   holding [v,ov,iv] (setItem ov iv v)
   release [v,ov,iv] []):=by intro _;rfl):SI X (.Subscript o i pos) (ZN to ti t):=⟨UQ ho.p hi.p hs ha⟩
theorem AE{g:TG}(he:fI X e te)(hg:SI X tg g)(hs:swapsWithSole [tg] e pos.line X.env=pure false:=by rfl)(hw:swappedStores [tg] e X.env=pure none:=by rfl)(h1:(assignEach [tg] X.env).map (·.2)=[assign tg X.env]:=by rfl):HQ X (.Assign [tg] e pos) (MW te g):=⟨UN he.p hg.p hs hw h1⟩
theorem cC{i:Nat}{pos':Pos}(hN:X.N.Nodup)(hi:X.N[i]?=some x)(hx:XM X.env.scope x)(he:fI X e te)(hs:swapsWith e (some (.Name x pos')) pos.line X.env=pure false:=by rfl)(hf:X.fn x=true\/X.env.scope.names.lookup x=some .local:=by first | exact .inl rfl | exact .inr rfl | assumption) :
  HQ X (.Assign [.Name x pos'] e pos) (MW te (vI i)):=⟨UI hN hi hx he.p hs hf⟩
theorem SK{i j:Nat}{x y:Str}{ta:TA}{px py pt:Pos}{kt k2 pt2}(hc:X.calm=true)(hN:X.N.Nodup)(hi:X.N[i]?=some x)(hj:X.N[j]?=some y)(hij:i≠j)
  (hx:X.env.scope.names.lookup x=some .local) (hy:X.env.scope.names.lookup y=some .local) (ha:HZ X [a,b] ta)
  (hw:swappedStores [.Tuple [.Name x px,.Name y py] kt pt] (.Tuple [a,b] k2 pt2) X.env=pure (some [x,y]))
  (hs:swapsWithSole [.Tuple [.Name x px,.Name y py] kt pt] (.Tuple [a,b] k2 pt2) pos.line X.env=pure false:=by rfl) :
  HQ X (.Assign [.Tuple [.Name x px,.Name y py] kt pt] (.Tuple [a,b] k2 pt2) pos) (XU i j ta):=⟨UK hc hN hi hj hij hx hy ha.p hw hs⟩
theorem oB{c:Expr}{tc:TT}{tb:TS}(hp:PassesOwn (model X.prog X.w) X.A X.env X.xe)(hc:FD X c tc)(hb:uC X body tb):HQ X (.While c body [] pos) (vZ (oF tc) tb):=⟨GD hp hc.p hb.p⟩
theorem kU{l:Expr}{tl:TE}(hl:fI X l tl):WZ X tg l (RY X.K tl):=⟨OL hl.p⟩
theorem jA{l:Expr}{tl:TE}(hl:fI X l tl):WZ X tg l (ZL X.K tl):=⟨UO hl.p⟩
theorem hV{a:Expr}{ta:TA}{p pos:Pos}(hg:Gl X "range")(hm:X.mg "range" = none)(ha:HZ X [a] ta)(hs:starEach [a] X.env=[(false,eval a X.env)]:=by first | exact gI | exact dZ | exact se_BoolOp | exact fP | exact eF | exact se_IfExp | exact se_Dict | exact dY | exact eG | exact gJ | exact se_Attribute | exact cZ | exact gW | exact fO | exact se_JoinedStr | exact se_GeneratorExp):WZ X tg (.Call (.Name "range" p) [a] [] pos) (RX ta):=⟨GG hg hm ha.p hs⟩
theorem FG{a b:Expr}{ta:TA}{p pos:Pos}(hg:Gl X "range")(hm:X.mg "range" = none)(ha:HZ X [a,b] ta)(hs:starEach [a,b] X.env=[(false,eval a X.env),(false,eval b X.env)]:=by rfl)(hs2:starEach [b] X.env=[(false,eval b X.env)]:=by first | exact gI | exact dZ | exact se_BoolOp | exact fP | exact eF | exact se_IfExp | exact se_Dict | exact dY | exact eG | exact gJ | exact se_Attribute | exact cZ | exact gW | exact fO | exact se_JoinedStr | exact se_GeneratorExp) :
  WZ X tg (.Call (.Name "range" p) [a,b] [] pos) (RW ta):=⟨GF hg hm ha.p hs hs2⟩
theorem jW{iter:Expr}{wi:TI}{g:TG}{tb:TS}{pos:Pos}(hp:PassesOwn (model X.prog X.w) X.A X.env X.xe)(hc:X.calm=true)(hi:WZ X tg iter wi)(hg:SI X tg g)(hb:uC X body tb)
  (hs:∀x,foldedSetIterable iter X.env x=pure x:=by intro _;rfl):HQ X (.For tg iter body [] pos) (XX wi g tb):=⟨UL hp hc hi.p hg.p hb.p hs⟩
end
theorem iK.okw{P:Program}{w:World}{K:PySem.W.Frag}{mg:Str->Option Value}{base:Heap}{x qual:Str}{st:Stmt}{f:Addr}{fd:FuncData}{N ps:List Str}{k:Nat}{sp:Sp}(F:iK K x qual st f fd)(S:bZ N ps (bD st))(len:∀vs H Q E,sp vs H Q E->vs.length=ps.length)
  (hbody:∀(cdv:Value) (A:Around) (outer:List Env) (s:Shared) (H:Hp) (vs:List V) (Q:VK) (E:XK),gA k (A.deeper (envOfC qual (bD st) s.heap.objs.size f cdv))->sp vs H Q E ->
   ∃t,uC (rN dM P w K mg base N qual (bD st) f cdv A outer s H E).nox (hJ st) t/\t { nx:=λ_ H'=>Q .non H',rt:=Q } (start N vs) H):dP P w K mg base dM (k+1) f fd ps sp :=
 F.ok S len λcdv A outer s H vs Q E hr h=>by
  obtain ⟨t,h1,h2⟩:=hbody cdv A outer s H vs Q E hr h;exact ⟨t,h1.p,h2⟩
theorem iK.oky{P:Program}{w:World}{K:PySem.W.Frag}{mg:Str->Option Value}{base:Heap}{x qual:Str}{st:Stmt}{f:Addr}{fd:FuncData}{N ps:List Str}{k:Nat}{sp:Sp}(F:iK K x qual st f fd)(S:bZ N ps (bD st))
  (h:∀(vs:List V) (H:Hp) (Q:VK) (E:XK),sp vs H Q E->vs.length=ps.length/\∀(cdv:Value) (A:Around) (outer:List Env) (s:Shared),gA k (A.deeper (envOfC qual (bD st) s.heap.objs.size f cdv)) ->
   ∃t,uC (rN dM P w K mg base N qual (bD st) f cdv A outer s H E).nox (hJ st) t/\t { nx:=λ_ H'=>Q .non H',rt:=Q } (start N vs) H):dP P w K mg base dM (k+1) f fd ps sp :=
 F.okw S (λvs H Q E q=>(h vs H Q E q).1) λcdv A outer s H vs Q E hr q=>(h vs H Q E q).2 cdv A outer s hr
theorem zC(a b:Int):Int.gcd b (a % b)=Int.gcd a b:=by
 have h:=Int.gcd_add_mul_right_right b (a % b) (a/b);rw [show a % b+a/b*b=a from by have:=Int.emod_add_mul_ediv a b;rw [Int.mul_comm];exact this] at h;rw [<-h,Int.gcd_comm]
theorem EE{a:Int}(h:0<a):(Int.gcd a 0:Int)=a:=by rw [Int.gcd_zero_right];omega
def rM:PyData->Bool | .tuple _=>true | _=>false
def QA:PyData->Bool | .int _=>true | .bool _=>true | _=>false
def ER:PyData->Bool | .bool _=>true | _=>false
def xE:PyData->Bool | .int _=>true | _=>false
theorem DZ(d:PyData):HX "tuple" d=rM d:=by cases d <;> simp [HX,MG,rM]
theorem EA(d:PyData):HX "int" d=QA d:=by cases d <;> simp [HX,MG,QA]
theorem zA(d:PyData):HX "bool" d=ER d:=by cases d <;> simp [HX,MG,ER]
section
variable{H:Hp}{x:V}{d:PyData}{Q:VK}
theorem DC(r:bR H d x)(q:Q (.bl (rM d)) H):BF [x,.ty "tuple"] H Q:=riI r (by rw [DZ];exact q)
theorem YL(r:bR H d x)(q:Q (.bl (QA d)) H):BF [x,.ty "int"] H Q:=riI r (by rw [EA];exact q)
theorem JG(r:bR H d x)(q:Q (.bl (ER d)) H):BF [x,.ty "bool"] H Q:=riI r (by rw [zA];exact q)
end
theorem aL.len{H:Hp}:∀{ds:List PyData}{vs:List V},aL H ds vs->vs.length=ds.length
 | [],_,h=>by cases (show _=[] from h);rfl
 | d::ds,_,h=>by
  unfold aL at h;obtain ⟨x,xs,rfl,_,h2⟩:=h;simp [aL.len h2]
section
variable{p:Addr}{σ:St}{t:TE}{ta:TA}{d:PyData}{ds:List PyData}
end
theorem jV{α:Type}{xs:List α}{x:Int}(h0:0<=x)(h1:x<xs.length):∃v,AC xs x=some v/\v∈xs/\xs[x.toNat]?=some v:=by
 have h:x.toNat<xs.length:=Oo;have e:=aN h;have:=fK e;rw [Int.toNat_of_nonneg h0] at this;exact ⟨_,this,List.getElem_mem h,e⟩
theorem aL.mem{H:Hp}:∀{ds:List PyData}{vs:List V}{v:V},aL H ds vs->v∈vs->∃d,d∈ds/\bR H d v
 | [],_,_,h,hv=>by cases (show _=[] from h);cases hv
 | d::ds,_,v,h,hv=>by
  unfold aL at h;obtain ⟨x,xs,rfl,h1,h2⟩:=h;rcases aR.mp hv with rfl | hv
  ·exact ⟨d,aF ..,h1⟩
  ·obtain ⟨d',m,r⟩:=aL.mem h2 hv;exact ⟨d',aD _ m,r⟩
theorem aL.append{H:Hp}{es:List PyData}{ws:List V}(h':aL H es ws):∀{ds:List PyData}{vs:List V},aL H ds vs->aL H (ds++es) (vs++ws)
 | [],_,h=>by cases (show _=[] from h);exact h'
 | d::ds,_,h=>by
  unfold aL at h;obtain ⟨x,xs,rfl,h1,h2⟩:=h;exact aL.cons h1 (aL.append h' h2)
end L2
namespace L2
end L2
namespace L2
open PySem PySem.Spec PyProof.Rows
theorem aX.thru{l:Addr}{H0 H1 H2:Hp}(hl:H0 l=none)(s:aX H0 H1)(b:aT l H1 H2):aX H0 H2:=λc o e=>by
 have n:c≠l:=fA e hl;exact b.at n (s _ _ e)
theorem aBo{H:Hp}{l b:Addr}{xs zs:List V}{Q:VK}(h1:H l=some (.lst xs))(h2:H b=some (.lst zs))(hz:xs.length+zs.length<=1000)(k:∀q H',H q=none->H' q=some (.lst (xs++zs))->aX H H'->Q (.ref q) H'):YT (.ref l) (.ref b) H Q :=
 ⟨l,b,xs,zs,rfl,rfl,h1,h2,Nat.le_of_lt (pQ hz),λq hq=>k q _ hq bL (aX.upd hq)⟩
@[irreducible] def NZ:V->List V->Hp->VK->Prop:=DL
theorem VE{X:Cx}:ZY X "list.append" NZ:=by unfold NZ;exact qA
theorem aBF{H:Hp}{l:Addr}{xs:List V}{y:V}{Q:VK}(h:H l=some (.lst xs))(hz:xs.length<=1000)(k:∀H',H' l=some (.lst (xs++[y]))->aT l H H'->Q .non H'):NZ (.ref l) [y] H Q:=by
 unfold NZ;exact ⟨l,xs,y,rfl,rfl,h,pQ hz,k _ bL aT.self⟩
theorem tyL{K:PySem.W.Frag}{H:Hp}{l:Addr}{xs:List V}(h:H l=some (.lst xs)):tyV K "list" (.ref l) H:=.inl ⟨rfl,xs,gG.of h⟩
def kM(env:Env):List (Str × NameKind)->List (Str × Addr)->List (Str × Addr)
 | [],cs=>cs
 | (n,k)::r,cs=>if k == .free then kM env r ((n,(env.cells.lookup n).getD 0)::cs) else kM env r cs
theorem EW(env:Env):∀(l:List (Str × NameKind)) (cs:List (Str × Addr)),(∀y∈l,y.2=.free->∃c,env.cells.lookup y.1=some c) ->
  (forIn l cs λ(x:Str × NameKind) r=>if x.2 == .free then (do let c <-cellOf env x.1;pure (ForInStep.yield ((x.1,c)::r)):Sem _) else pure (ForInStep.yield r))=pure (kM env l cs)
 | [],cs,_=>rfl
 | (n,k)::r,cs,h=>by
  rw [List.forIn_cons];have ih:=λcs=>EW env r cs λy hy=>h y (aD _ hy);by_cases hk:(k == NameKind.free)=true
  ·obtain ⟨c,hc⟩:=h (n,k) aF (by simpa using hk);dsimp only at hc;simp only [hk,if_true,kM,hc,Option.getD_some,cellOf,pure_bind];exact ih _
  ·simp only [hk,kM,pure_bind];exact ih _
theorem nG{env:Env}{scope:Scope}(h:∀y∈scope.names,y.2=.free->∃c,env.cells.lookup y.1=some c):closureFor scope env=pure (kM env scope.names []):=by
 have e:=EW env scope.names [] h;unfold closureFor;simp only [bind_pure];exact e
theorem qM{env:Env}:∀(l:List (Str × NameKind)) (cs:List (Str × Addr)),(∀y∈l,y.2=.free->∃c,env.cells.lookup y.1=some c)->∀p∈kM env l cs,p∈cs\/env.cells.lookup p.1=some p.2
 | [],cs,_,p,hp=>.inl hp
 | (n,k)::r,cs,h,p,hp=>by
  have h':∀y∈r,y.2=.free->∃c,env.cells.lookup y.1=some c:=λy hy=>h y (aD _ hy);unfold kM at hp;by_cases hk:(k == NameKind.free)=true
  ·rw [if_pos hk] at hp;obtain ⟨c,hc⟩:=h (n,k) aF (by simpa using hk);rcases qM r _ h' p hp with hm | hm
   ·rcases aR.mp hm with rfl | hm
    ·exact .inr (by dsimp only at hc ⊢;rw [hc];rfl)
    ·exact .inl hm
   ·exact .inr hm
  ·rw [if_neg hk] at hp;exact qM r cs h' p hp
theorem qO{env:Env}:∀(l:List (Str × NameKind)) (cs:List (Str × Addr)),∀p∈cs,p∈kM env l cs
 | [],_,_,hp=>hp
 | (n,k)::r,cs,p,hp=>by
  unfold kM;by_cases hk:(k == NameKind.free)=true
  ·rw [if_pos hk];exact qO r _ p (aD _ hp)
  ·rw [if_neg hk];exact qO r _ p hp
theorem qN{env:Env}:∀(l:List (Str × NameKind)) (cs:List (Str × Addr)) (y:Str),(y,NameKind.free)∈l->∃a,(y,a)∈kM env l cs
 | (n,k)::r,cs,y,hy=>by
  unfold kM;rcases aR.mp hy with e | hm
  ·cases e;rw [if_pos (by rfl)];exact ⟨_,qO r _ _ aF⟩
  ·by_cases hk:(k == NameKind.free)=true
   ·rw [if_pos hk];exact qN r _ y hm
   ·rw [if_neg hk];exact qN r _ y hm
theorem lD{α β:Type}[BEq α][LawfulBEq α]{x:α}{c:β}:∀{l:List (α × β)},l.lookup x=some c->(x,c)∈l
 | [],h=>by cases h
 | (a,b)::r,h=>by
  rw [List.lookup_cons] at h;by_cases e:(x == a)=true
  ·rw [e] at h;have:x=a:=by simpa using e
   subst this;cases h;exact aF
  ·have e':(x == a)=false:=by simpa using e
   rw [e'] at h;exact aD _ (lD h)
theorem lB{α β:Type}[BEq α][LawfulBEq α]{x:α}{c:β}:∀{l:List (α × β)},(x,c)∈l->∃c',l.lookup x=some c'
 | (a,b)::r,h=>by
  rw [List.lookup_cons];by_cases e:(x == a)=true
  ·rw [e];exact ⟨_,rfl⟩
  ·have e':(x == a)=false:=by simpa using e
   rw [e'];rcases aR.mp h with q | q
   ·cases q;simp at e
   ·exact lB q
def CD(X:Cx)(scope:Scope):List (Str × Addr):=kM X.env scope.names []
theorem fT{X:Cx}{scope:Scope}(h:∀y∈scope.names,y.2=.free->∃c,X.env.cells.lookup y.1=some c){x:Str}{c:Addr}(e:(CD X scope).lookup x=some c):X.env.cells.lookup x=some c:=by
 rcases qM scope.names [] h _ (lD e) with hm | hm
 ·cases hm
 ·exact hm
theorem kO{X:Cx}{scope:Scope}(h:∀y∈scope.names,y.2=.free->∃c,X.env.cells.lookup y.1=some c){x:Str}(hx:(x,NameKind.free)∈scope.names){c:Addr}(e:X.env.cells.lookup x=some c):(CD X scope).lookup x=some c:=by
 obtain ⟨a,ha⟩:=qN (env:=X.env) scope.names [] x hx;obtain ⟨c',hc'⟩:=lB ha;have:=fT h hc';rw [e] at this;cases this;exact hc'
def lK(X:Cx)(scope:Scope)(C:Addr)(fp:List Addr)(s₀:Shared)(H₀:Hp)(N':List Str):Cx where
 prog:=X.prog
 w:=X.w
 K:=X.K
 mg:=X.mg
 base:=X.base
 A:=X.A
 N:=N'
 s₀:=s₀
 H₀:=H₀
 env:=compEnvC scope (CD X scope) C X.env
 outer:=X.stack
 stack:=X.stack
 ex:=fp
 fn:=λ_=>false
 calm:=true
 pn:=[]
 xe:=λ_ _=>False
def slots(σ:St)(js:List Nat):St:=js.map λj=>(σ[j]?).getD none
def MM(X:Cx)(ifs:List Expr)(t:TT):Prop :=
 ∀(pins:List (Addr × Obj)) (s:Shared) (σ:St) (H:Hp) (Q:Bool->Hp->Prop),bY X pins σ H s->t σ H Q ->
  wpAny (model X.prog X.w) X.A (forIn ifs true λc r=>if r=true then do let ok <-isTrue c X.env (eval c X.env);pure (ForInStep.yield ok) else pure (ForInStep.yield r)) (TP X pins σ Q) X.xe s
def sK:TT:=λ_ H Q=>Q true H
theorem pts_nil{X:Cx}:MM X [] sK:=λpins s σ H Q I h=>wpAny_tests_nil ⟨H,I,h⟩
theorem OD{X:Cx}{c:Expr}{t:TT}(h:PT X c t):MM X [c] t:=λpins s σ H Q I q=>wpAny_tests_one (h pins s σ H Q I q)
def YA(wi:TI)(js:List Nat)(tc:TT)(te:TE):TE:=λσ H Q=>wi σ H λJ H1=>∀D,H1 D=none->∃W:Nat->Nat->List V->Hp->Prop,(∃m,W 0 m [] (upd H1 D (.lst []))) /\
 ∀i m ys H2,W i m ys H2->H2 D=some (.lst ys)/\((J.stop i H2/\Q (.ref D) H2)\/(J.go i H2/\ys.length<sizeLine/\∀x H3,J.yld i H2 x H3 ->
  tc (some x::slots σ js) H3 λb H4=>if b=true then te (some x::slots σ js) H4 λy H5=>H5 D=some (.lst ys)/\∃m',m' < m/\W (i+1) m' (ys++[y]) (upd H5 D (.lst (ys++[y])))
   else H4 D=some (.lst ys)/\∃m',m' < m/\W (i+1) m' ys H4))
structure eA(X:Cx)(scope:Scope)(x:Str)(N':List Str)(js:List Nat):Prop where
 calm:X.calm=true
 free:∀y∈scope.names,y.2=.free->X.env.kindOf y.1=some .cell
 cell:∀y∈scope.names,y.2 ≠ .cell
 kind:scope.kind=.function
 names:∀y∈scope.names,y.2=.local->scope.names.lookup y.1=some .local
 own:scope.names.lookup x=some .local
 nofl:∀y,(y,NameKind.free)∈scope.names->scope.names.lookup y=some .local->False
 len:N'.length=js.length+1
 zero:N'[0]?=some x
 nd:N'.Nodup
 slot:∀(i:Nat) (j:Nat),js[i]?=some j->∃y,N'[i+1]?=some y/\X.N[j]?=some y/\(y,NameKind.free)∈scope.names
section
variable{X:Cx}{pins:List (Addr × Obj)}{σ:St}{H:Hp}{s:Shared}{scope:Scope}{x:Str}{N':List Str}{js:List Nat}{fp:List Addr}
theorem eA.cells(S:eA X scope x N' js)(ok:X.Ok):∀y∈scope.names,y.2=.free->∃c,X.env.cells.lookup y.1=some c:=λy hy hf=>ok.has _ (.inl (S.free y hy hf))
theorem gC{env:Env}:∀{names:List (Str × NameKind)}{y:Str}{k:NameKind},(names.map λ(n,k)=>if (k == NameKind.free&&env.scope.kind == .function&&env.kindOf n == some .cell) then (n,NameKind.cell) else (n,k)).lookup y=some k ->
  (k=.cell\/k=.free)->(∀z∈names,z.2 ≠ .cell)->(y,NameKind.free)∈names
 | [],_,_,h,_,_=>by cases h
 | (n,q)::r,y,k,h,hk,hc=>by
  rw [aV,List.lookup_cons] at h;have ih:=λh=>@gC env r y k h hk λz hz=>hc z (aD _ hz);by_cases hq:(q == NameKind.free&&env.scope.kind == .function&&env.kindOf n == some .cell)=true
  ·dsimp only at h;rw [if_pos hq] at h;have qf:q=.free:=by
    rw [aQ,aQ] at hq;simpa using hq.1.1
   subst qf;by_cases e:(y == n)=true
   ·have:y=n:=by simpa using e
    subst this;exact aF
   ·have e':(y == n)=false:=by simpa using e
    dsimp only at h;rw [e'] at h;exact aD _ (ih h)
  ·dsimp only at h;rw [if_neg hq] at h;by_cases e:(y == n)=true
   ·have:y=n:=by simpa using e
    subst this;dsimp only at h;rw [e] at h;have hkq:k=q:=by injection h with h;exact h.symm
    subst hkq;rcases hk with rfl | rfl
    ·exact absurd rfl (hc _ aF)
    ·exact aF
   ·have e':(y == n)=false:=by simpa using e
    dsimp only at h;rw [e'] at h;exact aD _ (ih h)
theorem WH(S:eA X scope x N' js)(I:bY X pins σ H s)(hf:∀b∈fp,iQ X pins H b)(hb:∀b∈fp,b<s.heap.objs.size):(lK X scope s.heap.objs.size fp s H N').Ok where
 mod:=I.ok.mod
 kind:=S.kind
 glob:=I.ok.glob
 blt:=I.ok.blt
 above:=aK _
 inj:=λy z c h1 h2=>I.ok.inj y z c (fT (S.cells I.ok) h1) (fT (S.cells I.ok) h2)
 has:=λy hy=>by
  have hm:(y,NameKind.free)∈scope.names:=by
   rcases hy with hy | hy
   ·exact gC (env:=X.env) hy (.inl rfl) S.cell
   ·exact gC (env:=X.env) hy (.inr rfl) S.cell
  obtain ⟨c,hc⟩:=S.cells I.ok _ hm rfl;exact ⟨c,kO (S.cells I.ok) hm hc⟩
 cab:=λ_ _ h=>by cases h
 hd:=λ_=>I.ok.hd S.calm
 frames:=I.ok.frames
 stk:=.inl rfl
 exf:=λb hb'=>⟨λe=>by have:=hb b hb';rw [e] at this;exact cP _ this,λy c h=>(hf b hb').2.2.2.2.1 y c (fT (S.cells I.ok) h)⟩
 bs:=I.bs
 bsz:=bC I.ok.bsz I.sz
 noex:=λb o e hb'=>by
  rcases (hf b hb').2.2.2.1 with h | h
  ·exact I.ok.noex b o e h
  ·exact absurd (aZ (aY e) (bC I.ok.bsz h)) (cP _)
 exfs:=λb hb' hs=>by
  have h2:=I.stkSub b hs;rcases aR.mp h2 with h2 | h2
  ·exact (hf b hb').2.1 h2
  ·exact (hf b hb').2.2.1 h2
 funs:=I.stack
 frf:=I.stkFree
theorem uU{i j:Nat}(h:js[i]?=some j):(slots σ js)[i]?=some ((σ[j]?).getD none):=by
 unfold slots;rw [aS,h];rfl
theorem QC{h':Heap}{tk:Nat}(S:eA X scope x N' js)(I:bY X pins σ H s)(hf:∀b∈fp,iQ X pins H b)(hb:∀b∈fp,b<s.heap.objs.size)
  (hn:h'.Ns s.heap.objs.size (λ_=>none)) (hk:∀b o,s.heap.get? b=some o->h'.get? b=some o):bY (lK X scope s.heap.objs.size fp s H N') [] (none::slots σ js) H { s with heap:=h',toks:=tk } where
 ok:=WH S I hf hb
 os:=rfl
 bare:=I.bare
 base:=Un.kept hk
 loc:=by
  refine ⟨_,hn,λi y v hi hv hvis=>?_⟩;cases i with
  | zero=>cases hv
  | succ i =>
   have hv':(slots σ js)[i]?=some (some v):=hv;have hlt:i<js.length:=by
    have:=(bN.mp hv').1;unfold slots at this
    rwa [aA] at this
   have hj:js[i]?=some js[i]:=aN hlt;obtain ⟨z,h1,h2,h3⟩:=S.slot i _ hj;have hzy:z=y:=by
    have:N'[i+1]?=some y:=hi;rw [h1] at this;cases this;rfl
   subst hzy;rw [uU hj] at hv';have hσ:σ[js[i]]?=some (some v):=by
    cases q:σ[js[i]]? with
    | none=>rw [q] at hv';cases hv'
    | some o=>rw [q] at hv';cases hv';rfl
   have hkc:X.env.kindOf z=some .cell:=S.free _ h3 rfl;obtain ⟨m,hm,hl⟩:=I.loc;obtain ⟨u,ru,lk⟩:=hl _ z v h2 hσ (.inr (.inl hkc));rcases lk with ⟨hk1,_⟩ | ⟨_,c,hc,hcell⟩
   ·rw [hkc] at hk1;cases hk1
   ·refine ⟨u,ru,.inr ⟨?_,c,kO (S.cells I.ok) h3 hc,?_⟩⟩
    ·rcases hvis with hvis | hvis | hvis
     ·exfalso;have hcl:=kO (S.cells I.ok) h3 hc;have hm2:=lD (l:=(relabel scope X.env).names) hvis;unfold relabel at hm2;obtain ⟨⟨n,k⟩,hmem,he⟩:=aU.mp hm2;dsimp only at he;by_cases hq:(k == NameKind.free&&X.env.scope.kind == .function&&X.env.kindOf n == some .cell)=true
      ·rw [if_pos hq] at he;cases he
      ·rw [if_neg hq] at he;cases he;have:=S.names _ hmem rfl;have l2:=lB h3;obtain ⟨c',l2⟩:=l2;dsimp only at this;rw [this] at l2;have key:(relabel scope X.env).names.lookup z=some .local:=lookup_relabel_local this;have hck:scope.names.lookup z=some .local:=this;exact S.nofl z h3 hck
     ·exact .inl hvis
     ·exact .inr hvis
    ·obtain ⟨o,e,r⟩:=hcell;exact ⟨o,hk _ _ e,r⟩
 cell:=λy c h=>by
  obtain ⟨v,o,e,r⟩:=I.cell y c (fT (S.cells I.ok) h);exact ⟨v,o,hk _ _ e,r⟩
 free:=I.hok.fresh (aK _)
 freeC:=λy c h=>I.freeC y c (fT (S.cells I.ok) h)
 pin:=λp hp=>by cases hp
 hok:=I.hok.kept hk
 len:=by
  show (slots σ js).length+1=N'.length;unfold slots;rw [aA,S.len]
theorem mW.but{P:Program}{w:World}{H:Hp}{h h':Heap}{C:Addr}(x:mW P w H h)(hC:H C=none)(k:∀b u,b≠C->h.get? b=some u->h'.get? b=some u):mW P w H h':=λa o e =>
 (x a o e).stay (λb u hb q=>k b u (by
  rcases hb with rfl | hb
  ·exact fA e hC
  ·exact fA hb hC) q) (λ_ q=>q) λ_ _ q=>q
theorem LH{H2:Hp}{σ':St}{s2:Shared}{h'':Heap}(S:eA X scope x N' js)(I:bY X pins σ H s)(hf:∀b∈fp,iQ X pins H b)
  (J:bY (lK X scope s.heap.objs.size fp s H N') [] σ' H2 s2) (hs:Heap.SameBut s.heap.objs.size s2.heap h''):bY X pins σ H2 { s2 with heap:=h'' }:=by
 have hC:H2 s.heap.objs.size=none:=J.free;have ne:∀{b:Addr} {o:Obj},s.heap.get? b=some o->b≠s.heap.objs.size:=λe q=>by
  have:=aY e;rw [q] at this;exact cP _ this
 refine I.call' (s':={ s2 with heap:=h'' }) (ch:=fp) (by rw [show ({ s2 with heap:=h'' }:Shared).os=s2.os from rfl];exact J.os) ?_ (J.hok.but hC λb u hb q=>hs.extBut b u hb q) J.bare λb hb=>⟨(hf b hb).2.2.2.1,(hf b hb).2.1,(hf b hb).2.2.2.2.1,(hf b hb).2.2.2.2.2⟩;have U:=J.base;exact {
  keep:=λb o e n h1 h2=>hs.extBut b o (ne e) (U.keep b o e n h1 h2)
  slot:=λb o e n h1 h2=>by
   obtain ⟨sl,q⟩:=U.slot b o e n h1 h2;exact ⟨sl,hs.extBut b _ (ne e) q⟩
  free:=U.free
  there:=λb o e h2=>by
   obtain ⟨o',q⟩:=U.there b o e h2;exact ⟨o',hs.extBut b _ (ne e) q⟩
  tups:=U.tups
  frzs:=U.frzs
  tbls:=U.tbls }
end
abbrev MN:Value->Shared->Prop:=λ_ _=>False
theorem pH{prog:Program}{w:World}{A:Around}{R:Result->Shared->Prop}{s:Shared}{elt target iter:Expr}{ifs:List Expr}{scope:Scope}{pos:Pos}{it acc:Value}{env:Env}(I:Nat->Shared->Prop)
  (turn:∀n s,I n s->wpAny (model prog w) A (pyNext it) (λr s₁=>match r with
   | none=>R (.ok .next) s₁
   | some v=>wpAny (model prog w) A (letOwnedTupleGo target it v) (λ_ s₁'=>wpAny (model prog w) A (assign target env v) (λ_ s₂ =>
     wpAny (model prog w) A (forIn ifs true λc r=>if r=true then do let ok <-isTrue c env (eval c env);pure (ForInStep.yield ok) else pure (ForInStep.yield r)) (λok s₃ =>
      if ok=true then wpAny (model prog w) A (eval elt env) (λx s₄=>wpAny (model prog w) A (call (.builtin "list.append") [acc,x]) (λ_ s₅=>∃m,m<n/\I m s₅) MN s₄) MN s₃
      else ∃m,m<n/\I m s₃) MN s₂) MN s₁') MN s₁) MN s)
  (n:Nat) (h:I n s):codeAny (model prog w) A (.compLoop (.ListComp elt [⟨target,iter,ifs,0⟩] scope pos) 0 it acc env) R s:=by
 refine codeAny_loop rfl I (λn s hI=>?_) n h;show wpAny _ A ((compTurn (.ListComp elt [⟨target,iter,ifs,0⟩] scope pos) 0 it acc env).onRaise (λx=>do noteFrame x env;theTreesLotGoes x)) _ _ s;refine wpAny_noted ?_;rw [compTurn_list];refine wpAny_bind (wpAny_standAt (wpAny_bind (wpAny_mono (turn n s hI) (λr s₁ h₁=>?_) λ_ _ h'=>h'.elim)));cases r with
 | none=>exact wpAny_pure h₁
 | some v =>
  refine wpAny_bind (wpAny_mono h₁ (λ_ s₁' h₁'=>?_) λ_ _ h'=>h'.elim);refine wpAny_bind (wpAny_mono h₁' (λ_ s₂ h₂=>wpAny_bind (wpAny_mono h₂ (λok s₃ h₃=>?_) λ_ _ h'=>h'.elim)) λ_ _ h'=>h'.elim);cases ok with
  | false=>exact wpAny_pure ⟨rfl,h₃⟩
  | true =>
   exact wpAny_bind (wpAny_bind (wpAny_mono h₃ (λx s₄ h₄=>wpAny_bind (wpAny_mono h₄ (λ_ s₅ h₅=>wpAny_pure (wpAny_pure ⟨rfl,h₅⟩)) λ_ _ h'=>h'.elim)) λ_ _ h'=>h'.elim))
section
variable{X:Cx}{pins:List (Addr × Obj)}{σ:St}{H:Hp}{s:Shared}{scope:Scope}{x:Str}{N':List Str}{js:List Nat}{fp:List Addr}{elt iter:Expr}{px pos:Pos}{ifs:List Expr}{tc:TT}{te:TE}
theorem CB{J:It}{it:Addr}{tn:Nat->Heap->Prop}{RR:Value->Addr->Result->Shared->Prop}{E:Value->Shared->Prop}{Q:VK}
  (S:eA X scope x N' js) (I:bY X pins σ H s) (T:HM X.prog X.w X.K (.Name x px) J fp it tn) (h0:tn 0 s.heap) (hf:∀b∈fp,iQ X pins H b)
  (ht:∀C fp s₀ H₀,MM (lK X scope C fp s₀ H₀ N') ifs tc) (he:∀C fp s₀ H₀,PE (lK X scope C fp s₀ H₀ N') elt te)
  (R:∀D,H D=none->∃W:Nat->Nat->List V->Hp->Prop,(∃m,W 0 m [] (upd H D (.lst []))) /\
   ∀i m ys H2,W i m ys H2->H2 D=some (.lst ys)/\((J.stop i H2/\Q (.ref D) H2)\/(J.go i H2/\ys.length<sizeLine/\∀x H3,J.yld i H2 x H3 ->
    tc (some x::slots σ js) H3 λb H4=>if b=true then te (some x::slots σ js) H4 λy H5=>H5 D=some (.lst ys)/\∃m',m' < m/\W (i+1) m' (ys++[y]) (upd H5 D (.lst (ys++[y])))
     else H4 D=some (.lst ys)/\∃m',m' < m/\W (i+1) m' ys H4)))
  (hRR:∀(D:Addr) (H3:Hp) (s3:Shared) (σ':St) (H':Hp) (s':Shared),bY X pins σ H3 s3->(∀b∈fp,iQ X pins H3 b)->bY (lK X scope s3.heap.objs.size fp s3 H3 N') [] σ' H' s'->Q (.ref D) H'->RR (.ref D) s3.heap.objs.size (.ok .next) s') :
  wpAny (model X.prog X.w) X.A (newList []) (λacc s₃=>wpAny (model X.prog X.w) X.A (newFunctionEnv scope X.env.globals (CD X scope) [] X.env.qual none .none (some X.env)) (λcenv s₄ =>
   codeAny (model X.prog X.w) X.A (.compStart (.ListComp elt [⟨.Name x px,iter,ifs,0⟩] scope pos) 0 (.ref it) acc { cenv with scope:=relabel scope X.env }) (RR acc cenv.locals) s₄) E s₃) E s:=by
 have hb:∀b∈fp,b<s.heap.objs.size:=λb hb=>by
  obtain ⟨o,e,_⟩:=T.obj 0 _ h0 b hb;exact aY e
 refine wpAny_newObj_type (wpAny_newFunctionEnv S.cell (by intro y hy;simp at hy) (λh₁ hns₁ hsb₁=>?_) S.kind);have hDn:H s.heap.objs.size=none:=I.hok.fresh (aK _);obtain ⟨W,⟨m0,hw0⟩,hW⟩:=R _ hDn;have I3:bY X pins σ (upd H s.heap.objs.size (.lst [])) { s with heap:=s.heap.push { cls:=.type "list",dict:=none,data:=.seq ([]:List Value).toArray } }:=I.lnew (its:=[]) (ys:=[]) (t':=s.toks) .nil (cB _);have hf3:∀b∈fp,iQ X pins (upd H s.heap.objs.size (.lst [])) b:=λb hb' =>
  ⟨by rw [bU (λe=>by have:=hb b hb';rw [e] at this;exact cP _ this)];exact (hf b hb').1,(hf b hb').2⟩
 have hb3:∀b∈fp,b<(s.heap.push { cls:=.type "list",dict:=none,data:=.seq ([]:List Value).toArray }).objs.size:=λb hb'=>by
  rw [Heap.size_push];exact Nat.lt_succ_of_lt (hb b hb')
 have hkeep:∀b o,(s.heap.push { cls:=.type "list",dict:=none,data:=.seq ([]:List Value).toArray }).get? b=some o->h₁.get? b=some o:=λb o e =>
  hsb₁.extBut b o (λq=>by have:=aY e;rw [q] at this;exact cP _ this) (aB _ e)
 have J4:=QC (h':=h₁) (tk:=s.toks+([]:List (Str × Value)).length) S I3 hf3 hb3 hns₁ hkeep;have t4:tn 0 h₁:=T.keep 0 _ _ h0 λb hb' o e=>hkeep b o (aB _ e);have loop:codeAny (model X.prog X.w) X.A (.compLoop (.ListComp elt [⟨.Name x px,iter,ifs,0⟩] scope pos) 0 (.ref it) (.ref s.heap.objs.size) (compEnvC scope (CD X scope) (s.heap.push { cls:=.type "list",dict:=none,data:=.seq ([]:List Value).toArray }).objs.size X.env))
   (RR (.ref s.heap.objs.size) (s.heap.push { cls:=.type "list",dict:=none,data:=.seq ([]:List Value).toArray }).objs.size) { s with heap:=h₁,toks:=s.toks+([]:List (Str × Value)).length }:=by
  refine pH (λn s'=>∃(i:Nat) (ys:List V) (H2:Hp) (o:Option V),bY (lK X scope _ fp _ _ N') [] (o::slots σ js) H2 s'/\tn i s'.heap/\(∀b∈fp,H2 b=none)/\W i n ys H2) ?_ m0 ⟨0,[],_,none,J4,t4,λb hb'=>(hf3 b hb').1,hw0⟩;rintro n s' ⟨i,ys,H2,o,J2,t2,f2,w2⟩;obtain ⟨hD,hcase⟩:=hW i n ys H2 w2;have Fp:∀b∈fp,iQ (lK X scope (s.heap.push { cls:=.type "list",dict:=none,data:=.seq ([]:List Value).toArray }).objs.size fp { s with heap:=s.heap.push { cls:=.type "list",dict:=none,data:=.seq ([]:List Value).toArray } } (upd H s.heap.objs.size (.lst [])) N') [] H2 b:=λb hb' =>
   ⟨f2 b hb',(J2.ok.exf b hb').1,J2.ok.exfs b hb',.inl hb',(J2.ok.exf b hb').2,λp hp=>by cases hp⟩
  rcases hcase with ⟨hstop,hq⟩ | ⟨hgo,hz,hturn⟩
  ·refine wpAny_mono (T.done (lK X scope _ fp _ _ N') rfl rfl rfl rfl i [] s' _ H2 MN J2 Fp t2 hstop) (λr s1 ⟨hr,J5⟩=>?_) λ_ _ f=>f;subst hr;exact hRR _ _ _ _ _ _ I3 hf3 J5 hq
  ·refine wpAny_mono (T.item (lK X scope _ fp _ _ N') rfl rfl rfl rfl i [] s' _ H2 MN J2 Fp t2 hgo) (λr s1 ⟨u,hr,hx⟩=>?_) λ_ _ f=>f;subst hr;refine wpAny_mono hx (λ_ s2 ⟨v,H3,J3,rv,hy,t3,f3⟩=>?_) λ_ _ f=>f;have Fp3:∀b∈fp,iQ (lK X scope (s.heap.push { cls:=.type "list",dict:=none,data:=.seq ([]:List Value).toArray }).objs.size fp { s with heap:=s.heap.push { cls:=.type "list",dict:=none,data:=.seq ([]:List Value).toArray } } (upd H s.heap.objs.size (.lst [])) N') [] H3 b:=λb hb' =>
    ⟨f3 b hb',(J3.ok.exf b hb').1,J3.ok.exfs b hb',.inl hb',(J3.ok.exf b hb').2,λp hp=>by cases hp⟩
   have P3:=J3.pinned Fp3 (T.obj (i+1) _ t3);have keepT:∀{σ':St} {Hx:Hp} {sx:Shared},bY (lK X scope (s.heap.push { cls:=.type "list",dict:=none,data:=.seq ([]:List Value).toArray }).objs.size fp { s with heap:=s.heap.push { cls:=.type "list",dict:=none,data:=.seq ([]:List Value).toArray } } (upd H s.heap.objs.size (.lst [])) N') ([]++pW fp s2.heap) σ' Hx sx->tn (i+1) sx.heap/\∀b∈fp,Hx b=none:=λJx =>
    ⟨T.keep (i+1) _ _ t3 λb hb' ob e=>(Jx.pin (b,ob) (aG _ (aG _ (iD hb' e)))).1,λb hb'=>by
     obtain ⟨ob,e,_⟩:=T.obj (i+1) _ t3 b hb';exact (Jx.pin (b,ob) (aG _ (aG _ (iD hb' e)))).2.1⟩
   refine wpAny_assign_Name (lT P3 (i:=0) (x:=x) (v:=v) ?nd ?hi ?hx rv (λs5 J5=>?_) ?hfn)
   case nd=>exact S.nd
   case hi=>exact S.zero
   case hx=>exact .inl (lookup_relabel_local S.own)
   case hfn=>exact .inr (lookup_relabel_local S.own)
   have J5':bY _ _ (some v::slots σ js) H3 s5:=J5;refine wpAny_mono (ht _ _ _ _ _ _ _ _ _ J5' (hturn v H3 hy)) (λok s6 ⟨H6,J6,q6⟩=>?_) λ_ _ f=>f;dsimp only at q6;by_cases hok:ok=true
   ·rw [if_pos hok] at q6 ⊢;refine wpAny_mono (he _ _ _ _ _ _ _ _ _ J6 q6) (λy s7 ⟨w',H7,J7,r7,hD7,m',hm',w7⟩=>?_) λ_ _ f=>f;refine wpAny_mono (qA (X:=lK X scope _ fp _ _ N') _ _ _ _ (.ref s.heap.objs.size) [w'] (.ref s.heap.objs.size) [y] (λ_ H8=>H8=upd H7 s.heap.objs.size (.lst (ys++[w']))) J7 rfl (.cons r7 .nil) ⟨_,_,_,rfl,rfl,hD7,hz,rfl⟩) (λ_ s8 ⟨_,H8,J8,_,e8⟩=>?_) λ_ _ f=>f;subst e8;obtain ⟨k1,k2⟩:=keepT J8;exact ⟨m',hm',i+1,ys++[w'],_,some v,J8.unpinned,k1,k2,w7⟩
   ·rw [if_neg hok] at q6 ⊢;obtain ⟨_,m',hm',w7⟩:=q6;obtain ⟨k1,k2⟩:=keepT J6;exact ⟨m',hm',i+1,ys,_,some v,J6.unpinned,k1,k2,w7⟩
 refine codeAny_compStart_list loop (T.self X.A 0 _ _ _ t4 loop)
theorem OQ{wi:TI}(S:eA X scope x N' js)(hi:PI X (.Name x px) iter wi)(ht:∀C fp s₀ H₀,MM (lK X scope C fp s₀ H₀ N') ifs tc)(he:∀C fp s₀ H₀,PE (lK X scope C fp s₀ H₀ N') elt te)
  (hs:∀x,foldedSetIterable iter X.env x=pure x:=by intro _;rfl):PE X (.ListComp elt [⟨.Name x px,iter,ifs,0⟩] scope pos) (YA wi js tc te):=by
 intro pins s σ H Q I h;rw [eval_ListComp];refine wpAny_comprehension_free (use:=none) rfl hs (nG (S.cells I.ok)) S.kind S.names (wpAny_mono (hi pins s σ H _ I h) (λv s1 h1=>?_) λ_ _ e=>e);refine wpAny_mono h1 (λitv s2 ⟨it,fp,tn,J,H2,e,I2,T,t0,hf,R⟩=>?_) λ_ _ e=>e;subst e;refine CB S I2 T t0 hf ht he R ?_;intro D H3 s3 σ' H' s' I3 hf3 J3 q;obtain ⟨m,hm,_⟩:=J3.loc;exact ⟨m,hm,λh' hs'=>⟨.ref D,H',LH S I3 hf3 J3 hs',rfl,q⟩⟩
end
structure QQ(X:Cx)(ifs:List Expr)(t:TT):Prop where p:MM X ifs t
def wA(t:TE):TE:=λσ H Q=>∃Q':VK,t σ H Q'/\∀v H1,Q' v H1->Q v H1
theorem PE.mono{X:Cx}{e:Expr}{t:TE}(h:PE X e t):PE X e (wA t):=λpins s σ H Q I ⟨Q',h1,h2⟩ =>
 thn (h pins s σ H Q' I h1) λb s' ⟨v,H',I',r,q⟩=>⟨v,H',I',r,h2 _ _ q⟩
theorem MM.mono{X:Cx}{es:List Expr}{t:TT}(h:MM X es t):MM X es (oF t):=λpins s σ H Q I ⟨Q',h1,h2⟩ =>
 thn (h pins s σ H Q' I h1) λb s' ⟨H',I',q⟩=>⟨H',I',h2 _ _ q⟩
@[irreducible] def iR(J:It)(σ:St)(js:List Nat)(tc:TT)(te:TE)(H1:Hp)(Q:VK):Prop:=∀D,H1 D=none->∃W:Nat->Nat->List V->Hp->Prop,(∃m,W 0 m [] (upd H1 D (.lst []))) /\
 ∀i m ys H2,W i m ys H2->H2 D=some (.lst ys)/\((J.stop i H2/\Q (.ref D) H2)\/(J.go i H2/\ys.length<sizeLine/\∀x H3,J.yld i H2 x H3 ->
  oF tc (some x::slots σ js) H3 λb H4=>if b=true then wA te (some x::slots σ js) H4 λy H5=>H5 D=some (.lst ys)/\∃m',m' < m/\W (i+1) m' (ys++[y]) (upd H5 D (.lst (ys++[y])))
   else H4 D=some (.lst ys)/\∃m',m' < m/\W (i+1) m' ys H4))
def IP(wi:TI)(js:List Nat)(tc:TT)(te:TE):TE:=λσ H Q=>wi σ H λJ H1=>iR J σ js tc te H1 Q
section
variable{X:Cx}{scope:Scope}{x y:Str}{N':List Str}{js:List Nat}{elt iter c:Expr}{px py pos spos:Pos}{ifs:List Expr}{tc:TT}{te:TE}{wi:TI}{i:Nat}
theorem gH:QQ X [] sK:=⟨pts_nil⟩
theorem rS{t:TT}(h:FD X c t):QQ X [c] t:=⟨OD h.p⟩
theorem eZ(S:eA X scope x N' js)(hi:WZ X (.Name x px) iter wi)(ht:∀C fp s₀ H₀,QQ (lK X scope C fp s₀ H₀ N') ifs tc)(he:∀C fp s₀ H₀,fI (lK X scope C fp s₀ H₀ N') elt te)
  (hs:∀x,foldedSetIterable iter X.env x=pure x:=by intro _;rfl):fI X (.ListComp elt [⟨.Name x px,iter,ifs,0⟩] scope pos) (IP wi js tc te) :=
 ⟨by unfold IP iR;exact OQ S hi.p (λC fp s₀ H₀=>(ht C fp s₀ H₀).p.mono) (λC fp s₀ H₀=>(he C fp s₀ H₀).p.mono) hs⟩
end
def SF(psc scope:Scope)(N:List Str)(x:Str)(N':List Str)(js:List Nat):Bool :=
 (scope.names.all λy=>!(y.2 == .free) || psc.names.lookup y.1 == some .cell)&&(scope.names.all λy=>!(y.2 == .cell))&&scope.kind == .function &&
 (scope.names.all λy=>!(y.2 == .local) || scope.names.lookup y.1 == some .local)&&scope.names.lookup x == some .local &&
 (scope.names.all λy=>!(y.2 == .free) || !(scope.names.lookup y.1 == some .local))&&N'.length == js.length+1&&N'[0]? == some x&&decide N'.Nodup &&
 ((List.range js.length).all λi=>match js[i]?,N'[i+1]? with
  | some j,some y=>N[j]? == some y&&scope.names.contains (y,NameKind.free)
  | _,_=>false)
theorem eA.of{X:Cx}{psc scope:Scope}{N:List Str}{x:Str}{N':List Str}{js:List Nat}(h:SF psc scope N x N' js=true)(hX:X.env.scope=psc)(hN:X.N=N)(hc:X.calm=true):eA X scope x N' js:=by
 unfold SF at h;simp only [aQ] at h;obtain ⟨⟨⟨⟨⟨⟨⟨⟨⟨h1,h2⟩,h3⟩,h4⟩,h5⟩,h6⟩,h7⟩,h8⟩,h9⟩,h10⟩:=h;rw [List.all_eq_true] at h1 h2 h4 h6 h10;refine ⟨hc,λy hy e=>?_,λy hy e=>?_,by simpa using h3,λy hy e=>?_,by simpa using h5,λy hy e=>?_,by simpa using h7,by simpa using h8,of_decide_eq_true h9,λi j hj=>?_⟩
 ·have:=h1 y hy;rw [e] at this;show X.env.scope.names.lookup y.1=_;rw [hX];simpa using this
 ·have:=h2 y hy;rw [e] at this;simp at this
 ·have:=h4 y hy;rw [e] at this;simpa using this
 ·have:=h6 _ hy;rw [e] at this;simp at this
 ·have hi:i<js.length:=(bN.mp hj).1;have:=h10 i (cU.mpr hi);rw [hj] at this;cases q:N'[i+1]? with
  | none=>rw [q] at this;simp at this
  | some y =>
   rw [q] at this;simp only [aQ] at this;exact ⟨y,rfl,by rw [hN];simpa using this.1,List.contains_iff_mem.mp this.2⟩
section
variable{js:List Nat}{te:TE}{tc:TT}{σ:St}{H:Hp}{Q:VK}
theorem zN{J:It}{n:Nat}(src:Nat->V->Prop)(hz:n<=100000)(Pv:Addr->Nat->List V->Hp->Prop)
  (h0:∀D H1,H D=none->H1 D=some (.lst [])->aX H H1->Pv D 0 [] H1)
  (hg:∀D i ys H',i<n->H' D=some (.lst ys)->Pv D i ys H'->J.go i H'/\∀x H3,J.yld i H' x H3->H3=H'/\src i x)
  (hst:∀D ys H',H' D=some (.lst ys)->Pv D n ys H'->J.stop n H')
  (hs:∀D i x ys H',src i x->i<n->ys.length=i->H' D=some (.lst ys)->Pv D i ys H'->te (some x::slots σ js) H' λy H5=>H5 D=some (.lst ys)/\∀H6,H6 D=some (.lst (ys++[y]))->aT D H5 H6->Pv D (i+1) (ys++[y]) H6)
  (hd:∀D ys H',ys.length=n->H D=none->H' D=some (.lst ys)->Pv D n ys H'->Q (.ref D) H') :
  iR J σ js sK te H Q:=by
 unfold iR;intro D hD;refine ⟨λi m ys H'=>m=n-i/\i<=n/\ys.length=i/\H' D=some (.lst ys)/\Pv D i ys H',⟨n,by simp,cB _,rfl,bL,h0 D _ hD bL (aX.upd hD)⟩,?_⟩;rintro i m ys H2 ⟨rfl,hi,hy,hD2,p⟩;refine ⟨hD2,?_⟩;by_cases hlt:i<n
 ·obtain ⟨g1,g2⟩:=hg D i ys H2 hlt hD2 p;refine .inr ⟨g1,bI (m:=100000) Oo Dd,λx H3 hy3=>?_⟩;obtain ⟨rfl,hx⟩:=g2 x H3 hy3;refine ⟨λb H4=>b=true/\H4=H3,⟨rfl,rfl⟩,?_⟩;rintro b H4 ⟨rfl,rfl⟩;rw [if_pos rfl];refine ⟨_,hs D i x ys H4 hx hlt hy hD2 p,?_⟩;rintro v H5 ⟨hD5,k⟩;exact ⟨hD5,n-(i+1),Oo,rfl,hlt,by rw [aI,hy];rfl,bL,k _ bL aT.self⟩
 ·have e:i=n:=Oo;subst e;exact .inl ⟨hst D ys H2 hD2 p,hd D ys H2 hy hD hD2 p⟩
end
@[irreducible] def JJ(K:PySem.W.Frag):List V->Hp->VK->Prop:=λxs H Q=>∃(p:Addr) (ns:List Int),xs=[.ref p]/\gG K H p (ns.map V.int)/\Q (.int ns.sum) H
@[irreducible] def GB(b:Bool):R2:=λx y H Q=>∃d d',bR H d x/\bR H d' y/\SeqAt.shaped d=true/\SeqAt.shaped d'=true/\Q (.bl (b == PyData.eqv d d')) H
section
variable{X:Cx}
theorem LN(hc:X.calm=true):eW X (.builtin "sum") (JJ X.K):=by
 unfold JJ;intro pins s σ H xs us Q I r h;obtain ⟨p,ns,rfl,hq,q⟩:=h;obtain ⟨u,rfl,rx⟩:=iG r;cases rx;obtain ⟨its,r',pl,hz⟩:=I.list hq;have hi:=nU r';obtain ⟨xs',e⟩:=hi.allInts.items;rw [e] at pl;refine sum_intListG (I.ok.hd hc) pl.isList λh' tk t' hk=>⟨.int ns.sum,H,I.kept hk,⟨t',?_⟩,q⟩;rw [preSum_eq,List.take_of_length_le (by simp)];rw [<-hi.numsOf];have e2:its=(intItems xs').toList:=by rw [<-e]
 rw [e2,nums_intItems]
theorem rsI{K:PySem.W.Frag}{H:Hp}{p:Addr}{ns:List Int}{Q:VK}(h:gG K H p (ns.map V.int))(q:Q (.int ns.sum) H):JJ K [.ref p] H Q:=by unfold JJ;exact ⟨p,ns,rfl,h,q⟩
theorem nR(hu:X.A.units+64<cLine):lN X (compareOp .Eq) (GB true):=by
 unfold GB;intro pins s σ H x y v u Q I rx ry h;obtain ⟨d,d',h1,h2,s1,s2,q⟩:=h;obtain ⟨as,ra⟩:=h1.reads I rx;obtain ⟨bs,rb⟩:=h2.reads I ry;exact SeqAt.compareEq_shaped ra rb s1 s2 hu ⟨.bl _,H,I,by show _=_;simp,q⟩
theorem KA(hu:X.A.units+64<cLine):lN X (compareOp .NotEq) (GB false):=by
 unfold GB;intro pins s σ H x y v u Q I rx ry h;obtain ⟨d,d',h1,h2,s1,s2,q⟩:=h;obtain ⟨as,ra⟩:=h1.reads I rx;obtain ⟨bs,rb⟩:=h2.reads I ry;exact SeqAt.compareNe_shaped ra rb s1 s2 hu ⟨.bl _,H,I,by show _=_;simp,q⟩
theorem NQ{b:Bool}{x y:V}{d d':PyData}{H:Hp}{Q:VK}(h1:bR H d x)(h2:bR H d' y)(s1:SeqAt.shaped d=true)(s2:SeqAt.shaped d'=true)(q:Q (.bl (b == PyData.eqv d d')) H):GB b x y H Q:=by
 unfold GB;exact ⟨d,d',h1,h2,s1,s2,q⟩
end
mutual
def fR:PyData->Bool
 | .list _=>false
 | .dict _=>false
 | .tuple ds=>fZ ds
 | _=>true
def fZ:List PyData->Bool
 | []=>true
 | d::ds=>fR d&&fZ ds
end
def eY(H H':Hp):Prop:=∀b xs,H b=some (.tup xs)->H' b=some (.tup xs)
theorem eY.trans{H H1 H2:Hp}(a:eY H H1)(b:eY H1 H2):eY H H2:=λc o h=>b c o (a c o h)
theorem aX.t{H H':Hp}(s:aX H H'):eY H H':=λb xs h=>s _ _ h
theorem aT.t{H H':Hp}{p:Addr}(s:aT p H H'){xs:List V}(hp:H p=some (.lst xs)):eY H H':=λb ys h=>s.at (sW h hp (by intro z;cases z)) h
mutual
theorem bR.flat{H H':Hp}(s:eY H H'):∀{d:PyData}{v:V},fR d=true->bR H d v->bR H' d v
 | .none,_,_,h=>h
 | .bool _,_,_,h=>h
 | .int _,_,_,h=>h
 | .str _,_,_,h=>h
 | .list _,_,f,_=>by simp [fR] at f
 | .dict _,_,f,_=>by simp [fR] at f
 | .tuple ds,_,f,h=>by
  unfold bR at h ⊢;obtain ⟨a,ys,rfl,h1,h2⟩:=h;exact ⟨a,ys,rfl,s _ _ h1,aL.flat s (by simpa [fR] using f) h2⟩
theorem aL.flat{H H':Hp}(s:eY H H'):∀{ds:List PyData}{vs:List V},fZ ds=true->aL H ds vs->aL H' ds vs
 | [],_,_,h=>h
 | d::ds,_,f,h=>by
  unfold aL at h ⊢;obtain ⟨x,ys,rfl,h1,h2⟩:=h;simp only [fZ,aQ] at f;exact ⟨x,ys,rfl,bR.flat s f.1 h1,aL.flat s f.2 h2⟩
end
theorem aL.get{H:Hp}:∀{ds:List PyData}{vs:List V}{i:Nat}{v:V},aL H ds vs->vs[i]?=some v->∃d,ds[i]?=some d/\bR H d v
 | [],_,i,v,h,e=>by cases (show _=[] from h);simp at e
 | d::ds,_,i,v,h,e=>by
  unfold aL at h;obtain ⟨x,ys,rfl,h1,h2⟩:=h;cases i with
  | zero=>simp at e;subst e;exact ⟨d,rfl,h1⟩
  | succ i =>
   rw [List.getElem?_cons_succ] at e ⊢;exact aL.get h2 e
theorem aL.get'{H:Hp}:∀{ds:List PyData}{vs:List V}{i:Nat}{d:PyData},aL H ds vs->ds[i]?=some d->∃v,vs[i]?=some v/\bR H d v
 | [],_,i,d,h,e=>by simp at e
 | d' :: ds,_,i,d,h,e=>by
  unfold aL at h;obtain ⟨x,ys,rfl,h1,h2⟩:=h;cases i with
  | zero=>simp at e;subst e;exact ⟨x,rfl,h1⟩
  | succ i =>
   rw [List.getElem?_cons_succ] at e ⊢;exact aL.get' h2 e
theorem aL.snoc{H:Hp}{ds:List PyData}{vs:List V}{d:PyData}{v:V}(h:aL H ds vs)(r:bR H d v):aL H (ds++[d]) (vs++[v]):=aL.append (aL.cons r aL.nil) h
theorem xI{i:Int}{n:Nat}(h:i.natAbs<2^n):bits i<=n:=PySem.intBits_le_iff.mpr h
theorem GK{i j:Int}{n m:Nat}(h1:i.natAbs<2^n)(h2:j.natAbs<2^m)(hn:n<=1048576:=by decide)(hm:m<=1048576:=by decide):IntMulOk i j:=by
 refine IntMulOk.of_bits ?_ ?_
 ·exact bC (xI h1) hn
 ·exact bC (xI h2) hm
mutual
def MH:PyData->Nat
 | .none=>4
 | .bool _=>5
 | .int _=>1921
 | .str x=>(reprText x).length
 | .list xs=>pR xs+4
 | .tuple xs=>pR xs+4
 | .dict _=>0
def pR:List PyData->Nat
 | []=>0
 | x::xs=>MH x+2+pR xs
end
theorem qS:∀(ts:List Str) (k:Nat) (acc:Str),(textFrom k acc ts).length<=acc.length+piled ts
 | [],k,acc=>by show acc.length<=_;omega
 | t::r,k,acc=>by
  have h:=qS r (k+1) (acc++(if k > 0 then ", " else "" : String)++t);have e:(acc++(if k > 0 then ", " else "" : String)++t).length=acc.length+(if k > 0 then 2 else 0)+t.length:=by
   rw [strLen_append,strLen_append];split <;> rfl
  rw [e] at h;rw [piled_cons];show (textFrom (k+1) _ r).length<=_;refine bC h ?_;split <;> omega
theorem vY(ts:List Str):(tupleText ts).length<=piled ts+4:=by
 unfold tupleText;rw [strLen_append,strLen_append];have e1:(("(" : Str)).length=1:=rfl;have e2:((if ts.length == 1 then ",)" else ")" : String):Str).length<=2:=by split <;> decide
 rw [e1];by_cases h:ts=[]
 ·subst h;have:(Str.join ", " []).length=0:=rfl;omega
 ·have:=join_length_add ts h;omega
theorem yU(ts:List Str):(listText ts).length<=piled ts+4:=by
 unfold listText;rw [strLen_append];have:=qS ts 0 "[";have e1:(("[" : String):Str).length=1:=rfl;have e2:(("]" : String):Str).length=1:=rfl;rw [e1] at this;rw [e2];omega
mutual
theorem oS:∀d:PyData,d.showable=true->d.hasDict=false->d.shown.length<=MH d
 | .none,_,_=>by simp only [PyData.shown,MH];decide
 | .bool b,_,_=>by cases b <;> (simp only [PyData.shown,MH];decide)
 | .int i,h,_=>by
  simp only [PyData.shown,MH];exact int_text_len_1921 (by simpa [PyData.showable] using h)
 | .str x,_,_=>by simp only [PyData.shown,MH];exact aK _
 | .list xs,h,h2=>by
  simp only [PyData.shown,MH];have:=mF xs (by simpa [PyData.showable] using h) (by simpa [PyData.hasDict] using h2);have:=yU (PyData.shownAll xs);omega
 | .tuple xs,h,h2=>by
  simp only [PyData.shown,MH];have:=mF xs (by simpa [PyData.showable] using h) (by simpa [PyData.hasDict] using h2);have:=vY (PyData.shownAll xs);omega
 | .dict _,_,h=>by simp [PyData.hasDict] at h
theorem mF:∀ds:List PyData,PyData.showableAll ds=true->PyData.hasDictAll ds=false->piled (PyData.shownAll ds)<=pR ds
 | [],_,_=>by simp only [PyData.shownAll,pR];exact aK _
 | d::ds,h,h2=>by
  simp only [PyData.showableAll,aQ] at h;simp only [PyData.hasDictAll,Bool.or_eq_false_iff] at h2;have:=oS d h.1 h2.1;have:=mF ds h.2 h2.2;simp only [PyData.shownAll,pR,piled_cons];omega
end
theorem NF{i:Int}{n:Nat}(h:i.natAbs<2^n)(hn:n<=1920:=by decide):PyData.showable (.int i)=true:=by
 simp only [PyData.showable];refine aM (qZ (bC (xI h) hn) Dd)
section
variable{X:Cx}(K:PySem.W.Frag)
theorem oZ(h:X.K=K:=by rfl):MD X (YR K):=by subst h;exact cG
theorem QG(hc:X.calm=true)(h:X.K=K:=by rfl):eW X (.builtin "sum") (JJ K):=by subst h;exact LN hc
end
end L2
namespace L2
open PySem
section
variable{prog:Program}{w:World}{A:Around}{E:Value->Shared->Prop}{s:Shared}
end
end L2
namespace L2
open PySem PySem.Spec PyProof.Rows
section
variable{X:Cx}{pins:List (Addr × Obj)}{σ:St}{H:Hp}{s:Shared}{h':Heap}
theorem bY.turnedL{t':Nat}{fp:List Addr}(I:bY X pins σ H s)(k:∀b o,b ∉ fp->s.heap.get? b=some o->h'.get? b=some o)(hf:∀b∈fp,iQ X pins H b):bY X pins σ H { s with heap:=h',toks:=t' }:=by
 have nit:∀b u,H b=some u->b ∉ fp:=λb u e z=>by rw [(hf b z).1] at e;cases e
 refine I.step (g':=s.gens) (d':=s.drawn) (ch:=fp) (λb hb=>?_) (λb o _ _ hc e _=>k b o hc e) (λb o _ _ hc e _=>⟨o.slots,k b o hc e⟩) (λ_ _ _ _ n=>n)
  (λb o hc e=>⟨o,k b o hc e⟩) (λ_ _ e=>e) (λ_ _ _ e=>e) (λb ps e=>⟨#[],by rw [e];simp⟩) (λm hm=>?_) (λb u e=>?_) I.bare
 ·obtain ⟨f0,f1,f2,f3,f4,f5⟩:=hf b hb;exact ⟨f3,f1,f4,f5⟩
 ·obtain ⟨o,es,ep,ho,r⟩:=hm;exact ⟨o,es,ep,k _ o (λz=>(hf _ z).2.1 rfl) ho,r⟩
 ·refine (I.hok b u e).stay (λc v hc q=>k c v ?_ q) (λ_ q=>q) λ_ _ q=>q;rcases hc with z | z
  ·rw [z];exact nit b u e
  ·exact nit c _ z
end
section
variable{prog:Program}{w:World}{A:Around}{E:Value->Shared->Prop}{s:Shared}
end
section
variable{X:Cx}
end
end L2
namespace L2
open PySem
def lH:List Value->List Int->Bool
 | [],[]=>true
 | .int i _::vs,n::ns=>decide (i=n)&&lH vs ns
 | _,_=>false
def wX(K:PySem.W.Frag)(a:Addr)(ns:List Int):Bool :=
 match K.lookup a with
 | some o=>(match o.cls with | .type n=>n == "tuple" | _=>false)&&(match o.data with | .seq xs _=>decide (xs.size<=64)&&lH xs.toList ns | _=>false)
 | none=>false
theorem lH.vals:∀{vs:List Value}{ns:List Int},lH vs ns=true->cJ (ns.map V.int) vs
 | [],[],_=>.nil
 | v::vs,n::ns,h=>by
  cases v with
  | int i t =>
   have h':(decide (i=n)&&lH vs ns)=true:=h;rw [aQ] at h';have e:=of_decide_eq_true h'.1;subst e;exact .cons ⟨t,rfl⟩ (lH.vals h'.2)
  | _=>cases h
 | [],_::_,h=>by cases h
 | v::_,[],h=>by cases v <;> cases h
theorem IV{K:PySem.W.Frag}{H:Hp}{a:Addr}{ns:List Int}(h:wX K a ns=true):eI K H a (ns.map V.int):=by
 unfold wX at h;split at h
 ·rename_i o ho
  rw [aQ] at h;obtain ⟨h1,h2⟩:=h;split at h1
  ·rename_i n hn
   split at h2
   ·rename_i xs m hx
    rw [aQ] at h2;have e:n = "tuple" := by simpa using h1
    subst e;exact .inr ⟨o,xs,m,ho,hn,hx,oR (of_decide_eq_true h2.1),lH.vals h2.2⟩
   ·cases h2
  ·cases h1
 ·cases h
theorem eI.keep{K:PySem.W.Frag}{H H':Hp}{a:Addr}{xs:List V}(s:aX H H')(h:eI K H a xs):eI K H' a xs:=by
 rcases h with (h | ⟨o,h⟩) | h
 ·exact .inl (.inl (s _ _ h))
 ·exact .inl (.inr ⟨o,s _ _ h⟩)
 ·exact .inr h
mutual
def cO(K:PySem.W.Frag)(H:Hp):PyData->V->Prop
 | .none,v=>v=.non
 | .bool b,v=>v=.bl b
 | .int i,v=>v=.int i
 | .str x,v=>v=.str x
 | .list ds,v=>∃a xs,v=.ref a/\H a=some (.lst xs)/\cV K H ds xs
 | .tuple ds,v=>∃a xs,v=.ref a/\eI K H a xs/\cV K H ds xs
 | .dict kvs,v=>kvs=[]/\∃a,v=.ref a/\H a=some (.dK [])
def cV(K:PySem.W.Frag)(H:Hp):List PyData->List V->Prop
 | [],vs=>vs=[]
 | d::ds,vs=>∃x xs,vs=x::xs/\cO K H d x/\cV K H ds xs
end
mutual
theorem bR.k{K:PySem.W.Frag}{H:Hp}:∀{d:PyData}{v:V},bR H d v->cO K H d v
 | .none,_,h=>h
 | .bool _,_,h=>h
 | .int _,_,h=>h
 | .str _,_,h=>h
 | .list ds,_,h=>by
  unfold bR at h;unfold cO;obtain ⟨a,xs,rfl,h1,h2⟩:=h;exact ⟨a,xs,rfl,h1,aL.k h2⟩
 | .tuple ds,_,h=>by
  unfold bR at h;unfold cO;obtain ⟨a,xs,rfl,h1,h2⟩:=h;exact ⟨a,xs,rfl,eI.of h1,aL.k h2⟩
 | .dict kvs,_,h=>by unfold bR at h;unfold cO;exact h
theorem aL.k{K:PySem.W.Frag}{H:Hp}:∀{ds:List PyData}{vs:List V},aL H ds vs->cV K H ds vs
 | [],_,h=>h
 | d::ds,_,h=>by
  unfold aL at h;unfold cV;obtain ⟨x,xs,rfl,h1,h2⟩:=h;exact ⟨x,xs,rfl,bR.k h1,aL.k h2⟩
end
theorem cO.tup{K:PySem.W.Frag}{H:Hp}{a:Addr}{xs:List V}{ds:List PyData}(h:eI K H a xs)(r:cV K H ds xs):cO K H (.tuple ds) (.ref a):=by
 unfold cO;exact ⟨a,xs,rfl,h,r⟩
theorem cV.ints{K:PySem.W.Frag}{H:Hp}:∀ns:List Int,cV K H (ns.map PyData.int) (ns.map V.int)
 | []=>by unfold cV;rfl
 | n::ns=>by unfold cV;exact ⟨_,_,rfl,by unfold cO;rfl,cV.ints ns⟩
section
variable{X:Cx}{pins:List (Addr × Obj)}{σ:St}{H:Hp}{s:Shared}
mutual
theorem cO.reads(I:bY X pins σ H s):∀{d:PyData}{v:V}{u:Value},cO X.K H d v->cW v u->∃as,Reads s.heap u d as
 | .none,_,u,h,r=>by
  cases (show _=V.non from h);cases (show u=Value.none from r);exact ⟨_,.none⟩
 | .bool b,_,u,h,r=>by
  cases (show _=V.bl b from h);cases (show u=Value.bool b from r);exact ⟨_,.bool b⟩
 | .int b,_,u,h,r=>by
  cases (show _=V.int b from h);obtain ⟨t,q⟩:=(show ∃t,u=Value.int b t from r);cases q;exact ⟨_,.int b t⟩
 | .str b,_,u,h,r=>by
  cases (show _=V.str b from h);obtain ⟨t,q⟩:=(show ∃t,u=Value.str b t from r);cases q;exact ⟨_,.str b t⟩
 | .list ds,v,u,h,r=>by
  unfold cO at h;obtain ⟨a,xs,rfl,h1,h2⟩:=h;cases (show u=Value.ref a from r);obtain ⟨_,its,n,r',e⟩:=(show dL X.prog X.w H s.heap a (.lst xs) from I.hok a _ h1);obtain ⟨as,q⟩:=cV.reads I h2 r';exact ⟨_,.list e rfl rfl (by simpa using q)⟩
 | .tuple ds,v,u,h,r=>by
  unfold cO at h;obtain ⟨a,xs,rfl,h1,h2⟩:=h;cases (show u=Value.ref a from r);obtain ⟨its,r',⟨o,e,hc,n,hd⟩,_⟩:=I.tuple h1;obtain ⟨as,q⟩:=cV.reads I h2 r';exact ⟨_,.tuple e hc hd (by simpa using q)⟩
 | .dict kvs,v,u,h,r=>bR.reads I (d:=.dict kvs) (by unfold bR;unfold cO at h;exact h) r
theorem cV.reads(I:bY X pins σ H s):∀{ds:List PyData}{vs:List V}{us:List Value},cV X.K H ds vs->cJ vs us->∃as,ReadsAll s.heap us ds as
 | [],_,us,h,r=>by
  cases (show _=[] from h);cases r;exact ⟨_,.nil⟩
 | d::ds,_,us,h,r=>by
  unfold cV at h;obtain ⟨x,xs,rfl,h1,h2⟩:=h;cases r with
  | cons r1 r2 =>
   obtain ⟨as,q1⟩:=cO.reads I h1 r1;obtain ⟨bs,q2⟩:=cV.reads I h2 r2;exact ⟨_,.cons q1 q2⟩
end
end
@[irreducible] def NW(K:PySem.W.Frag)(b:Bool):R2:=λx y H Q=>∃d d',cO K H d x/\cO K H d' y/\SeqAt.shaped d=true/\SeqAt.shaped d'=true/\Q (.bl (b == PyData.eqv d d')) H
section
variable{X:Cx}
theorem VA(K:PySem.W.Frag)(hu:X.A.units+64<cLine)(hK:X.K=K:=by rfl):lN X (compareOp .Eq) (NW K true):=by
 subst hK;unfold NW;intro pins s σ H x y v u Q I rx ry h;obtain ⟨d,d',h1,h2,s1,s2,q⟩:=h;obtain ⟨as,ra⟩:=h1.reads I rx;obtain ⟨bs,rb⟩:=h2.reads I ry;exact SeqAt.compareEq_shaped ra rb s1 s2 hu ⟨.bl _,H,I,by show _=_;simp,q⟩
end
section
variable{K:PySem.W.Frag}{H:Hp}{p:Addr}{xs:List V}{i:Int}{v:V}{Q:VK}
theorem reK{b:Bool}{x y:V}{d d':PyData}(h1:cO K H d x)(h2:cO K H d' y)(s1:SeqAt.shaped d=true)(s2:SeqAt.shaped d'=true)(q:Q (.bl (b == PyData.eqv d d')) H):NW K b x y H Q:=by
 unfold NW;exact ⟨d,d',h1,h2,s1,s2,q⟩
theorem sE(h:eI K H p xs)(e:AC xs i=some v)(q:Q v H):YR K (.ref p) (.int i) H Q:=.inr (.inl ⟨p,xs,i,v,rfl,rfl,h,e,q⟩)
theorem rlK(h:eI K H p xs)(q:Q (.int xs.length) H):uI K [V.ref p] H Q:=by unfold uI;exact ⟨_,_,rfl,.inr ⟨xs,h,rfl⟩,q⟩
end
theorem QD(xs:List V)(k:Nat):kA xs (some (k:Int)) none=xs.drop k:=by
 unfold kA;rw [HT.sA,HT.sP];by_cases h:k<=xs.length
 ·rw [Nat.min_eq_left h];exact List.take_of_length_le (by rw [List.length_drop];exact aK _)
 ·rw [Nat.min_eq_right Oo,List.drop_of_length_le (aK _),List.drop_of_length_le Oo,List.take_nil]
theorem ES(xs:List V)(k:Nat):kA xs none (some (k:Int))=xs.take k:=by
 unfold kA;rw [HT.sA,HT.sP,List.drop_zero,Nat.sub_zero];by_cases h:k<=xs.length
 ·rw [Nat.min_eq_left h]
 ·rw [Nat.min_eq_right Oo,List.take_of_length_le (aK _),List.take_of_length_le Oo]
section
variable{σ:St}{js:List Nat}{te:TE}{H:Hp}{Q:VK}
theorem yD{R:Nat->V->Prop}{ys:List V}{y:V}(h:∀(j:Nat) z,ys[j]?=some z->R j z)(r:R ys.length y):∀(j:Nat) z,(ys++[y])[j]?=some z->R j z:=λj z hj=>by
 by_cases hji:j<ys.length
 ·rw [List.getElem?_append_left hji] at hj;exact h j z hj
 ·rw [List.getElem?_append_right Oo] at hj;have:j-ys.length=0:=by
   by_cases q:j-ys.length=0
   ·exact q
   ·rw [dO (by simp;omega)] at hj;cases hj
  rw [this] at hj;have hj':y=z:=by simpa using hj
  have:j=ys.length:=Oo;subst this hj';exact r
theorem mU{J:It}{n:Nat}(src:Nat->V->Prop)(R:Nat->V->Hp->Prop)(hR:∀i y H1 H2,eY H1 H2->R i y H1->R i y H2)(hz:n<=100000)
  (hg:∀i H',aX H H'->i<n->J.go i H'/\∀x H3,J.yld i H' x H3->H3=H'/\src i x) (hst:∀H',aX H H'->J.stop n H')
  (hs:∀i x H' (Q':VK),src i x->i<n->aX H H'->(∀y H5,aX H' H5->R i y H5->Q' y H5)->te (some x::slots σ js) H' Q')
  (hd:∀D ys H',H D=none->H' D=some (.lst ys)->aX H H'->ys.length=n->(∀(i:Nat) (y:V),ys[i]?=some y->R i y H')->Q (.ref D) H'):iR J σ js sK te H Q:=by
 refine zN (J:=J) (n:=n) src hz (λD i ys H'=>H D=none/\aX H H'/\∀(i:Nat) (y:V),ys[i]?=some y->R i y H') (λD H1 hD _ s=>⟨hD,s,λi y h=>by simp at h⟩)
  (λD i ys H' hi _ p=>hg i H' p.2.1 hi) (λD ys H' _ p=>hst H' p.2.1) (λD i x ys H' hx hi hy hD p=>?_) (λD ys H' hy hD hD' p=>hd D ys H' hD hD' p.2.1 hy p.2.2)
 refine hs i x H' _ hx hi p.2.1 λy H5 s5 r=>?_;refine ⟨s5 _ _ hD,λH6 hD6 s6=>⟨p.1,aX.thru p.1 (p.2.1.trans s5) s6,?_⟩⟩;have t6:=s6.t (s5 _ _ hD);exact yD (R:=λj z=>R j z H6) (λj z hj=>hR j z _ _ (s5.t.trans t6) (p.2.2 j z hj)) (by rw [hy];exact hR i y _ _ t6 r)
theorem vN{K:PySem.W.Frag}{a:Addr}{xs:List V}(R:Nat->V->Hp->Prop)(hR:∀i y H1 H2,eY H1 H2->R i y H1->R i y H2)(hz:xs.length<=100000)(hl:H a=some (.lst xs))
  (hs:∀i x H' (Q':VK),xs[i]?=some x->aX H H'->(∀y H5,aX H' H5->R i y H5->Q' y H5)->te (some x::slots σ js) H' Q')
  (hd:∀D ys H',H D=none->H' D=some (.lst ys)->aX H H'->ys.length=xs.length->(∀(i:Nat) (y:V),ys[i]?=some y->R i y H')->Q (.ref D) H'):iR (XG K a) σ js sK te H Q :=
 mU (λi x=>xs[i]?=some x) R hR hz (λi H' s hi=>⟨⟨xs,xs[i],gG.of (s _ _ hl),by simp [hi]⟩,λx H3 y=>⟨y.1,y.2 xs (gG.of (s _ _ hl))⟩⟩) (λH' s=>⟨xs,gG.of (s _ _ hl),aK _⟩)
  (λi x H' Q' hx _ s k=>hs i x H' Q' hx s k) hd
theorem HA{K:PySem.W.Frag}{a:Addr}{xs:List V}(R:Nat->V->Hp->Prop)(hR:∀i y H1 H2,eY H1 H2->R i y H1->R i y H2)(hz:xs.length<=100000)(hl:H a=some (.tup xs))
  (hs:∀i x H' (Q':VK),xs[i]?=some x->aX H H'->(∀y H5,aX H' H5->R i y H5->Q' y H5)->te (some x::slots σ js) H' Q')
  (hd:∀D ys H',H D=none->H' D=some (.lst ys)->aX H H'->ys.length=xs.length->(∀(i:Nat) (y:V),ys[i]?=some y->R i y H')->Q (.ref D) H'):iR (QU K a) σ js sK te H Q :=
 mU (λi x=>xs[i]?=some x) R hR hz (λi H' s hi=>⟨⟨xs,xs[i],eI.of (s _ _ hl),by simp [hi]⟩,λx H3 y=>⟨y.1,y.2 xs (eI.of (s _ _ hl))⟩⟩) (λH' s=>⟨xs,eI.of (s _ _ hl),aK _⟩)
  (λi x H' Q' hx _ s k=>hs i x H' Q' hx s k) hd
theorem mV{lo:Int}{n:Nat}(R:Nat->V->Hp->Prop)(hR:∀i y H1 H2,eY H1 H2->R i y H1->R i y H2)(hz:n<=100000)
  (hs:∀i H' (Q':VK),i<n->aX H H'->(∀y H5,aX H' H5->R i y H5->Q' y H5)->te (some (.int (lo+(i:Nat)))::slots σ js) H' Q')
  (hd:∀D ys H',H D=none->H' D=some (.lst ys)->aX H H'->ys.length=n->(∀(i:Nat) (y:V),ys[i]?=some y->R i y H')->Q (.ref D) H'):iR (QV lo n) σ js sK te H Q :=
 mU (λi x=>x=.int (lo+(i:Nat))) R hR hz (λi H' s hi=>⟨hi,λx H3 y=>y⟩) (λH' s=>aK _)
  (λi x H' Q' hx hi s k=>by subst hx;exact hs i H' Q' hi s k) hd
theorem aT.thru{p l:Addr}{H0 H1 H2:Hp}(hl:H0 l=none)(s:aT p H0 H1)(b:aT l H1 H2):aT p H0 H2:=λc o e=>by
 have n:=eN.ne e;have e0:H0 c=some o:=by rw [eN.at n] at e;exact e
 have nl:c≠l:=λz=>by subst z;rw [hl] at e0;cases e0
 exact eN.of n (b.at nl (s.at n e0))
end
theorem aL.ofIdx{H:Hp}:∀{ds:List PyData}{ys:List V},ys.length=ds.length->(∀(i:Nat) (y:V),ys[i]?=some y->∃d,ds[i]?=some d/\bR H d y)->aL H ds ys
 | [],[],_,_=>aL.nil
 | d::ds,y::ys,hl,h=>by
  obtain ⟨d',e,r⟩:=h 0 y rfl;cases (show d=d' by simpa using e);exact aL.cons r (aL.ofIdx (by simpa using hl) λi z hz=>by simpa using h (i+1) z (by simpa using hz))
 | [],_::_,hl,_=>by simp at hl
 | _::_,[],hl,_=>by simp at hl
theorem wV{P:Nat->Int->Prop}:∀{ys:List V},(∀(i:Nat) (y:V),ys[i]?=some y->∃n,y=.int n/\P i n)->∃ns:List Int,ys=ns.map V.int/\∀(i:Nat) n,ns[i]?=some n->P i n
 | [],_=>⟨[],rfl,λi n h=>by simp at h⟩
 | y::ys,h=>by
  obtain ⟨n,rfl,hn⟩:=h 0 y rfl;obtain ⟨ns,rfl,hs⟩:=wV (P:=λi=>P (i+1)) (ys:=ys) λi z hz=>h (i+1) z (by simpa using hz);refine ⟨n::ns,rfl,λi m hm=>?_⟩;cases i with
  | zero=>cases (show n=m by simpa using hm);exact hn
  | succ i=>exact hs i m (by simpa using hm)
end L2
namespace L2
open PySem PySem.Spec PyProof.Rows
theorem gA.u1{k:Nat}{A:Around}(r:gA k A):A.units+1<cLine:=by have:=r.units;omega
@[irreducible] def RM:R2:=λx y H Q=>∃a v,x=.ref a/\kQ H a y (some v)/\Q v H
@[irreducible] def XI(D:rR)(σ:St)(x y v:V)(H:Hp):Prop:=∃a H4,x=.ref a/\xP H a y v H4/\D.nx σ H4
def RF(td ty tv:TE):TS:=λD σ H=>tv σ H λv H1=>td σ H1 λx H2=>ty σ H2 λy H3=>XI D σ x y v H3
structure QR(X:Cx)(pos:Pos)(keys:List (Option Expr))(values:List Expr)(trs:List (TE × TE)):Prop where p:ZV X pos keys values trs
section
variable{X:Cx}{o i value k v:Expr}{td ty tv tk:TE}{pos pos':Pos}{ks:List (Option Expr)}{vs:List Expr}{trs:List (TE × TE)}
theorem kX(hu:X.A.units+1<cLine)(ho:fI X o td)(hi:fI X i ty)(hs:XE i:=by intro _ _;rfl):fI X (.Subscript o i pos) (HW RM td ty):=⟨by unfold RM;exact OP hu ho.p hi.p hs⟩
theorem oC(hu:X.A.units+1<cLine)(ho:fI X o td)(hi:fI X i ty)(hv:fI X value tv)(hs:swapsWith value (some (.Subscript o i pos')) pos.line X.env=pure false:=by rfl) :
  HQ X (.Assign [.Subscript o i pos'] value pos) (RF td ty tv):=⟨by unfold RF XI;exact OH hu ho.p hi.p hv.p hs⟩
theorem MQ:QR X pos [] [] []:=⟨pps_nil⟩
theorem sI(hk:fI X k tk)(hv:fI X v tv)(hr:QR X pos ks vs trs):QR X pos (some k::ks) (v::vs) ((tk,tv)::trs):=⟨JQ hk.p hv.p hr.p⟩
theorem MS(h:QR X pos ks vs trs)(hall:ks.all (·.isSome)=true:=by rfl)(hl:ks.length=vs.length:=by rfl)(h0:ks≠[]:=by intro h;cases h)(h15:ks.length<=15:=by decide):fI X (.Dict ks vs pos) (RE trs):=⟨OO h.p hall hl h0 h15⟩
end
theorem ZP{H:Hp}{p:Addr}{kvs:List (dE × V)}{x:Str}{v:V}{Q:VK}(e:H p=some (.dK kvs))(hv:gS kvs (.inr x)=some v)(q:Q v H):RM (.ref p) (.str x) H Q:=by
 unfold RM;exact ⟨p,v,rfl,hv ▸ kQ.k (k:=.inr x) e,q⟩
theorem dpS{H:Hp}{p:Addr}{kvs kvs2:List (dE × V)}{x:Str}{v:V}{D:rR}{σ:St}(e:H p=some (.dK kvs))(hl:kvs.length<=64)(hk:fL kvs (.inr x) v=kvs2)(q:∀H',H' p=some (.dK kvs2)->aT p H H'->D.nx σ H') :
  XI D σ (.ref p) (.str x) v H:=by
 unfold XI;exact ⟨p,_,rfl,xP.k (k:=.inr x) e (bI hl Dd),q _ (by rw [hk];exact bL) aT.self⟩
theorem aT.tD{H H':Hp}{p:Addr}(s:aT p H H'){xs:List (dE × V)}(hp:H p=some (.dK xs)):eY H H':=λb ys h=>s.at (sW h hp (by intro z;cases z)) h
structure mL(p:Addr)(Fd:Nat->Hp->Prop):Prop where
 but:∀n D H1 H2,D≠p->aT D H1 H2->Fd n H1->Fd n H2
 same:∀n H1 H2,aX H1 H2->Fd n H1->Fd n H2
 dic:∀n H',Fd n H'->∃xs,H' p=some (.dK xs)
section
variable{σ:St}{js:List Nat}{te:TE}{H:Hp}{Q:VK}
theorem mL.np{p:Addr}{Fd:Nat->Hp->Prop}(fl:mL p Fd){n:Nat}{H':Hp}{D:Addr}(F:Fd n H')(h:H' D=none):D≠p:=λe=>by
 obtain ⟨xs,hp⟩:=fl.dic n H' F;subst e;rw [hp] at h;cases h
theorem QF{J:It}{n:Nat}{p:Addr}{Fd:Nat->Hp->Prop}(fl:mL p Fd)(F0:Fd 0 H)(src:Nat->V->Prop)(R:Nat->V->Hp->Prop)(hR:∀i y H1 H2,eY H1 H2->R i y H1->R i y H2)(hz:n<=100000)
  (hg:∀i H',aT p H H'->i<n->J.go i H'/\∀x H3,J.yld i H' x H3->H3=H'/\src i x) (hst:∀H',aT p H H'->J.stop n H')
  (hs:∀i x H' (Q':VK),src i x->i<n->Fd i H'->aT p H H'->(∀y H5,Fd (i+1) H5->aT p H' H5->R i y H5->Q' y H5)->te (some x::slots σ js) H' Q')
  (hd:∀D ys H',H D=none->H' D=some (.lst ys)->Fd n H'->aT p H H'->ys.length=n->(∀(i:Nat) (y:V),ys[i]?=some y->R i y H')->Q (.ref D) H'):iR J σ js sK te H Q:=by
 refine zN (J:=J) (n:=n) src hz (λD i ys H'=>H D=none/\Fd i H'/\aT p H H'/\∀(i:Nat) (y:V),ys[i]?=some y->R i y H') (λD H1 hD _ s=>⟨hD,fl.same _ _ _ s F0,s.but,λi y h=>by simp at h⟩)
  (λD i ys H' hi _ q=>hg i H' q.2.2.1 hi) (λD ys H' _ q=>hst H' q.2.2.1) (λD i x ys H' hx hi hy hD q=>?_) (λD ys H' hy hD hD' q=>hd D ys H' hD hD' q.2.1 q.2.2.1 hy q.2.2.2)
 have np:=fl.np F0 q.1;refine hs i x H' _ hx hi q.2.1 q.2.2.1 λy H5 F5 s5 r=>?_;obtain ⟨xs,hp⟩:=fl.dic _ H' q.2.1;have hD5:=s5.at np hD;refine ⟨hD5,λH6 hD6 s6=>⟨q.1,fl.but _ D _ _ np s6 F5,aT.thru q.1 (q.2.2.1.trans s5) s6,?_⟩⟩;have t6:=s6.t hD5;exact yD (R:=λj z=>R j z H6) (λj z hj=>hR j z _ _ ((s5.tD hp).trans t6) (q.2.2.2 j z hj)) (by rw [hy];exact hR i y _ _ t6 r)
theorem LM{lo:Int}{n:Nat}{p:Addr}{Fd:Nat->Hp->Prop}(fl:mL p Fd)(F0:Fd 0 H)(R:Nat->V->Hp->Prop)(hR:∀i y H1 H2,eY H1 H2->R i y H1->R i y H2)(hz:n<=100000)
  (hs:∀i H' (Q':VK),i<n->Fd i H'->aT p H H'->(∀y H5,Fd (i+1) H5->aT p H' H5->R i y H5->Q' y H5)->te (some (.int (lo+(i:Nat)))::slots σ js) H' Q')
  (hd:∀D ys H',H D=none->H' D=some (.lst ys)->Fd n H'->aT p H H'->ys.length=n->(∀(i:Nat) (y:V),ys[i]?=some y->R i y H')->Q (.ref D) H'):iR (QV lo n) σ js sK te H Q :=
 QF fl F0 (λi x=>x=.int (lo+(i:Nat))) R hR hz (λi H' s hi=>⟨hi,λx H3 y=>y⟩) (λH' s=>aK _)
  (λi x H' Q' hx hi f s k=>by subst hx;exact hs i H' Q' hi f s k) hd
end
section
variable{X:Cx}
@[irreducible] def yK(K:PySem.W.Frag):R2:=λx y H Q=>∃a b xs ys,x=.ref a/\y=.ref b/\H a=some (.tup xs)/\H b=some (.tup ys)/\xs.length+ys.length<=1000/\∀c H',aX H H'->H' c=some (.tup (xs++ys))->Q (.ref c) H'
theorem iP{K:PySem.W.Frag}{H:Hp}{Q:VK}{a b:Addr}{xs ys:List V}(h1:H a=some (.tup xs))(h2:H b=some (.tup ys))(hz:xs.length+ys.length<=1000)(k:∀c H',aX H H'->H' c=some (.tup (xs++ys))->Q (.ref c) H'):yK K (.ref a) (.ref b) H Q:=by
 unfold yK;exact ⟨a,b,xs,ys,rfl,rfl,h1,h2,hz,k⟩
theorem dA(K:PySem.W.Frag)(hK:X.K=K:=by rfl):lN X (binaryOp .Add) (yK K):=by
 subst hK;unfold yK;intro pins s σ H x y v u Q I rx ry h;obtain ⟨a,b,xs,ys,rfl,rfl,ha,hb,hz,q⟩:=h;by_cases hx:xs=[]
 ·cases rx;cases ry;subst hx;obtain ⟨its,r1,p1,_⟩:=I.tuple (eI.of ha);obtain ⟨its2,r2,p2,_⟩:=I.tuple (eI.of hb);cases r1;obtain ⟨⟨cls,dd,data,sl⟩,ho,hc,n,hd⟩:=id p1;obtain ⟨⟨cls2,dd2,data2,sl2⟩,ho2,hc2,n2,hd2⟩:=id p2;simp only at hc hd hc2 hd2;subst hc hd hc2 hd2;exact concat_meets ⟨_,ho,rfl⟩ ⟨_,ho2,rfl⟩ noFill_tuple_add seq_tuple_add PySem.F.slot_tuple_add PySem.F.entry_tuple_add (PySem.F.args_tuple_add_2 _ _)
   (tuple_addW0 a b _ _ n n2 dd dd2 sl sl2 rfl) ⟨ho,ho2,⟨.ref b,H,I,rfl,q b H (aX.refl _) hb⟩⟩
 ·refine OW pins s σ H _ _ v u Q I rx ry ⟨a,b,xs,ys,rfl,rfl,eI.of ha,eI.of hb,hx,bC hz Dd,λe=>?_,λ_ p hp=>q p _ (aX.upd hp) bL⟩;subst e;exact q a H (aX.refl _) (by rw [List.append_nil];exact ha)
end
theorem jL(a:Int)(t:Tok)(l:Addr)(items:Array Value)(n:Nat)(dd:Option Addr)(sl:Array (Option Value)) :
  Meets (Builtin.«int.__rmul__» ⟨[.int a t,.ref l],[]⟩) (λ_ R s=>s.heap.get? l=some { cls:=.type "tuple",dict:=dd,data:=.seq items n,slots:=sl }/\R (.ok (.ret Value.notImplemented)) s) :=
 .of_wp λprog w A R s h=>by
  obtain ⟨hp,g,d,tk,os⟩:=s;obtain ⟨hl,h⟩:=h
  wp_walk
  exact ⟨_,rfl,h⟩
theorem AH(l:Addr)(items:Array Value)(n:Nat)(dd:Option Addr)(sl:Array (Option Value))(k:Int)(u:Tok)(h0:2<=k)(h1:k<=64)(he:items.isEmpty=false)(hz:items.size<=64)(hsz:((List.replicate k.toNat items).foldl (· ++ ·) #[]).size<=sizeLine) :
  Meets (Builtin.«tuple.__mul__» ⟨[.ref l,.int k u],[]⟩) (λ_ R s=>s.heap.get? l=some { cls:=.type "tuple",dict:=dd,data:=.seq items n,slots:=sl }/\R (.ok (.ret (.ref s.heap.objs.size))) { s with heap:=s.heap.push { cls:=.type "tuple",data:=.seq ((List.replicate k.toNat items).foldl (· ++ ·) #[]) } }) :=
 .of_wp λprog w A R s h=>by
  obtain ⟨hp,g,d,tk,os⟩:=s;obtain ⟨hl,h⟩:=h;have f1:=AutoSeq1.idx_int
  wp_walk using wpAny_loadPart' hl
  rw [if_neg (by simp;omega)]
  wp_walk using wpAny_loadPart' hl
  have he':¬items=#[]:=λz=>by simp [z] at he
  have hm:(items.size:Int)*k<=4096:=by
   have h2:(items.size:Int)*k<=64*64:=Int.mul_le_mul Oo h1 Oo Oo;omega
  rw [if_neg (by simp;exact ⟨he',Oo⟩)];rw [if_neg (by simp;exact ⟨Oo,he'⟩)];show wpAny _ _ (if (items.size:Int)*k > (2^63-1)/8 then _ else _) _ _ _;rw [if_neg Oo];show wpAny _ _ (if Builtin.Tuple.tupleTooMany (items.size*k)=true then _ else _) _ _ _;rw [if_neg (by unfold Builtin.Tuple.tupleTooMany;simp;exact Int.le_trans hm Dd)]
  wp_walk
  exact ⟨_,rfl,h⟩
theorem iC:fillsNumberSlot (.type "tuple") "mul" = pure false:=PySem.fillsNumberSlot_seq (id := "tuple.__mul__") (r:=some (.builtin "tuple.__rmul__")) F.slot_tuple_mul.lookup Kk F.slot_tuple_rmul.lookup Kk
theorem lA:seqRepeat? (.type "tuple")=pure (some (.builtin "tuple.__mul__")):=by
 unfold seqRepeat?;rw [PySem.seqSlot_of (T := "tuple") (name := "__mul__") (id := "tuple.__mul__") F.slot_tuple_mul.lookup Kk,PySem.seqSlot_of (T := "tuple") (name := "__rmul__") (id := "tuple.__rmul__") F.slot_tuple_rmul.lookup Kk];rfl
@[irreducible] def DJ:R2:=λx y H Q=>∃a z,∃k:Nat,x=.ref a/\y=.int (k:Int)/\H a=some (.tup [z])/\2<=k/\k<=64/\∀c H',aX H H'->H' c=some (.tup (List.replicate k z))->Q (.ref c) H'
theorem VD{H:Hp}{Q:VK}{a:Addr}{z:V}{k:Nat}(h:H a=some (.tup [z]))(h2:2<=k)(hk:k<=64)(q:∀c H',aX H H'->H' c=some (.tup (List.replicate k z))->Q (.ref c) H'):DJ (.ref a) (.int (k:Int)) H Q:=by
 unfold DJ;exact ⟨a,z,k,rfl,rfl,h,h2,hk,q⟩
section
variable{X:Cx}
theorem wQ:lN X (binaryOp .Mult) DJ:=by
 unfold DJ;intro pins s σ H x y v u Q I rx ry h;obtain ⟨a,z,k,rfl,rfl,hH,h2,hk,q⟩:=h;cases rx;obtain ⟨t,rfl⟩:=(show ∃t,u=Value.int (k:Int) t from ry);obtain ⟨its,r,p,_⟩:=I.tuple (eI.of hH);obtain ⟨w1,rfl,rw1⟩:=iG r;obtain ⟨⟨cls,dd,data,sl⟩,ho,hc,n,hd⟩:=id p;simp only at hc hd;subst hc hd;have flat1:∀k:Nat,(List.replicate k [w1]).flatten=List.replicate k w1:=λk=>by
  induction k with
  | zero=>rfl
  | succ k ih=>rw [List.replicate_succ,List.flatten_cons,ih,List.replicate_succ];rfl
 have f0:List.foldl (λx1 x2=>x1++x2) #[] (List.replicate k [w1].toArray)=(List.replicate k w1).toArray:=by
  have:=qF [w1] k [];rw [List.nil_append,flat1] at this;exact this
 have vr:∀k:Nat,cJ (List.replicate k z) (List.replicate k w1):=λk=>by
  induction k with
  | zero=>exact .nil
  | succ k ih=>exact .cons rw1 ih
 generalize hk':(k:Int)=kk;have hkk:kk.toNat=k:=Oo;refine wpAny_binaryOp_repeat_ref (T := "tuple") (U := "int") Dd ⟨_,ho,rfl⟩ (λs'=>typeIs_int s' kk t) iC F.fills_int_mul F.slot_int_rmul lA F.slot_int_index.lookup
  (call_meets F.slot_int_rmul (typeIs_int s kk t) F.entry_int_rmul (F.args_int_rmul_2 _ _) (jL kk t a [w1].toArray n dd sl) ⟨ho,rfl,⟨_,ho,rfl⟩,?_⟩)
 refine call_meets F.slot_tuple_mul ⟨_,ho,rfl⟩ F.entry_tuple_mul (F.args_tuple_mul_2 _ _) (AH a [w1].toArray n dd sl kk t Oo Oo rfl (by show 1<=64;decide) (by rw [hkk,f0,aO,bX];exact bC hk Dd)) ⟨ho,?_⟩;rw [hkk,f0];refine ⟨.ref _,_,I.laid (t':=s.toks) (o:=.tup (List.replicate k z)) (λb ob q=>aB _ q) (aK _) ?_,rfl,q _ _ (aX.upd (I.hok.fresh (aK _))) bL⟩;exact ⟨⟨by rw [bX];exact oR hk,_,bB _ rfl,rfl⟩,_,vr k,IsTup.new _ _⟩
end
@[irreducible] def NV:V->List V->Hp->VK->Prop:=DK
theorem KH{X:Cx}:ZY X "list.extend" NV:=by unfold NV;exact GL
theorem ZO{H:Hp}{l b:Addr}{xs zs:List V}{Q:VK}(h:H l=some (.lst xs))(h2:H b=some (.lst zs))(hz:xs.length+zs.length<=1000)(k:∀H',H' l=some (.lst (xs++zs))->aT l H H'->Q .non H'):NV (.ref l) [.ref b] H Q:=by
 unfold NV;exact ⟨l,b,xs,zs,rfl,rfl,h,h2,Nat.le_of_lt (pQ hz),k _ bL aT.self⟩
section
variable{prog:Program}{w:World}{A:Around}{E:Value->Shared->Prop}{s:Shared}{l:Addr}{xs:Array (Int × Tok)}
theorem IT{Q:Value->Shared->Prop}(hh:A.handled=none)(hl:s.heap.IsTuple l (intItems xs))
  (h:∀h' tk t',(∀b o,s.heap.get? b=some o->h'.get? b=some o)->Q (.int (preSum (numAt xs) xs.size) t') { s with heap:=h',toks:=tk }) :
  wpAny (model prog w) A (call (.builtin "sum") [.ref l]) Q E s:=by
 have hlt:l<s.heap.objs.size:=by obtain ⟨_,e,_⟩:=hl;exact aY e
 refine call_sum_walkG (wpAny_pyIter_tuple hl ?_);refine ⟨_,[_,l],[_],_,_,_,numAt xs,rfl,Walks.tuple (A:=A.in1) hh _ l (bT hlt) (intItems xs),⟨⟨_,bB _ rfl,rfl,rfl⟩,hl.push _⟩,λc hc=>?_,(λ_ _=>intItems_at),λh' tk t' hk=>?_⟩
 ·show c<(s.heap.push _).objs.size;rw [Heap.size_push];rcases aR.mp hc with rfl | hc
  ·exact Nat.lt_succ_self _
  ·rcases aR.mp hc with rfl | hc
   ·exact Nat.lt_succ_of_lt hlt
   ·cases hc
 ·have:=h h' tk t' λc o e=>by
   refine hk c o (λhm=>?_) (aB _ e);rcases aR.mp hm with e1 | hm
   ·exact absurd (e1 ▸ aY e) (cP _)
   ·cases hm
  simpa [intItems] using this
end
@[irreducible] def DF(K:PySem.W.Frag):List V->Hp->VK->Prop:=λxs H Q=>∃(p:Addr) (ns:List Int),xs=[.ref p]/\eI K H p (ns.map V.int)/\Q (.int ns.sum) H
theorem rsT{K:PySem.W.Frag}{H:Hp}{p:Addr}{ns:List Int}{Q:VK}(h:eI K H p (ns.map V.int))(q:Q (.int ns.sum) H):DF K [.ref p] H Q:=by unfold DF;exact ⟨p,ns,rfl,h,q⟩
theorem xG{X:Cx}(K:PySem.W.Frag)(hc:X.calm=true)(hK:X.K=K:=by rfl):eW X (.builtin "sum") (DF K):=by
 subst hK;unfold DF;intro pins s σ H xs us Q I r h;obtain ⟨p,ns,rfl,hq,q⟩:=h;obtain ⟨u,rfl,rx⟩:=iG r;cases rx;obtain ⟨its,r',pl,hz⟩:=I.tuple hq;have hi:=nU r';obtain ⟨xs',e⟩:=hi.allInts.items;rw [e] at pl;refine IT (I.ok.hd hc) pl λh' tk t' hk=>⟨.int ns.sum,H,I.kept hk,⟨t',?_⟩,q⟩;rw [preSum_eq,List.take_of_length_le (by simp)];rw [<-hi.numsOf];have e2:its=(intItems xs').toList:=by rw [<-e]
 rw [e2,nums_intItems]
section
variable{js:List Nat}{te:TE}{tc:TT}{σ:St}{H:Hp}{Q:VK}
theorem aL.atI{α:Type}{g:α->PyData}:∀{as:List α}{xs:List V},aL H (as.map g) xs->∀{i:Nat}{x:V},xs[i]?=some x->∃a,as[i]?=some a/\bR H (g a) x:=by
 intro as xs r i x e;obtain ⟨d,h1,h2⟩:=r.get e;rw [aS] at h1;cases q:as[i]? with
 | none=>rw [q] at h1;cases h1
 | some a=>rw [q] at h1;cases h1;exact ⟨a,rfl,h2⟩
theorem HB{K:PySem.W.Frag}{a:Addr}{xs:List V}{α:Type}{g:α->PyData}{as:List α}(r:aL H (as.map g) xs)(p:α->Bool)(hz:xs.length<=100000)(hl:H a=some (.lst xs))
  (ht:∀x c H' (Q':Bool->Hp->Prop),c∈as->bR H' (g c) x->aX H H'->(∀H5,aX H' H5->Q' (p c) H5)->tc (some x::slots σ js) H' Q')
  (he:∀x H' (Q':VK),Q' x H'->te (some x::slots σ js) H' Q')
  (hd:∀D ys H',H D=none->H' D=some (.lst ys)->aX H H'->aL H' ((as.filter p).map g) ys->Q (.ref D) H'):iR (XG K a) σ js tc te H Q:=by
 unfold iR;intro D hD;have hlen:xs.length=as.length:=by rw [r.len,aA]
 refine ⟨λi m ys H'=>m=xs.length-i/\i<=xs.length/\H' D=some (.lst ys)/\aX H H'/\aL H (((as.take i).filter p).map g) ys/\ys.length<=i,⟨xs.length,by simp,cB _,bL,aX.upd hD,aL.nil,aK _⟩,?_⟩;rintro i m ys H2 ⟨rfl,hi,hD2,s2,ry,hy⟩;refine ⟨hD2,?_⟩;by_cases hlt:i<xs.length
 ·have hx:xs[i]?=some xs[i]:=aN hlt;refine .inr ⟨⟨xs,_,gG.of (s2 _ _ hl),hx⟩,bI (m:=100000) Oo Dd,λx H3 hy3=>?_⟩;obtain ⟨rfl,hx3⟩:=hy3;have hx3:=hx3 xs (gG.of (s2 _ _ hl));obtain ⟨c,hc,rc⟩:=r.atI hx3;have hti:as.take (i+1)=as.take i++[c]:=by rw [fN,hc];rfl
  refine ⟨λb H4=>b=p c/\aX H3 H4,ht x c H3 _ (bK hc) (rc.same s2) s2 λH5 s5=>⟨rfl,s5⟩,?_⟩;rintro b H4 ⟨rfl,s4⟩;by_cases hp:p c=true
  ·rw [if_pos hp];refine ⟨λy H5=>y=x/\H5=H4,he x H4 _ ⟨rfl,rfl⟩,?_⟩;rintro y H5 ⟨rfl,rfl⟩;refine ⟨s4 _ _ hD2,_,?_,rfl,hlt,bL,aX.thru hD (s2.trans s4) aT.self,?_,?_⟩
   ·omega
   ·rw [hti,List.filter_append,bM];have:List.filter p [c]=[c]:=by simp [hp]
    rw [this];exact aL.snoc ry rc
   ·rw [aI,List.length_singleton];omega
  ·rw [if_neg hp];refine ⟨s4 _ _ hD2,_,?_,rfl,hlt,s4 _ _ hD2,s2.trans s4,?_,?_⟩
   ·omega
   ·rw [hti,List.filter_append];have:List.filter p [c]=[]:=by simp [hp]
    rw [this,List.append_nil];exact ry
   ·omega
 ·have e:i=xs.length:=Oo;subst e;refine .inl ⟨⟨xs,gG.of (s2 _ _ hl),aK _⟩,hd D ys H2 hD hD2 s2 ?_⟩;rw [hlen,dW] at ry;exact ry.same s2
end
end L2
namespace Mf
def lw(n d:Int):Int × Int:=(n/(Int.gcd n d:Int),d/(Int.gcd n d:Int))
structure XF(n d:Int):Prop where
 pos:0<d
 low:Int.gcd n d=1
theorem jU{n d:Int}(h:0<d):0<(Int.gcd n d:Int):=by
 have:=Int.gcd_pos_of_ne_zero_right n (Int.ne_of_gt h);omega
theorem lC{n d:Int}(h:0<d):XF (lw n d).1 (lw n d).2:=by
 have g:=jU (n:=n) h;refine ⟨?_,?_⟩
 ·exact Int.ediv_pos_of_pos_of_dvd h (Int.le_of_lt g) (Int.gcd_dvd_right n d)
 ·exact Int.gcd_ediv_gcd_ediv_gcd Oo
theorem RQ{n d:Int}:(lw n d).1*(Int.gcd n d:Int)=n/\(lw n d).2*(Int.gcd n d:Int)=d :=
 ⟨Int.ediv_mul_cancel (Int.gcd_dvd_left n d),Int.ediv_mul_cancel (Int.gcd_dvd_right n d)⟩
theorem mJ{n d:Int}:(lw n d).1*d=n*(lw n d).2:=by
 obtain ⟨e1,e2⟩:=RQ (n:=n) (d:=d);generalize (lw n d).1=a at *;generalize (lw n d).2=b at *;generalize (Int.gcd n d:Int)=g at *;rw [<-e1,<-e2];rw [Int.mul_assoc,Int.mul_comm g b]
theorem EK{b a d:Int}(h:b ∣ a*d)(g:Int.gcd b a=1):b ∣ d:=by
 rw [<-Int.natAbs_dvd_natAbs,Int.natAbs_mul] at h;rw [<-Int.natAbs_dvd_natAbs];rw [Int.gcd_eq_natAbs_gcd_natAbs] at g;exact Nat.Coprime.dvd_of_dvd_mul_left g h
theorem KL{a b c d:Int}(h1:XF a b)(h2:XF c d)(e:a*d=c*b):a=c/\b=d:=by
 have d1:b ∣ d:=by
  have:b ∣ a*d:=by rw [e];exact Int.dvd_mul_left c b
  exact EK this (by rw [Int.gcd_comm];exact h1.low)
 have d2:d ∣ b:=by
  have:d ∣ c*b:=by rw [<-e];exact Int.dvd_mul_left a d
  exact EK this (by rw [Int.gcd_comm];exact h2.low)
 have hb:=h1.pos;have hd:=h2.pos;have e1:b=d:=Int.dvd_antisymm (Int.le_of_lt hb) (Int.le_of_lt hd) d1 d2;subst e1;exact ⟨Int.eq_of_mul_eq_mul_right Oo e,rfl⟩
theorem sY{a b n d:Int}(h:XF a b)(hd:0<d)(e:a*d=n*b):lw n d=(a,b):=by
 have c:=mJ (n:=n) (d:=d);have q:=KL (lC (n:=n) hd) h (by
  have hd':d≠0:=Oo;apply Int.eq_of_mul_eq_mul_right hd'
  calc (lw n d).1*b*d=((lw n d).1*d)*b:=by rw [Int.mul_assoc,Int.mul_comm b d,<-Int.mul_assoc]
   _=(n*(lw n d).2)*b:=by rw [c]
   _=(n*b)*(lw n d).2:=by rw [Int.mul_assoc,Int.mul_comm (lw n d).2 b,<-Int.mul_assoc]
   _=(a*d)*(lw n d).2:=by rw [e]
   _=a*(lw n d).2*d:=by rw [Int.mul_assoc,Int.mul_comm d,<-Int.mul_assoc])
 exact Prod.ext q.1 q.2
theorem EV{u a b:Int}(h1:Int.gcd u a=1)(h2:Int.gcd u b=1):Int.gcd u (a*b)=1:=by
 rw [Int.gcd_eq_natAbs_gcd_natAbs] at *;rw [Int.natAbs_mul];exact Nat.Coprime.mul_right h1 h2
theorem nV{a b c:Int}(h:Int.gcd a b=1)(d:c ∣ b):Int.gcd a c=1:=by
 have:=Int.gcd_dvd_gcd_of_dvd_right a d;rw [h] at this;exact Nat.eq_one_of_dvd_one this
theorem lM{a b c:Int}(h:Int.gcd a b=1)(d:c ∣ a):Int.gcd c b=1:=by
 rw [Int.gcd_comm] at *;exact nV h d
theorem OJ{a b c d:Int}(h1:XF a b)(h2:XF c d) :
  let g:Int:=Int.gcd b d
  let u:=a*(d/g)+c*(b/g)
  let l:Int:=Int.gcd u g
  lw (a*d+c*b) (b*d)=(u/l,(b/g)*(d/l)):=by
 intro g u l;have hg:0<g:=jU h2.pos;have hl:0<l:=jU hg;obtain ⟨b',eb⟩:=Int.gcd_dvd_left b d;obtain ⟨d',ed⟩:=Int.gcd_dvd_right b d;have eb:b=g*b':=eb;have ed:d=g*d':=ed;have qb:b/g=b':=by rw [eb];exact Int.mul_ediv_cancel_left _ Oo
 have qd:d/g=d':=by rw [ed];exact Int.mul_ediv_cancel_left _ Oo
 have eu:u=a*d' + c*b':=by show a*(d/g)+c*(b/g)=_;rw [qb,qd]
 have cbd:Int.gcd b' d'=1:=by
  have:=Int.gcd_ediv_gcd_ediv_gcd (i:=b) (j:=d) (by have:0<(Int.gcd b d:Int):=hg;omega);have h:Int.gcd (b/g) (d/g)=1:=this
  rwa [qb,qd] at h
 have cab:Int.gcd a b'=1:=nV h1.low ⟨g,by rw [eb,Int.mul_comm]⟩;have ccd:Int.gcd c d'=1:=nV h2.low ⟨g,by rw [ed,Int.mul_comm]⟩;have ub:Int.gcd u b'=1:=by
  rw [eu,Int.add_comm,Int.gcd_mul_right_add_left,Int.gcd_mul_right_left_of_gcd_eq_one cab,Int.gcd_comm];exact cbd
 have ud:Int.gcd u d'=1:=by
  rw [eu,Int.gcd_mul_right_add_left,Int.gcd_mul_right_left_of_gcd_eq_one ccd];exact cbd
 obtain ⟨u',eu'⟩:=Int.gcd_dvd_left u g;obtain ⟨g',eg'⟩:=Int.gcd_dvd_right u g;have eu':u=l*u':=eu';have eg':g=l*g':=eg';have qu:u/l=u':=by rw [eu'];exact Int.mul_ediv_cancel_left _ Oo
 have qdl:d/l=g' * d':=by rw [ed,eg',Int.mul_assoc];exact Int.mul_ediv_cancel_left _ Oo
 have cug:Int.gcd u' g'=1:=by
  have:=Int.gcd_ediv_gcd_ediv_gcd (i:=u) (j:=g) (by have:0<(Int.gcd u g:Int):=hl;omega);have h:Int.gcd (u/l) (g/l)=1:=this;rw [qu] at h
  rwa [show g/l=g' from by rw [eg'];exact Int.mul_ediv_cancel_left _ Oo] at h
 rw [qu,qb,qdl];have hu':u' ∣ u:=⟨l,by rw [eu',Int.mul_comm]⟩;have hb':0<b':=by
  have:=h1.pos;rw [eb] at this;exact Int.pos_of_mul_pos_right this Oo
 have hd':0<d':=by
  have:=h2.pos;rw [ed] at this;exact Int.pos_of_mul_pos_right this Oo
 have hg':0<g':=by
  have:=hg;rw [eg'] at this;exact Int.pos_of_mul_pos_right this Oo
 refine sY ⟨Int.mul_pos hb' (Int.mul_pos hg' hd'),?_⟩ (Int.mul_pos h1.pos h2.pos) ?_
 ·exact EV (lM ub hu') (EV cug (lM ud hu'))
 ·have e1:a*d+c*b=g*(l*u'):=by
   rw [<-eu',eu,eb,ed];rw [Int.mul_add,Int.mul_left_comm a,Int.mul_left_comm c]
  rw [e1,eb,ed];generalize hG:g=G at *;rw [eg'];simp only [Int.mul_assoc,Int.mul_left_comm,Int.mul_comm]
end Mf
namespace Mf
abbrev Fr:=Int × Int
def rQ(x y:Fr):Fr:=lw (x.1*y.2+y.1*x.2) (x.2*y.2)
def fY(fs:List Fr):Fr:=fs.foldl rQ (0,1)
def whole(fs:List Fr):Int:=fs.foldl (λw f=>w*f.2) 1
def lS(fs:List Fr)(W:Int):Int:=(fs.map λf=>f.1*(W/f.2)).sum
def iV(f:Fr):Prop:=XF f.1 f.2
theorem mR{α:Type}{P:List α->Prop}(h0:P [])(hs:∀l a,P l->P (l++[a]))(l:List α):P l:=by
 have:∀r:List α,P r.reverse:=by
  intro r
  induction r with
  | nil=>exact h0
  | cons a r ih=>rw [List.reverse_cons];exact hs _ _ ih
 have:=this l.reverse
 rwa [List.reverse_reverse] at this
theorem kE(l:List Fr)(a:Fr):fY (l++[a])=rQ (fY l) a:=by unfold fY;rw [List.foldl_append];rfl
theorem kW(l:List Fr)(a:Fr):whole (l++[a])=whole l*a.2:=by unfold whole;rw [List.foldl_append];rfl
theorem FN(l:List Fr)(a:Fr)(W:Int):lS (l++[a]) W=lS l W+a.1*(W/a.2):=by
 unfold lS;rw [bM,List.sum_append];simp
theorem mN(l:List Fr):(∀f∈l,iV f)->0<whole l:=by
 refine mR (P:=λl=>(∀f∈l,iV f)->0<whole l) (λ_=>Dd) (λl a ih h=>?_) l;rw [kW];exact Int.mul_pos (ih λf hf=>h f (bO _ hf)) (h a (aG _ aF)).pos
theorem FH(l:List Fr):∀f∈l,f.2 ∣ whole l:=by
 refine mR (P:=λl=>∀f∈l,f.2 ∣ whole l) (λf hf=>by cases hf) (λl a ih f hf=>?_) l;rw [kW];rcases bE.mp hf with h | h
 ·exact Int.dvd_mul_of_dvd_left (ih f h)
 ·rw [aP] at h;subst h;exact Int.dvd_mul_left _ _
theorem IU(l:List Fr){W e:Int}(h:∀f∈l,f.2 ∣ W):lS l (W*e)=lS l W*e:=by
 unfold lS
 induction l with
 | nil=>simp
 | cons f l ih =>
  have ih:=ih λg hg=>h g (aD _ hg);simp only [aV,List.sum_cons];rw [ih,Int.add_mul];congr 1;have hd:=h f aF;rw [Int.mul_comm W e,Int.mul_ediv_assoc _ hd,Int.mul_comm e,Int.mul_assoc]
theorem oE(l:List Fr):(∀f∈l,iV f)->iV (fY l):=by
 refine mR (P:=λl=>(∀f∈l,iV f)->iV (fY l)) (λ_=>⟨Dd,Dd⟩) (λl a ih h=>?_) l;rw [kE];have h1:=ih λf hf=>h f (bO _ hf);have h2:=h a (aG _ aF);exact lC (Int.mul_pos h1.pos h2.pos)
theorem AK(l:List Fr):(∀f∈l,iV f)->(fY l).1*whole l=lS l (whole l)*(fY l).2:=by
 refine mR (P:=λl=>(∀f∈l,iV f)->(fY l).1*whole l=lS l (whole l)*(fY l).2) (λ_=>Dd) (λl a ih h=>?_) l;have hl:=λf hf=>h f (bO _ hf);have ha:=h a (aG _ aF);have ih:=ih hl;have l1:=oE l hl;have wp:=mN l hl;have ap:=ha.pos;rw [kE,kW,FN,IU l (FH l),Int.mul_ediv_cancel _ Oo];have c:=mJ (n:=(fY l).1*a.2+a.1*(fY l).2) (d:=(fY l).2*a.2);have c:(rQ (fY l) a).1*((fY l).2*a.2)=((fY l).1*a.2+a.1*(fY l).2)*(rQ (fY l) a).2:=c;have dp:=l1.pos;generalize (rQ (fY l) a).1=N at *;generalize (rQ (fY l) a).2=M at *;generalize fY l=t at *;generalize whole l=W at *;generalize lS l W=S at *;obtain ⟨n,d⟩:=t;obtain ⟨p,e⟩:=a;dsimp only at *;apply Int.eq_of_mul_eq_mul_right (show d≠0 by omega)
 calc N*(W*e)*d=(N*(d*e))*W:=by simp only [Int.mul_assoc,Int.mul_left_comm,Int.mul_comm]
  _=((n*e+p*d)*M)*W:=by rw [c]
  _=(n*W)*(e*M)+p*W*M*d:=by
   rw [Int.add_mul,Int.add_mul];congr 1 <;> simp only [Int.mul_assoc,Int.mul_left_comm,Int.mul_comm]
  _=(S*d)*(e*M)+p*W*M*d:=by rw [ih]
  _=(S*e+p*W)*M*d:=by
   rw [Int.add_mul,Int.add_mul];congr 1;simp only [Int.mul_assoc,Int.mul_left_comm,Int.mul_comm]
theorem MT(l:List Fr)(h:∀f∈l,iV f):lw (lS l (whole l)) (whole l)=fY l:=sY (oE l h) (mN l h) (AK l h)
theorem ID(l:List Fr){k:Nat}:(∀f∈l,iV f/\f.2<=2^k)->whole l<=2^(k*l.length):=by
 refine mR (P:=λl=>(∀f∈l,iV f/\f.2<=2^k)->whole l<=2^(k*l.length)) (λ_=>by simp [whole]) (λl a ih h=>?_) l;have ih:=ih λf hf=>h f (bO _ hf);have ha:=h a (aG _ aF);rw [kW,aI,List.length_singleton,Nat.mul_add,Int.pow_add,Nat.mul_one];have wp:=mN l λf hf=>(h f (bO _ hf)).1;exact Int.mul_le_mul ih ha.2 (Int.le_of_lt ha.1.pos) (by exact Int.pow_nonneg Dd)
theorem ZE{n d:Int}(h:0<d):(lw n d).2<=d/\(lw n d).1.natAbs<=n.natAbs:=by
 obtain ⟨e1,e2⟩:=RQ (n:=n) (d:=d);have g:=jU (n:=n) h;have p:=(lC (n:=n) h).pos;generalize (lw n d).1=a at *;generalize (lw n d).2=b at *;generalize (Int.gcd n d:Int)=G at *;refine ⟨?_,?_⟩
 ·rw [<-e2];have:=Int.mul_le_mul_of_nonneg_left (show (1:Int)<=G by omega) (Int.le_of_lt p);simpa using this
 ·rw [<-e1,Int.natAbs_mul];exact Nat.le_mul_of_pos_right _ Oo
theorem xD{W d:Int}(hW:0<W)(hd:0<d):0<=W/d/\W/d<=W :=
 ⟨Int.ediv_nonneg (Int.le_of_lt hW) (Int.le_of_lt hd),Int.ediv_le_self _ (Int.le_of_lt hW)⟩
theorem CW{W:Int}(hW:0<W){k:Nat}:∀(l:List Fr),(∀f∈l,iV f/\f.1.natAbs<=2^k)->(lS l W).natAbs<=l.length*(2^k*W.natAbs)
 | [],_=>by simp [lS]
 | f::l,h=>by
  have ih:=CW hW l λg hg=>h g (aD _ hg);have hf:=h f aF;have e:lS (f::l) W=f.1*(W/f.2)+lS l W:=by simp [lS]
  rw [e,bF,Nat.add_mul,Nat.one_mul,Nat.add_comm];have q:=xD hW hf.1.pos;refine bC (Int.natAbs_add_le _ _) (Nat.add_le_add ?_ ih);rw [Int.natAbs_mul];exact Nat.mul_le_mul hf.2 Oo
end Mf
namespace Mf
theorem yT{n d n' d':Int}(hd:0<d)(hd':0<d')(e:n*d'=n' * d):lw n d=lw n' d':=by
 have h:=lC (n:=n') hd';have c:=mJ (n:=n') (d:=d');generalize lw n' d'=L at c h;refine sY (a:=L.1) (b:=L.2) h hd ?_;refine Int.eq_of_mul_eq_mul_right (a:=d') Oo ?_
 calc L.1*d*d'=(L.1*d')*d:=by ac_rfl
  _=n' * L.2*d:=by rw [c]
  _=(n' * d)*L.2:=by ac_rfl
  _=n*d' * L.2:=by rw [e]
  _=n*L.2*d':=by ac_rfl
theorem WV{a b c d:Int}(hb:0<b)(hd:0<d):rQ (lw a b) (lw c d)=lw (a*d+c*b) (b*d):=by
 have h1:=(lC (n:=a) hb).pos;have h2:=(lC (n:=c) hd).pos;refine yT (Int.mul_pos h1 h2) (Int.mul_pos hb hd) ?_;have e1:=mJ (n:=a) (d:=b);have e2:=mJ (n:=c) (d:=d);generalize lw a b=L at *;generalize lw c d=M at *;rw [Int.add_mul,Int.add_mul];congr 1
 ·calc L.1*M.2*(b*d)=(L.1*b)*(M.2*d):=by ac_rfl
   _=(a*L.2)*(M.2*d):=by rw [e1]
   _=a*d*(L.2*M.2):=by ac_rfl
 ·calc M.1*L.2*(b*d)=(M.1*d)*(L.2*b):=by ac_rfl
   _=(c*M.2)*(L.2*b):=by rw [e2]
   _=c*b*(L.2*M.2):=by ac_rfl
theorem PD{d:Int}(h:0<d):lw 0 d=(0,1):=sY (a:=0) (b:=1) ⟨Dd,Dd⟩ h Oo
theorem VL{d:Int}(h:0<d):lw d d=(1,1):=sY (a:=1) (b:=1) ⟨Dd,Dd⟩ h Oo
theorem FM{S:Int}(hS:0<S)(ps:List Int):fY (ps.map λp=>lw p S)=lw ps.sum S:=by
 induction ps using mR with
 | h0=>rw [show ([]:List Int).sum=0 from rfl,PD hS];rfl
 | hs l a ih =>
  rw [bM,aV,List.map_nil,kE,ih,WV hS hS,List.sum_append];refine yT (Int.mul_pos hS hS) hS ?_;rw [show ([a]:List Int).sum=a by simp,<-Int.add_mul,Int.mul_assoc]
end Mf
namespace Mf
end Mf
namespace Mf
end Mf
namespace L2
open PySem PySem.Spec PyProof.Rows
theorem iS{X:Cx}{e:Expr}{t:TT}(h:FD X e t):FD X e (oF t):=⟨h.p.mono⟩
end L2
namespace HT
open PySem PyProof.Rows
section
variable{prog:Program}{w:World}{A:Around}{E:Value->Shared->Prop}{s:Shared}
theorem mX{t sl:Addr}{items:Array Value}{vl vu:Value}{lo hi:Option Int}{Q:Value->Shared->Prop}(ht:IsTup s.heap t items)(hs:s.heap.IsSliceOf sl vl vu .none)(pl:IsPart vl lo)(pu:IsPart vu hi)
  (h0:gB items.size 0 lo=0) (h1:gB items.size items.size hi=items.size) (h:Q (.ref t) s):wpAny (model prog w) A (getItem (.ref t) (.ref sl)) Q E s:=by
 obtain ⟨os,hos,hcs,hds⟩:=id hs;have hTs:s.TypeIs (.ref sl) "slice" := ⟨os,hos,hcs⟩;have hTt:s.TypeIs (.ref t) "tuple" := ht.typeIs;unfold getItem
 try with_reducible refine wpAny_holding ?_
 first | refine wpAny_bind (wpAny_pure ?_) | skip
 refine wpAny_bind (wpAny_sequenceKey ht.typeIs Dd ?_);refine wpAny_bind (wpAny_callSpecial?_slot (name:=Str.ofString "__getitem__") ht.typeIs PyProof.Rows.slot_tuple_getitem
  (wpAny_call_entry PyProof.Rows.slot_tuple_getitem ht.typeIs entry_tuple_getitem ?_ (args_tuple_getitem _ _)))
 show wpAny _ _ (Builtin.Tuple.tupleItemsOf (.ref t) >>= _) _ _ s;refine wpAny_bind (tupleItemsOf_ ht ?_);refine wpAny_bind (wpAny_typeOf hTs ?_);rw [if_pos Dd];refine wpAny_bind (kJ hs pl pu ?_);have hyes:(((gB items.size 0 lo:Nat):Int) == 0&&(1:Int) == 1&&(gB items.size items.size hi-gB items.size 0 lo) == items.size)=true:=by
  rw [h0,h1];simp
 show wpAny _ _ (if (((gB items.size 0 lo:Nat):Int) == 0&&(1:Int) == 1&&(gB items.size items.size hi-gB items.size 0 lo) == items.size)=true then _ else _) _ _ s;rw [if_pos hyes];unfold Builtin.Tuple.tupleIsExact;refine wpAny_bind (wpAny_bind (wpAny_typeOf hTt (wpAny_pure ?_)));rw [if_pos Dd];refine wpAny_bind (wpAny_rule ?_)
 first
  | exact wpAny_pure ⟨_,rfl,wpAny_pure h⟩
  | exact wpAny_bind (wpAny_pure (wpAny_pure ⟨_,rfl,wpAny_pure h⟩))
end
end HT
namespace L2
open PySem PySem.W PySem.Spec PySem.Calls PyProof.Rows
theorem BZ{xs:List V}{lo hi:Option Int}(h0:HT.gB xs.length 0 lo=0)(h1:HT.gB xs.length xs.length hi=xs.length):kA xs lo hi=xs:=by
 unfold kA;rw [h0,h1];simp
section
variable{X:Cx}
@[irreducible] def sR(K:PySem.W.Frag):V->Option Int->Option Int->Hp->VK->Prop:=λx lo hi H Q=>∃a xs,x=.ref a/\H a=some (.tup xs)/\∀c H',aX H H'->H' c=some (.tup (kA xs lo hi))->Q (.ref c) H'
theorem cY(K:PySem.W.Frag)(hK:X.K=K:=by rfl):ZT X (sR K):=by
 unfold sR;subst hK;intro pins s σ H x v vl vu lo hi sl Q I rx hs pl pu h;obtain ⟨a,xs,rfl,hx,q⟩:=h;by_cases hw:HT.gB xs.length 0 lo=0/\HT.gB xs.length xs.length hi=xs.length
 ·cases rx;obtain ⟨its,r,ht,hz⟩:=I.tuple (eI.of hx);have hlen:its.toArray.size=xs.length:=by rw [aO];exact r.length.symm
  refine ⟨"tuple",_,PyProof.Rows.slot_tuple_getitem.lookup,ht.typeIs,?_⟩;refine HT.mX ht hs pl pu (by rw [hlen];exact hw.1) (by rw [hlen];exact hw.2) ?_;exact ⟨.ref a,H,I,rfl,q a H (aX.refl _) (by rw [BZ hw.1 hw.2];exact hx)⟩
 ·exact SU pins s σ H (.ref a) v vl vu lo hi sl Q I rx hs pl pu ⟨a,xs,rfl,eI.of hx,hw,λp hp=>q p _ (aX.upd hp) bL⟩
theorem jH{K:PySem.W.Frag}{H:Hp}{a:Addr}{xs:List V}{k:Nat}{Q:VK}(h:H a=some (.tup xs))(q:∀c H',aX H H'->H' c=some (.tup (xs.take k))->Q (.ref c) H'):sR K (.ref a) none (some (k:Int)) H Q:=by
 unfold sR;exact ⟨a,xs,rfl,h,λc H' s e=>q c H' s (by rw [e,ES])⟩
theorem IX{K:PySem.W.Frag}{H:Hp}{a:Addr}{xs:List V}{k:Nat}{Q:VK}(h:H a=some (.tup xs))(q:∀c H',aX H H'->H' c=some (.tup (xs.drop k))->Q (.ref c) H'):sR K (.ref a) (some (k:Int)) none H Q:=by
 unfold sR;exact ⟨a,xs,rfl,h,λc H' s e=>q c H' s (by rw [e,QD])⟩
theorem AI(l:Addr)(items:Array Value)(n:Nat)(dd:Option Addr)(sl:Array (Option Value))(u:Tok) :
  Meets (Builtin.«tuple.__mul__» ⟨[.ref l,.int 1 u],[]⟩) (λ_ R s=>s.heap.get? l=some { cls:=.type "tuple",dict:=dd,data:=.seq items n,slots:=sl }/\R (.ok (.ret (.ref l))) s) :=
 .of_wp λprog w A R s h=>by
  obtain ⟨hp,g,d,tk,os⟩:=s;obtain ⟨hl,h⟩:=h;have f1:=AutoSeq1.idx_int
  wp_walk using wpAny_loadPart' hl
  all_goals first | exact ⟨_,rfl,h⟩ | skip
theorem AJ(l:Addr)(items:Array Value)(n:Nat)(dd:Option Addr)(sl:Array (Option Value))(u:Tok)(he:items.isEmpty=false) :
  Meets (Builtin.«tuple.__mul__» ⟨[.ref l,.int 0 u],[]⟩) (λ_ R s=>s.heap.get? l=some { cls:=.type "tuple",dict:=dd,data:=.seq items n,slots:=sl }/\R (.ok (.ret (.ref s.heap.objs.size))) { s with heap:=s.heap.push { cls:=.type "tuple",data:=.seq #[] } }) :=
 .of_wp λprog w A R s h=>by
  obtain ⟨hp,g,d,tk,os⟩:=s;obtain ⟨hl,h⟩:=h;have f1:=AutoSeq1.idx_int
  wp_walk using wpAny_loadPart' hl
  all_goals first | exact ⟨_,rfl,h⟩ | skip
@[irreducible] def yJ:R2:=λx y H Q=>∃a z,∃k:Nat,x=.ref a/\y=.int (k:Int)/\H a=some (.tup [z])/\k<=64/\∀c H',aX H H'->H' c=some (.tup (List.replicate k z))->Q (.ref c) H'
theorem aBd{H:Hp}{Q:VK}{a:Addr}{z:V}{k:Nat}(h:H a=some (.tup [z]))(hk:k<=64)(q:∀c H',aX H H'->H' c=some (.tup (List.replicate k z))->Q (.ref c) H'):yJ (.ref a) (.int (k:Int)) H Q:=by
 unfold yJ;exact ⟨a,z,k,rfl,rfl,h,hk,q⟩
theorem OV:lN X (binaryOp .Mult) yJ:=by
 unfold yJ;intro pins s σ H x y v u Q I rx ry h;obtain ⟨a,z,k,rfl,rfl,hH,hk,q⟩:=h;by_cases h2:2<=k
 ·exact wQ pins s σ H _ _ v u Q I rx ry (VD hH h2 hk q)
 cases rx;obtain ⟨t,rfl⟩:=(show ∃t,u=Value.int (k:Int) t from ry);obtain ⟨its,r,p,_⟩:=I.tuple (eI.of hH);obtain ⟨w1,rfl,rw1⟩:=iG r;obtain ⟨⟨cls,dd,data,sl⟩,ho,hc,n,hd⟩:=id p;simp only at hc hd;subst hc hd;have hk2:k=0\/k=1:=Oo;rcases hk2 with rfl | rfl
 ·refine wpAny_binaryOp_repeat_ref (T := "tuple") (U := "int") Dd ⟨_,ho,rfl⟩ (λs'=>typeIs_int s' 0 t) iC F.fills_int_mul F.slot_int_rmul lA F.slot_int_index.lookup
   (call_meets F.slot_int_rmul (typeIs_int s 0 t) F.entry_int_rmul (F.args_int_rmul_2 _ _) (jL 0 t a [w1].toArray n dd sl) ⟨ho,rfl,⟨_,ho,rfl⟩,?_⟩)
  refine call_meets F.slot_tuple_mul ⟨_,ho,rfl⟩ F.entry_tuple_mul (F.args_tuple_mul_2 _ _) (AJ a [w1].toArray n dd sl t rfl) ⟨ho,?_⟩;refine ⟨.ref _,_,I.laid (t':=s.toks) (o:=.tup []) (λb ob q=>aB _ q) (aK _) ?_,rfl,q _ _ (aX.upd (I.hok.fresh (aK _))) bL⟩;exact ⟨⟨cB _,_,bB _ rfl,rfl⟩,[],.nil,IsTup.new _ _⟩
 ·refine wpAny_binaryOp_repeat_ref (T := "tuple") (U := "int") Dd ⟨_,ho,rfl⟩ (λs'=>typeIs_int s' 1 t) iC F.fills_int_mul F.slot_int_rmul lA F.slot_int_index.lookup
   (call_meets F.slot_int_rmul (typeIs_int s 1 t) F.entry_int_rmul (F.args_int_rmul_2 _ _) (jL 1 t a [w1].toArray n dd sl) ⟨ho,rfl,⟨_,ho,rfl⟩,?_⟩)
  refine call_meets F.slot_tuple_mul ⟨_,ho,rfl⟩ F.entry_tuple_mul (F.args_tuple_mul_2 _ _) (AI a [w1].toArray n dd sl t) ⟨ho,?_⟩;exact ⟨.ref a,H,I,rfl,q a H (aX.refl _) hH⟩
end
end L2
namespace HT
open PySem PySem.W PyProof.Rows
def cN{α:Type}(n:Nat)(lt:Nat->Nat->Bool)(R:α->Prop):KasT α->Prop
 | .ret a=>R a
 | .ask i j k=>i<n/\j<n/\cN n lt R (k (lt i j))
section
variable{n:Nat}{lt:Nat->Nat->Bool}
theorem cN.bind{α β:Type}{R:α->Prop}{S:β->Prop}{f:α->KasT β}:∀{t:KasT α},cN n lt R t->(∀a,R a->cN n lt S (f a))->cN n lt S (t.bind f)
 | .ret a,h,k=>k a h
 | .ask i j t,⟨h1,h2,h3⟩,k=>⟨h1,h2,cN.bind (t:=t (lt i j)) h3 k⟩
theorem cN.wp{α:Type}{R:α->Prop}{cmp:Nat->Nat->(Bool->Shared->Prop)->Shared->Prop}{Q:α->Shared->Prop}{s:Shared}(hc:∀i j C,i<n->j<n->C (lt i j) s->cmp i j C s)(q:∀a,R a->Q a s) :
  ∀{t:KasT α},cN n lt R t->t.kasWp cmp Q s
 | .ret a,h=>q a h
 | .ask i j t,⟨h1,h2,h3⟩=>hc i j _ h1 h2 (cN.wp (t:=t (lt i j)) hc q h3)
def eC(n:Nat)(p:Array Nat):Prop:=p.Perm (List.toArray (List.range n))
theorem eC.bd{p:Array Nat}(g:eC n p)(hn:0<n)(i:Nat):p.getD i 0<n:=by
 by_cases hi:i<p.size
 ·have e:p.getD i 0=p[i]:=by simp [Array.getD,hi]
  rw [e];have m:p[i]∈List.toArray (List.range n):=(Array.Perm.mem_iff g).mp (Array.getElem_mem hi);simpa using m
 ·have e:p.getD i 0=0:=by simp [Array.getD,hi]
  rw [e];exact hn
theorem eC.rev{p:Array Nat}(g:eC n p)(i j:Nat):eC n (kas_rev p i j):=(mirror_perm p i j _).trans g
theorem eC.bub{p:Array Nat}(g:eC n p)(i j:Nat):eC n (bubble p i j):=(bubble_perm p i j).trans g
theorem xM{p:Array Nat}(g:eC n p)(hn:0<n):∀(f m:Nat),cN n lt (λ_=>True) (kas_asc p f m)
 | 0,m=>True.intro
 | f+1,m=>⟨g.bd hn _,g.bd hn _,by
  cases lt (p.getD m 0) (p.getD (m-1) 0) with
  | true=>exact True.intro
  | false=>exact xM g hn f (m+1)⟩
theorem pL(hn:0<n):∀(f:Nat) {p:Array Nat}(g:eC n p) (m q:Nat),cN n lt (λr=>eC n r.1) (kas_desc f p m q)
 | 0,p,g,m,q=>g
 | f+1,p,g,m,q=>by
  refine ⟨g.bd hn _,g.bd hn _,?_⟩;cases lt (p.getD m 0) (p.getD (m-1) 0) with
  | true =>
   show cN n lt _ (if q > 0 then _ else _);split
   ·exact pL hn f (g.rev _ _) _ _
   ·exact pL hn f g _ _
  | false =>
   refine ⟨g.bd hn _,g.bd hn _,?_⟩;cases lt (p.getD (m-1) 0) (p.getD m 0) with
   | true=>exact g
   | false=>exact pL hn f g _ _
theorem vS{p:Array Nat}(g:eC n p)(hn:0<n)(m r:Nat):cN n lt (λr=>eC n r.2) (kas_tail3 m r p):=by
 unfold kas_tail3;exact (xM (g.rev 0 m) hn _ _).bind λ_ _=>g.rev 0 m
theorem pK{p:Array Nat}(g:eC n p)(hn:0<n)(m r:Nat):cN n lt (λr=>eC n r.2) (kas_descPart m r p):=by
 unfold kas_descPart;refine (pL hn _ g _ _).bind λr hr=>?_;split
 ·exact vS (eC.rev hr _ _) hn _ _
 ·exact vS hr hn _ _
theorem HK{p:Array Nat}(g:eC n p)(hn:0<n)(m:Nat):cN n lt (λr=>eC n r.2) (kas_count m p):=by
 unfold kas_count;refine (xM g hn _ _).bind λk _=>?_;split
 ·exact g
 ·split
  ·refine ⟨g.bd hn _,g.bd hn _,?_⟩;cases lt (p.getD 0 0) (p.getD (k-1) 0) with
   | true=>exact g
   | false=>exact pK (g.rev _ _) hn _ _
  ·exact pK g hn _ _
theorem qQ{p:Array Nat}(g:eC n p)(hn:0<n)(k:Nat):∀(f l r:Nat),cN n lt (λ_=>True) (kas_place p k f l r)
 | 0,l,r=>True.intro
 | f+1,l,r=>by
  unfold kas_place;split
  ·exact True.intro
  ·refine ⟨g.bd hn _,g.bd hn _,?_⟩;cases lt (p.getD k 0) (p.getD ((l+r)/2) 0) with
   | true=>exact qQ g hn k f _ _
   | false=>exact qQ g hn k f _ _
theorem FA(hn:0<n):∀(f:Nat) {p:Array Nat}(g:eC n p) (k:Nat),cN n lt (eC n) (kas_bin f p k)
 | 0,p,g,k=>g
 | f+1,p,g,k=>by
  unfold kas_bin;exact (qQ g hn k _ _ _).bind λl _=>FA hn f (g.bub _ _) _
theorem LY(hn:0<n):cN n lt (eC n) (kas_sort n):=by
 unfold kas_sort;refine (HK (Array.Perm.refl _) hn n).bind λr hr=>?_;split
 ·exact FA hn _ hr _
 ·exact hr
end
structure uD(n:Nat)(lt:Nat->Nat->Bool):Prop where
 tot:∀i j,i<n->j<n->i≠j->lt i j=false->lt j i=true
 tra:∀i j k,lt i j=true->lt j k=true->lt i k=true
def pP(lt:Nat->Nat->Bool)(p:Array Nat)(m:Nat):Prop:=∀a b,a<b->b<m->lt (p.getD a 0) (p.getD b 0)=true
def SJ(lt:Nat->Nat->Bool)(p:Array Nat)(m:Nat):Prop:=∀a b,a<b->b<m->lt (p.getD b 0) (p.getD a 0)=true
section
variable{n:Nat}{lt:Nat->Nat->Bool}
theorem cN.mono{α:Type}{R S:α->Prop}(k:∀a,R a->S a):∀{t:KasT α},cN n lt R t->cN n lt S t
 | .ret a,h=>k a h
 | .ask i j t,⟨h1,h2,h3⟩=>⟨h1,h2,cN.mono k (t:=t (lt i j)) h3⟩
theorem eC.size{p:Array Nat}(g:eC n p):p.size=n:=by
 have:=(Array.perm_iff_toList_perm.mp g).length_eq;simpa using this
theorem eC.ne{p:Array Nat}(g:eC n p){i j:Nat}(hi:i<n)(hj:j<n)(h:i≠j):p.getD i 0≠p.getD j 0:=by
 have hn:p.toList.Nodup:=(Array.perm_iff_toList_perm.mp g).nodup_iff.mpr (by simpa using List.nodup_range);have hs:=g.size;have e1:p.getD i 0=p.toList[i]'(by simpa [hs] using hi):=by simp [Array.getD,hs,hi]
 have e2:p.getD j 0=p.toList[j]'(by simpa [hs] using hj):=by simp [Array.getD,hs,hj]
 rw [e1,e2];intro e;exact h ((List.getElem_inj hn).mp e)
theorem pP.one{p:Array Nat}:pP lt p 1:=λa b h1 h2=>Oo
theorem pP.more(O:uD n lt){p:Array Nat}(g:eC n p){m:Nat}(h:pP lt p m)(h1:1<=m)(hm:m<n)(e:lt (p.getD m 0) (p.getD (m-1) 0)=false):pP lt p (m+1):=λa b hab hb=>by
 by_cases q:b<m
 ·exact h a b hab q
 ·have e':b=m:=Oo;subst e';have l1:lt (p.getD (b-1) 0) (p.getD b 0)=true:=O.tot _ _ (g.bd Oo _) (g.bd Oo _) (g.ne Oo Oo Oo) e;by_cases r:a=b-1
  ·rw [r];exact l1
  ·exact O.tra _ _ _ (h a (b-1) Oo Oo) l1
theorem xK(O:uD n lt){p:Array Nat}(g:eC n p):∀(f m:Nat),1<=m->m+f<=n->pP lt p m->cN n lt (λk=>m<=k/\k<=m+f/\pP lt p k/\(k<m+f->lt (p.getD k 0) (p.getD (k-1) 0)=true)) (kas_asc p f m)
 | 0,m,_,_,h=>⟨aK _,aK _,h,λq=>Oo⟩
 | f+1,m,h1,hm,h=>by
  refine ⟨g.bd Oo _,g.bd Oo _,?_⟩;cases e:lt (p.getD m 0) (p.getD (m-1) 0) with
  | true=>exact ⟨aK _,Oo,h,λ_=>e⟩
  | false =>
   refine (show cN n lt _ (kas_asc p f (m+1)) from ?_);have ih:=xK O g f (m+1) Oo Oo (h.more O g h1 Oo e);exact cN.mono (λk ⟨a1,a2,a3,a4⟩=>⟨Oo,Oo,a3,λq=>a4 Oo⟩) ih
theorem SJ.more(O:uD n lt){p:Array Nat}{m:Nat}(h:SJ lt p m)(h1:1<=m)(e:lt (p.getD m 0) (p.getD (m-1) 0)=true):SJ lt p (m+1):=λa b hab hb=>by
 by_cases q:b<m
 ·exact h a b hab q
 ·have e':b=m:=Oo;subst e';by_cases r:a=b-1
  ·rw [r];exact e
  ·exact O.tra _ _ _ e (h a (b-1) Oo Oo)
theorem zK(O:uD n lt){p:Array Nat}(g:eC n p):∀(f m:Nat),1<=m->m+f<=n->SJ lt p m->cN n lt (λr=>r.1=p/\r.2.2=0/\m<=r.2.1/\r.2.1<=m+f/\SJ lt p r.2.1) (kas_desc f p m 0)
 | 0,m,_,_,h=>⟨rfl,rfl,aK _,aK _,h⟩
 | f+1,m,h1,hm,h=>by
  refine ⟨g.bd Oo _,g.bd Oo _,?_⟩;cases e:lt (p.getD m 0) (p.getD (m-1) 0) with
  | true =>
   refine (show cN n lt _ (kas_desc f p (m+1) 0) from ?_);exact cN.mono (λr ⟨a1,a2,a3,a4,a5⟩=>⟨a1,a2,Oo,Oo,a5⟩) (zK O g f (m+1) Oo Oo (h.more O h1 e))
  | false =>
   refine ⟨g.bd Oo _,g.bd Oo _,?_⟩;rw [O.tot _ _ (g.bd Oo _) (g.bd Oo _) (g.ne Oo Oo Oo) e];exact ⟨rfl,rfl,aK _,(show m<=m+(f+1) by omega),h⟩
theorem JH{p:Array Nat}{m i:Nat}(hm:m<=p.size):(kas_rev p 0 m).getD i 0=if i<m then p.getD (m-1-i) 0 else p.getD i 0:=by
 have e:=getElem?_mirror (xs:=p) (i:=0) (j:=m) hm (m/2) Oo i;have e':(kas_rev p 0 m)[i]?=if (0<=i/\i<0+m/2)\/(m-m/2<=i/\i<m) then p[0+m-1-i]? else p[i]?:=e
 have g:∀(q:Array Nat) (k:Nat),q.getD k 0=q[k]?.getD 0:=λq k=>by simp [Array.getD_eq_getD_getElem?]
 rw [g,e',g,g];by_cases h:i<m
 ·rw [if_pos h];by_cases h2:(0<=i/\i<0+m/2)\/(m-m/2<=i/\i<m)
  ·rw [if_pos h2,show 0+m-1-i=m-1-i by omega]
  ·rw [if_neg h2,show m-1-i=i by omega]
 ·rw [if_neg h,if_neg Oo]
theorem SJ.rev{p:Array Nat}{m:Nat}(h:SJ lt p m)(hm:m<=p.size):pP lt (kas_rev p 0 m) m:=λa b hab hb=>by
 rw [JH hm,JH hm,if_pos Oo,if_pos hb];exact h _ _ Oo Oo
theorem GY(O:uD n lt){p:Array Nat}(g:eC n p)(hn:2<=n):cN n lt (λr=>eC n r.2/\1<=r.1/\r.1<=n/\pP lt r.2 r.1) (kas_count n p):=by
 unfold kas_count;refine (xK O g (n-1) 1 (aK _) Oo pP.one).bind λk ⟨k1,k2,k3,k4⟩=>?_;split
 ·exact ⟨g,k1,by show k<=n;omega,k3⟩
 ·rename_i hk
  have hkn:k≠n:=λe=>hk (by simp [e]);split
  ·refine ⟨g.bd Oo _,g.bd Oo _,?_⟩;rw [k3 0 (k-1) Oo Oo];exact ⟨g,k1,by show k<=n;omega,k3⟩
  ·have e1:k=1:=Oo;subst e1;unfold kas_descPart;have d2:SJ lt p 2:=λa b hab hb=>by
    have e:a=0/\b=1:=Oo;rw [e.1,e.2];exact k4 Oo
   refine (zK O g (n-2) 2 Oo Oo d2).bind λr ⟨r1,r2,r3,r4,r5⟩=>?_;obtain ⟨p',m,q⟩:=r;dsimp only at r1 r2 r3 r4 r5 ⊢;subst r1 r2;rw [if_neg Dd];unfold kas_tail3;have hs:=g.size;refine (xK O (g.rev 0 m) (n-m) m Oo Oo (r5.rev Oo)).bind λk' ⟨a1,a2,a3,_⟩=>?_;exact ⟨g.rev 0 m,(show 1<=k' by omega),(show k'<=n by omega),a3⟩
theorem pV(O:uD n lt){p:Array Nat}(g:eC n p){k:Nat}(hk:k<n)(h:pP lt p k):∀(f l r:Nat),l<=r->r<=k->r-l<=f->(∀a,a<l->lt (p.getD a 0) (p.getD k 0)=true)->(∀a,r<=a->a<k->lt (p.getD k 0) (p.getD a 0)=true) ->
  cN n lt (λm=>m<=k/\(∀a,a<m->lt (p.getD a 0) (p.getD k 0)=true)/\∀a,m<=a->a<k->lt (p.getD k 0) (p.getD a 0)=true) (kas_place p k f l r)
 | 0,l,r,h1,h2,h3,h4,h5=>⟨Oo,h4,λa q1 q2=>h5 a Oo q2⟩
 | f+1,l,r,h1,h2,h3,h4,h5=>by
  unfold kas_place;split
  ·exact ⟨Oo,h4,λa q1 q2=>h5 a Oo q2⟩
  ·refine ⟨g.bd Oo _,g.bd Oo _,?_⟩;cases e:lt (p.getD k 0) (p.getD ((l+r)/2) 0) with
   | true =>
    refine (show cN n lt _ (kas_place p k f l ((l+r)/2)) from ?_);refine pV O g hk h f l ((l+r)/2) Oo Oo Oo h4 λa q1 q2=>?_;by_cases q:a=(l+r)/2
    ·rw [q];exact e
    ·exact O.tra _ _ _ e (h _ _ Oo q2)
   | false =>
    refine (show cN n lt _ (kas_place p k f ((l+r)/2+1) r) from ?_);have e2:=O.tot _ _ (g.bd Oo _) (g.bd Oo _) (g.ne hk Oo Oo) e;refine pV O g hk h f ((l+r)/2+1) r Oo Oo Oo (λa q1=>?_) h5;by_cases q:a=(l+r)/2
    ·rw [q];exact e2
    ·exact O.tra _ _ _ (h a ((l+r)/2) Oo Oo) e2
theorem LU{p:Array Nat}{k m i:Nat}(hk:k<p.size)(hm:m<=k):(bubble p k (k-m)).getD i 0=if i=m then p.getD k 0 else if m<i/\i<=k then p.getD (i-1) 0 else p.getD i 0:=by
 have e:=getElem?_bubble (xs:=p) hk (k-m) Oo i;have g:∀(q:Array Nat) (k:Nat),q.getD k 0=q[k]?.getD 0:=λq k=>by simp [Array.getD_eq_getD_getElem?]
 rw [g,e,g,g,g,show k-(k-m)=m by omega];by_cases h:i=m
 ·rw [if_pos h,if_pos h]
 ·rw [if_neg h,if_neg h];by_cases h2:m<i/\i<=k
  ·rw [if_pos h2,if_pos h2]
  ·rw [if_neg h2,if_neg h2]
theorem EZ(O:uD n lt):∀(f:Nat) {p:Array Nat}(g:eC n p) (k:Nat),k+f=n->pP lt p k->cN n lt (λp=>eC n p/\pP lt p n) (kas_bin f p k)
 | 0,p,g,k,hk,h=>⟨g,by rw [<-hk];exact h⟩
 | f+1,p,g,k,hk,h=>by
  unfold kas_bin;refine (pV O g Oo h k 0 k Oo Oo Oo (λa q=>Oo) (λa q1 q2=>Oo)).bind λm ⟨m1,m2,m3⟩=>?_;have hs:=g.size;refine EZ O f (g.bub _ _) (k+1) Oo λa b hab hb=>?_;rw [LU Oo m1,LU Oo m1];by_cases ha:a=m
  ·rw [if_pos ha,if_neg Oo,if_pos Oo];exact m3 _ Oo Oo
  ·rw [if_neg ha];by_cases hb':b=m
   ·rw [if_pos hb',if_neg Oo];exact m2 a Oo
   ·rw [if_neg hb'];by_cases q1:m<a/\a<=k
    ·rw [if_pos q1,if_pos Oo];exact h _ _ Oo Oo
    ·rw [if_neg q1];by_cases q2:m<b/\b<=k
     ·rw [if_pos q2];exact h _ _ Oo Oo
     ·rw [if_neg q2];exact h _ _ hab Oo
theorem IW(O:uD n lt)(hn:2<=n):cN n lt (λp=>eC n p/\pP lt p n) (kas_sort n):=by
 unfold kas_sort;refine (GY O (Array.Perm.refl _) hn).bind λr ⟨h1,h2,h3,h4⟩=>?_;split
 ·rename_i q
  rw [Nat.max_eq_left h2];exact EZ O _ h1 _ Oo h4
 ·rename_i q
  have e:r.1=n:=Oo;exact ⟨h1,e ▸ h4⟩
end
end HT
namespace L2
open PySem PySem.Spec PySem.W PyProof.Rows HT
theorem oD{x:V}{xs:List V}{us:List Value}(r:cJ (x::xs) us):∃u us',us=u::us'/\cW x u/\cJ xs us':=by
 cases r with
 | cons h t=>exact ⟨_,_,rfl,h,t⟩
def yV(fin:Bool):List Int->List Int->Bool
 | x::a,y::b=>if x=y then yV fin a b else decide (x<y)
 | _,_=>fin
def eV(a b:List Int):Bool:=yV (decide (a.length<b.length)) a b
theorem oX(a:List Int):eV a []=false:=by
 unfold eV;cases a <;> rfl
theorem sC(y:Int)(b:List Int):eV [] (y::b)=true:=by unfold eV;rfl
theorem iT(x y:Int)(a b:List Int):eV (x::a) (y::b)=if x=y then eV a b else decide (x<y):=by
 show (if x=y then yV (decide ((x::a).length<(y::b).length)) a b else decide (x<y))=_;rw [bF,bF,show decide (a.length+1<b.length+1)=decide (a.length<b.length) by simp]
 rfl
theorem DU:∀{a b:List Int},a≠b->eV a b=false->eV b a=true
 | [],[],h,_=>absurd rfl h
 | [],y::b,_,e=>by rw [sC] at e;cases e
 | x::a,[],_,_=>sC _ _
 | x::a,y::b,h,e=>by
  rw [iT] at e ⊢;by_cases q:x=y
  ·subst q;rw [if_pos rfl] at e ⊢;exact DU (λz=>h (by rw [z])) e
  ·rw [if_neg q] at e;rw [if_neg (Ne.symm q)];have:=of_decide_eq_false e;exact aM Oo
theorem oW:∀{a b c:List Int},eV a b=true->eV b c=true->eV a c=true
 | a,b,[],_,h=>by rw [oX] at h;cases h
 | [],b,z::c,_,_=>sC _ _
 | x::a,[],z::c,h,_=>by rw [oX] at h;cases h
 | x::a,y::b,z::c,h1,h2=>by
  rw [iT] at h1 h2 ⊢;by_cases q1:x=y
  ·subst q1;rw [if_pos rfl] at h1;by_cases q2:x=z
   ·subst q2;rw [if_pos rfl] at h2 ⊢;exact oW h1 h2
   ·rw [if_neg q2] at h2 ⊢;exact h2
  ·rw [if_neg q1] at h1;have h1:=of_decide_eq_true h1;by_cases q2:y=z
   ·subst q2;rw [if_neg q1];exact aM h1
   ·rw [if_neg q2] at h2;have h2:=of_decide_eq_true h2;rw [if_neg Oo];exact aM Oo
theorem jT{a:List Int}:eV a a=false:=by
 induction a with
 | nil=>exact oX _
 | cons x a ih=>rw [iT,if_pos rfl];exact ih
theorem tE:∀{l m:List (List Int)},l.Pairwise (λa b=>eV a b=true)->m.Pairwise (λa b=>eV a b=true)->(∀x,x∈l↔x∈m)->l=m
 | [],[],_,_,_=>rfl
 | [],y::m,_,_,h=>by have:=(h y).mpr (aF ..);cases this
 | x::l,[],_,_,h=>by have:=(h x).mp (aF ..);cases this
 | x::l,y::m,h1,h2,h=>by
  obtain ⟨a1,a2⟩:=List.pairwise_cons.mp h1;obtain ⟨b1,b2⟩:=List.pairwise_cons.mp h2;have e:x=y:=by
   rcases aR.mp ((h x).mp (aF ..)) with q | q
   ·exact q
   ·rcases aR.mp ((h y).mpr (aF ..)) with r | r
    ·exact r.symm
    ·have:=oW (b1 x q) (a1 y r);rw [jT] at this;cases this
  subst e;rw [tE a2 b2 λz=>?_];constructor
  ·intro q;rcases aR.mp ((h z).mp (aD _ q)) with r | r
   ·subst r;have:=a1 z q;rw [jT] at this;cases this
   ·exact r
  ·intro q;rcases aR.mp ((h z).mpr (aD _ q)) with r | r
   ·subst r;have:=b1 z q;rw [jT] at this;cases this
   ·exact r
abbrev pO(cs:List (List Int)):Nat->Nat->Bool:=λi j=>eV (cs.getD i []) (cs.getD j [])
theorem BL{cs:List (List Int)}(h:cs.Nodup):uD cs.length (pO cs):=⟨λi j hi hj ne e=>DU (λz=>by
  have e1:cs.getD i []=cs[i]:=by simp [hi]
  have e2:cs.getD j []=cs[j]:=by simp [hj]
  rw [e1,e2] at z;exact ne ((List.getElem_inj h).mp z)) e,λi j k h1 h2=>oW h1 h2⟩
section
variable{prog:Program}{w:World}{A:Around}{E:Value->Shared->Prop}{s:Shared}{Q:Bool->Shared->Prop}
theorem rC{fin:Bool}:∀{a b:List Int}{us vs:List Value}{i:Nat},cJ (a.map V.int) us->cJ (b.map V.int) vs->Q (yV fin a b) s->KatLex prog w A true fin Q (us.zip vs) i s
 | [],b,us,vs,i,ha,hb,q=>by cases ha;exact kat_nil (by unfold yV at q;exact q)
 | x::a,[],us,vs,i,ha,hb,q=>by
  cases hb;cases us with
  | nil=>exact kat_nil (by unfold yV at q;exact q)
  | cons u us=>exact kat_nil (by unfold yV at q;exact q)
 | x::a,y::b,us,vs,i,ha,hb,q=>by
  rw [aV] at ha hb;obtain ⟨u,us',rfl,⟨t,rfl⟩,ra⟩:=oD ha;obtain ⟨v,vs',rfl,⟨t',rfl⟩,rb⟩:=oD hb;rw [List.zip_cons_cons];refine kat_cons (wpAny_eqBool_int ?_);unfold yV at q;by_cases h:x=y
  ·rw [if_pos h] at q;rw [show (x == y)=true by simp [h]];exact kat_yes (rC ra rb q)
  ·rw [if_neg h] at q;rw [show (x == y)=false by simp [h]];refine kat_no ?_;cases (true&&i == 0) with
   | true=>exact oneLt_int q
   | false=>exact kat_one _ _ (lt_int q)
def SH(h:Heap)(v:Value)(c:List Int):Prop:=∃b its,v=.ref b/\IsTup h b (List.toArray its)/\cJ (c.map V.int) its/\c≠[]
abbrev gM(h:Heap):List Value->List (List Int)->Prop:=Paired (SH h)
theorem gM.get{h:Heap}:∀{vs:List Value}{cs:List (List Int)}{i:Nat},gM h vs cs->i<vs.length->SH h (vs.getD i Value.none) (cs.getD i [])
 | _,_,_,.nil,hi=>by simp at hi
 | _,_,0,.cons t r,hi=>t
 | v::vs,c::cs,i+1,.cons t r,hi=>by
  have:=gM.get (i:=i) r (by simpa using hi);simpa using this
theorem gM.firsts{h:Heap}:∀{vs:List Value}{cs:List (List Int)},gM h vs cs->∃fs,KatTups h vs fs/\fs.length=vs.length/\∀v∈fs,∃i t,v=Value.int i t
 | _,_,.nil=>⟨[],KatTups.nil,rfl,λv hv=>by cases hv⟩
 | v::vs,c::cs,.cons t r=>by
  obtain ⟨fs,h1,h2,h3⟩:=gM.firsts r;obtain ⟨b,its,rfl,⟨o,ho,hc,n,hd⟩,hv,hne⟩:=t;cases c with
  | nil=>exact absurd rfl hne
  | cons x c =>
   rw [aV] at hv;obtain ⟨u,us,rfl,⟨t,rfl⟩,_⟩:=oD hv;exact ⟨.int x t::fs,KatTups.cons ho hc hd (by simp) h1,by simp [h2],λv hv=>by
    rcases aR.mp hv with rfl | hv
    ·exact ⟨_,_,rfl⟩
    ·exact h3 v hv⟩
theorem gM.keep{h h':Heap}(k:∀b o,h.get? b=some o->o.cls=.type "tuple" -> h'.get? b=some o):∀{vs:List Value}{cs:List (List Int)},gM h vs cs->gM h' vs cs
 | _,_,.nil=>.nil
 | _,_,.cons ⟨b,its,e,⟨o,ho,hc,hd⟩,hv,hne⟩ r=>.cons ⟨b,its,e,⟨o,k b o ho hc,hc,hd⟩,hv,hne⟩ (gM.keep k r)
theorem yC{n:Nat}{lt:Nat->Nat->Bool}(hn:2<=n):cN n lt (λp=>eC n p/\(uD n lt->pP lt p n)) (kas_sort n):=by
 by_cases O:uD n lt
 ·exact cN.mono (λp h=>⟨h.1,λ_=>h.2⟩) (IW O hn)
 ·exact cN.mono (λp h=>⟨h,λz=>absurd z O⟩) (LY Oo)
theorem uT{a:Addr}{vs:List Value}{cs:List (List Int)}{n:Nat}{P:PySem.Fin->Shared->Prop}(ho:s.heap.get? a=some (seqObj "list" vs.toArray n))(ht:gM s.heap vs cs)(h64:vs.length<64)
  (h:∀p:Array Nat,eC vs.length p->(uD vs.length (pO cs)->pP (pO cs) p vs.length)->P (.done (.ret .none)) { s with heap:=sortedHeap s.heap a vs (List.toArray (p.toList.map λi=>vs.getD i Value.none)) }) :
  wpAny (model prog w) A (Builtin.«list.sort» ⟨[.ref a],[]⟩) P E s:=by
 rw [list_sort_plain];have ha:a<s.heap.objs.size:=aY ho;refine wpAny_bind (listItems_at ho rfl ?_);refine wpAny_bind (listUpdate_at ho rfl ?_ (by rw [aO,sizeLine_eq];omega) (cB _));obtain ⟨e1,ho1⟩:∃e1,(s.heap.update a (Obj.mapSeq λ_=>#[])).get? a=some (seqObj "list" #[] e1):=⟨_,get?_update_seq ho (λ_=>#[])⟩;refine wpAny_bind (seqEpoch_at ho1 rfl ?_);refine wpAny_bind (wpAny_newTuple ?_ (by show vs.length<=_;rw [sizeLine_eq];omega));refine wpAny_bind (wpAny_newList ?_ (cB _));refine wpAny_holding ?_;have ho6:(((s.heap.update a (Obj.mapSeq λ_=>#[])).push (seqObj "tuple" vs.toArray 0)).push (seqObj "list" #[] 0)).get? a=some (seqObj "list" #[] e1):=by
  rw [Heap.get?_push_ne _ _ _ (by rw [size_push',Heap.size_update];exact bT (Nat.lt_succ_of_lt ha)),Heap.get?_push_ne _ _ _ (by rw [Heap.size_update];exact bT ha)];exact ho1
 show wpAny (model prog w) A _ P E { s with heap:=((s.heap.update a (Obj.mapSeq λ_=>#[])).push (seqObj "tuple" vs.toArray 0)).push (seqObj "list" #[] 0) };dsimp only;have fin:∀st':SortSt,∀p:Array Nat,eC vs.length p->(uD vs.length (pO cs)->pP (pO cs) p vs.length)->(arrOf st').map (·.2)=List.toArray (p.toList.map λi=>vs.getD i Value.none) ->
   P (.done (.ret .none)) { s with heap:=sortedHeap s.heap a vs ((arrOf st').map (·.2)) }:=by
  intro st' p hp ho hs;rw [hs];exact h p hp ho
 have ht6:gM (((s.heap.update a (Obj.mapSeq λ_=>#[])).push (seqObj "tuple" vs.toArray 0)).push (seqObj "list" #[] 0)) vs cs:=ht.keep λb o hb hc=>by
  have hne:b≠a:=λe=>by
   subst e;rw [ho] at hb;cases hb;exact absurd (show Value.type "list" = Value.type "tuple" from hc) Dd
  exact aB _ (aB _ (by rw [cL _ _ _ _ hne];exact hb))
 by_cases h2:vs.toArray.size<2
 ·rw [if_pos h2,if_pos h2];refine wpAny_bind (wpAny_pure ?_);rw [StateT.run_pure];refine wpAny_bind (wpAny_pure ?_);dsimp only;refine wpAny_bind (seqEpoch_at ho6 rfl ?_);refine wpAny_bind (listUpdate_at ho6 rfl ?_ (hsz2:=by rw [Array.size_map];show (pairsOf vs).size<=_;rw [pairsOf_size,sizeLine_eq];omega));simp only [bne_self_eq_false,Bool.false_eq_true,if_false];refine wpAny_pure (fin (SortSt.mk' general' (vs.toArray.zip vs.toArray) #[] 7 none) (List.toArray (List.range vs.length)) (Array.Perm.refl _) (λ_ a b h1 h3=>by rw [aO] at h2;omega) ?_);have e:=kat_snds (ks:=vs) (vs:=vs) (st:=SortSt.mk' general' (vs.toArray.zip vs.toArray) #[] 7 none) (p:=List.toArray (List.range vs.length)) rfl (by
   have e:=kas_range (vs.toArray.zip vs.toArray);rw [show (vs.toArray.zip vs.toArray).size=vs.length by simp] at e;exact e.symm)
  exact e
 ·rw [if_neg h2,if_neg h2];have hl2:2<=vs.length:=by rw [aO] at h2;omega
  obtain ⟨fs,k1,k2,k3⟩:=ht6.firsts;refine wpAny_bind (kat_kind (T:=.type "int") k1 Oo (λv hv=>?_) rfl ?_)
  ·obtain ⟨i,t,rfl⟩:=k3 v hv;exact .now
  refine wpAny_bind (wpAny_mono (kat_run (ks:=vs) (vs:=vs) (G:=λp s'=>s'={ s with heap:=((s.heap.update a (Obj.mapSeq λ_=>#[])).push (seqObj "tuple" vs.toArray 0)).push (seqObj "list" #[] 0) }/\eC vs.length p/\(uD vs.length (pO cs)->pP (pO cs) p vs.length))
   (Q:=λst' s'=>s'={ s with heap:=((s.heap.update a (Obj.mapSeq λ_=>#[])).push (seqObj "tuple" vs.toArray 0)).push (seqObj "list" #[] 0) }/\failedOf st'=none/\∃p:Array Nat,p.size=vs.length/\(eC vs.length p/\(uD vs.length (pO cs)->pP (pO cs) p vs.length))/\arrOf st'=p.map (kas_item (vs.toArray.zip vs.toArray)))
   rfl hl2 h64 (λp' st' s' a1 a2 a3 a4=>⟨a4.1,a3,p',a1,a4.2,a2⟩)
   (cN.wp (n:=vs.length) (lt:=pO cs) (R:=λp=>eC vs.length p/\(uD vs.length (pO cs)->pP (pO cs) p vs.length)) (λi j C hi hj hC=>?_) (λp hp=>⟨rfl,hp⟩) (yC hl2))) ?_ λ_ _ e=>e)
  ·obtain ⟨b,its,e1',⟨o,hb,hc,n',hd⟩,hv,_⟩:=ht6.get hi;obtain ⟨b2,its2,e2',⟨o2,hb2,hc2,n2,hd2⟩,hv2,_⟩:=ht6.get hj;unfold kas_ask;rw [e1',e2'];refine kat_lt hb hd hb2 hd2 ?_;refine rC hv hv2 ?_;have l1:=hv.length;have l2:=hv2.length;rw [aA] at l1 l2;rw [aO,aO,<-l1,<-l2];exact hC
  rintro ⟨⟨⟩,st'⟩ s' ⟨rfl,hf,p,hp,hg,har⟩;dsimp only;have hout:=kat_snds rfl har;refine wpAny_bind (seqEpoch_at ho6 rfl ?_);refine wpAny_bind (listUpdate_at ho6 rfl ?_ (hsz2:=by rw [hout,aO,aA,Array.length_toList,hp,sizeLine_eq];omega));rw [hf];simp only [bne_self_eq_false,Bool.false_eq_true,if_false];exact wpAny_pure (fin st' p hg.1 hg.2 hout)
theorem yB{l:Addr}{vs:List Value}{cs:List (List Int)}{Q:Value->Shared->Prop}(hl:s.heap.IsList l vs.toArray)(ht:gM s.heap vs cs)(h64:vs.length<64)
  (h:∀(p:Array Nat) (h':Heap) (D:Addr) (c:Nat),eC vs.length p->(uD vs.length (pO cs)->pP (pO cs) p vs.length)->(∀b o,s.heap.get? b=some o->h'.get? b=some o)->s.heap.objs.size<=D->h'.get? D=some (seqObj "list" (List.toArray (p.toList.map λi=>vs.getD i Value.none)) c)->Q (.ref D) { s with heap:=h' }) :
  wpAny (model prog w) A (call (.builtin "sorted") [.ref l]) Q E s:=by
 refine Calls.call_function_entry kind_sorted plain_sorted entry_sorted (args_sorted1 _) ?_;unfold Builtin.«sorted»;refine wpAny_bind (m:=checkCount "sorted" 1 1 _) (wpAny_pure ?_);refine wpAny_bind (collect_list hl ?_ (by rw [sizeLine_eq];omega));refine wpAny_bind (wpAny_newList ?_ (by rw [sizeLine_eq];omega));have hsz:((s.heap.push (seqObj "list" #[] 0)).update s.heap.objs.size (Obj.mapSeq (· ++ vs.toArray))).objs.size=s.heap.objs.size+1:=by
  rw [Heap.size_update,size_push']
 have hoL:(((s.heap.push (seqObj "list" #[] 0)).update s.heap.objs.size (Obj.mapSeq (· ++ vs.toArray))).push (seqObj "list" vs.toArray 0)).get? (s.heap.objs.size+1)=some (seqObj "list" vs.toArray 0):=by
  rw [<-hsz];exact bB _ rfl
 have keep:∀b o,s.heap.get? b=some o->(((s.heap.push (seqObj "list" #[] 0)).update s.heap.objs.size (Obj.mapSeq (· ++ vs.toArray))).push (seqObj "list" vs.toArray 0)).get? b=some o:=λb o q=>by
  have hlt:b<s.heap.objs.size:=aY q;rw [Heap.get?_push_ne _ _ _ (by rw [hsz];exact bT (Nat.lt_succ_of_lt hlt)),cL _ _ _ _ (bT hlt),Heap.get?_push_ne _ _ _ (bT hlt)];exact q
 show wpAny _ _ _ _ _ { s with heap:=((s.heap.push (seqObj "list" #[] 0)).update s.heap.objs.size (Obj.mapSeq (· ++ vs.toArray))).push (seqObj "list" vs.toArray 0) };rw [hsz];refine wpAny_bind (wpAny_holding (wpAny_call_entry slot_list_sort ⟨_,hoL,rfl⟩ entry_list_sort ?body (args_list_sort _)));generalize hH:((s.heap.push (seqObj "list" #[] 0)).update s.heap.objs.size (Obj.mapSeq (· ++ vs.toArray))).push (seqObj "list" vs.toArray 0)=h1 at *;refine uT (s:={ s with heap:=h1 }) hoL (ht.keep λb o hb _=>keep b o hb) h64 λp hp ho=>⟨_,rfl,wpAny_pure ⟨_,rfl,?_⟩⟩;have hD:s.heap.objs.size+1<h1.objs.size:=aY hoL;unfold sortedHeap;have o1:(h1.update (s.heap.objs.size+1) (Obj.mapSeq λ_=>#[])).get? (s.heap.objs.size+1)=some (seqObj "list" #[] _):=get?_update_seq hoL (λ_=>#[]);have o2:=aB (seqObj "list" #[] 0) (aB (seqObj "tuple" vs.toArray 0) o1);refine h p _ (s.heap.objs.size+1) _ hp ho (λb o q=>?_) (Nat.le_succ _) (get?_update_seq o2 λ_=>List.toArray (p.toList.map λi=>vs.getD i Value.none));have hlt:b<s.heap.objs.size:=aY q;have hne:b≠s.heap.objs.size+1:=bT (Nat.lt_succ_of_lt hlt);rw [cL _ _ _ _ hne];exact aB _ (aB _ (by rw [cL _ _ _ _ hne];exact keep b o q))
end
@[irreducible] def sB(K:PySem.W.Frag):List V->Hp->VK->Prop:=λxs H Q=>∃(p:Addr) (ys:List V) (cs:List (List Int)),xs=[.ref p]/\gG K H p ys/\aL H (cs.map λc=>PyData.tuple (c.map .int)) ys/\(∀c∈cs,c≠[])/\ys.length<64 /\
 ∀q (ix:List Nat) H',ix.Perm (List.range ys.length)->(cs.Nodup->(ix.map λi=>cs.getD i []).Pairwise λa b=>eV a b=true)->H q=none->H' q=some (.lst (ix.map λi=>ys.getD i .non))->aX H H'->Q (.ref q) H'
theorem rsrt{K:PySem.W.Frag}{H:Hp}{Q:VK}{p:Addr}{ys:List V}{cs:List (List Int)}(h:gG K H p ys)(r:aL H (cs.map λc=>PyData.tuple (c.map .int)) ys)(hc:∀c∈cs,c≠[])(hz:ys.length<64)
  (q:∀q (ix:List Nat) H',ix.Perm (List.range ys.length)->(cs.Nodup->(ix.map λi=>cs.getD i []).Pairwise λa b=>eV a b=true)->H q=none->H' q=some (.lst (ix.map λi=>ys.getD i .non))->aX H H'->Q (.ref q) H'):sB K [.ref p] H Q:=by
 unfold sB;exact ⟨p,ys,cs,rfl,h,r,hc,hz,q⟩
theorem vX{X:Cx}{pins:List (Addr × Obj)}{σ:St}{H:Hp}{s:Shared}(I:bY X pins σ H s):∀{cs:List (List Int)}{ys:List V}{us:List Value},aL H (cs.map λc=>PyData.tuple (c.map .int)) ys->(∀c∈cs,c≠[])->cJ ys us->gM s.heap us cs
 | [],ys,us,r,hc,v=>by
  unfold aL at r;cases (show ys=[] from r);cases v;exact .nil
 | c::cs,ys,us,r,hc,v=>by
  rw [aV] at r;unfold aL at r;obtain ⟨y,ys',rfl,r1,r2⟩:=r;obtain ⟨u,us',rfl,rv,v'⟩:=oD v;refine .cons ?_ (vX I r2 (λc h=>hc c (aD _ h)) v');unfold bR at r1;obtain ⟨a,xs,rfl,h1,h2⟩:=r1;cases rv;obtain ⟨its,rr,pl,hzz⟩:=I.tuple (eI.of h1);have hx:xs=c.map V.int:=by
   clear rr h1 hc hzz
   induction c generalizing xs with
   | nil=>unfold aL at h2;exact h2
   | cons z c ih =>
    rw [aV] at h2;unfold aL at h2;obtain ⟨x,xs',rfl,h3,h4⟩:=h2;cases (show x=V.int z from h3);rw [ih _ h4];rfl
  subst hx;exact ⟨a,its,rfl,pl,rr,hc c (aF ..)⟩
theorem rX{ys:List V}{us:List Value}(v:cJ ys us):∀ix:List Nat,(∀i∈ix,i<ys.length)->cJ (ix.map λi=>ys.getD i .non) (ix.map λi=>us.getD i Value.none)
 | [],_=>.nil
 | i::ix,h=>by
  have hi:=h i (aF ..);obtain ⟨u,hu,ru⟩:=v.get (i:=i) (x:=ys[i]) (by simp [hi]);refine .cons ?_ (rX v ix λj hj=>h j (aD _ hj));have e1:ys.getD i .non=ys[i]:=by simp [hi]
  have e2:us.getD i Value.none=u:=by rw [bJ,hu];rfl
  show cW (ys.getD i .non) (us.getD i Value.none);rw [e1,e2];exact ru
theorem WJ{X:Cx}(K:PySem.W.Frag)(hK:X.K=K:=by rfl):eW X (.builtin "sorted") (sB K):=by
 subst hK;unfold sB;intro pins s σ H xs us Q I r h;obtain ⟨p,ys,cs,rfl,hq,rep,hc,hz,q⟩:=h;obtain ⟨u,rfl,rx⟩:=iG r;cases rx;obtain ⟨its,r',pl,hz'⟩:=I.list hq;have hlen:=r'.length;obtain ⟨o,n,ho,hcl,hdd,hd⟩:=pl;refine yB ⟨o,ho,hcl,n,hd⟩ (vX I rep hc r') Oo λpm h' D c hg ho keep hD hget=>?_;have hperm:pm.toList.Perm (List.range ys.length):=by
  have:=(Array.perm_iff_toList_perm.mp hg);rw [hlen];simpa using this
 have hlt:∀i∈pm.toList,i<ys.length:=λi hi=>by
  have:=hperm.mem_iff.mp hi;simpa using this
 have hl2:(pm.toList.map λi=>ys.getD i .non).length=ys.length:=by rw [aA,hperm.length_eq,cE]
 refine ⟨.ref D,upd H D (.lst (pm.toList.map λi=>ys.getD i .non)),I.laid (t':=s.toks) keep hD ⟨by rw [hl2];exact hz',_,c,rX r' _ hlt,hget⟩,rfl,?_⟩;have hn:=I.hok.fresh hD;refine q D pm.toList _ hperm (λhnd=>?_) hn bL (aX.upd hn);have lcs:cs.length=its.length:=by rw [<-hlen,rep.len,aA]
 have ha:=ho (lcs ▸ BL hnd);have hsz:=hg.size;rw [List.pairwise_map,List.pairwise_iff_getElem];intro i j hi hj hij;have hi':i<pm.size:=by simpa using hi
 have hj':j<pm.size:=by simpa using hj
 have e1:pm.toList[i]=pm.getD i 0:=by rw [Array.getElem_toList];exact (by simp [Array.getD,hi']:pm.getD i 0=pm[i]).symm
 have e2:pm.toList[j]=pm.getD j 0:=by rw [Array.getElem_toList];exact (by simp [Array.getD,hj']:pm.getD j 0=pm[j]).symm
 rw [e1,e2];exact ha i j hij (by rw [<-hsz];simpa using hj)
abbrev cD(c:List Int):PyData:=.tuple (c.map .int)
theorem aBl(x y:Int):PyData.eqv (.int x) (.int y)=decide (x=y):=by
 show (x == y)=_;rw [Bool.beq_eq_decide_eq]
theorem SC:∀a b:List Int,PyData.eqvAll (a.map PyData.int) (b.map PyData.int)=decide (a=b)
 | [],[]=>by simp [PyData.eqvAll]
 | [],_::_=>by simp [PyData.eqvAll]
 | _::_,[]=>by simp [PyData.eqvAll]
 | x::a,y::b=>by
  have ih:=SC a b;rw [aV,aV];show (PyData.eqv (.int x) (.int y)&&PyData.eqvAll _ _)=_;rw [ih,aBl];by_cases h:x=y <;> by_cases h':a=b <;> simp [h,h']
theorem PY(a b:List Int):PyData.eqv (cD a) (cD b)=decide (a=b):=SC a b
theorem oY:∀a:List Int,PyData.canLayAll0 (a.map PyData.int)=true
 | []=>rfl
 | x::a=>by
  show (PyData.canLay0 (.int x)&&PyData.canLayAll0 (a.map PyData.int))=true;rw [oY a];rfl
theorem vL:∀a:List Int,PyData.depthAll (a.map PyData.int)<=1
 | []=>by show 0<=1;omega
 | x::a=>by
  have:=vL a;show max (PyData.depth (.int x)) (PyData.depthAll (a.map PyData.int))<=1;have:PyData.depth (.int x)<=1:=by simp [PyData.depth]
  omega
theorem LR{H:Hp}{c:List Int}{v:V}(h:bR H (cD c) v):∃a,v=.ref a/\H a=some (.tup (c.map V.int)):=by
 unfold bR at h;obtain ⟨a,xs,rfl,h1,h2⟩:=h;have hx:xs=c.map V.int:=by
  clear h1
  induction c generalizing xs with
  | nil=>unfold aL at h2;exact h2
  | cons z c ih =>
   rw [aV] at h2;unfold aL at h2;obtain ⟨x,xs',rfl,h3,h4⟩:=h2;cases (show x=V.int z from h3);rw [ih _ h4];rfl
 subst hx;exact ⟨a,rfl,h1⟩
theorem yS{a b:List Int}(h:a.map V.int=b.map V.int):a=b:=by
 induction a generalizing b with
 | nil=>cases b with
  | nil=>rfl
  | cons _ _=>cases h
 | cons x a ih=>cases b with
  | nil=>cases h
  | cons y b =>
   rw [aV,aV] at h;injection h with h1 h2;injection h1 with h1;rw [h1,ih h2]
open Classical in
noncomputable def MK (H:Hp) (c:List Int) (u:Value):Bool:=decide (∃b,u=.ref b/\H b=some (.tup (c.map V.int)))
section
variable{X:Cx}{pins:List (Addr × Obj)}{σ:St}{H:Hp}{s:Shared}
theorem KZ{c c':List Int}{y:V}{u:Value}(h:bR H (cD c') y)(r:cW y u):MK H c u=decide (c'=c):=by
 obtain ⟨a,rfl,ha⟩:=LR h;cases r;unfold MK;rw [Bool.eq_iff_iff];simp only [decide_eq_true_eq];constructor
 ·rintro ⟨b,e2,hb⟩;cases e2;rw [ha] at hb;injection hb with hb;injection hb with hb;exact yS hb
 ·rintro rfl;exact ⟨a,rfl,ha⟩
theorem xC{c:List Int}:∀{cs:List (List Int)}{ys:List V}{us:List Value},aL H (cs.map cD) ys->cJ ys us->us.any (MK H c)=decide (c∈cs)
 | [],ys,us,r,v=>by
  unfold aL at r;cases (show ys=[] from r);cases v
  rfl
 | c' :: cs,ys,us,r,v=>by
  rw [aV] at r;unfold aL at r;obtain ⟨y,ys',rfl,r1,r2⟩:=r;obtain ⟨u,us',rfl,rv,v'⟩:=oD v;rw [List.any_cons,KZ r1 rv,xC r2 v'];by_cases h:c'=c
  ·subst h;simp
  ·have h':¬c=c':=λe=>h e.symm;simp [h,h']
theorem xB(I:bY X pins σ H s)(hu:X.A.units+64<cLine){c:List Int}{v:Value}{as:List Addr}(rc:Reads s.heap v (cD c) as):∀{cs:List (List Int)}{ys:List V}{us:List Value},aL H (cs.map cD) ys->cJ ys us ->
  ∀u∈us,SeqAt.EqAt X.A.in1 s u v (MK H c u)
 | [],ys,us,r,vv=>by
  unfold aL at r;cases (show ys=[] from r);cases vv;exact λu hu=>by cases hu
 | c' :: cs,ys,us,r,vv=>by
  rw [aV] at r;unfold aL at r;obtain ⟨y,ys',rfl,r1,r2⟩:=r;obtain ⟨u,us',rfl,rv,v'⟩:=oD vv;intro u' hu';rcases aR.mp hu' with rfl | hu'
  ·obtain ⟨bs,rb⟩:=r1.reads I rv;rw [KZ r1 rv,<-PY];refine SeqAt.eqAt_reads (cD c') (cD c) _ s _ _ bs as rb rc (oY c') (oY c) ?_;have h1:(cD c').depth<=2:=by
    have:=vL c';simp only [PyData.depth];omega
   have:X.A.in1.units<=X.A.units+1:=by
    first
     | exact aK _
     | (unfold Around.in1;simp)
   omega
  ·exact xB I hu rc r2 v' u' hu'
end
@[irreducible] def NR(K:PySem.W.Frag)(neg:Bool):R2:=λx y H Q=>∃(p:Addr) (ys:List V) (cs:List (List Int)) (c:List Int),y=.ref p/\(gG K H p ys\/eI K H p ys)/\aL H (cs.map cD) ys/\cO K H (cD c) x/\Q (.bl (if neg then !decide (c∈cs) else decide (c∈cs))) H
theorem riT{K:PySem.W.Frag}{neg:Bool}{x:V}{p:Addr}{ys:List V}{cs:List (List Int)}{c:List Int}{H:Hp}{Q:VK}(h:gG K H p ys\/eI K H p ys)(r:aL H (cs.map cD) ys)(rx:cO K H (cD c) x)(q:Q (.bl (if neg then !decide (c∈cs) else decide (c∈cs))) H):NR K neg x (.ref p) H Q:=by
 unfold NR;exact ⟨p,ys,cs,c,rfl,h,r,rx,q⟩
section
variable{X:Cx}
theorem GI(K:PySem.W.Frag)(hu:X.A.units+64<cLine)(hK:X.K=K:=by rfl):lN X (compareOp .NotIn) (NR K true):=by
 subst hK;unfold NR;intro pins s σ H x y v u Q I rx ry h;obtain ⟨p,ys,cs,c,rfl,hq,r,rc,q⟩:=h;cases ry;obtain ⟨as,ra⟩:=rc.reads I rx;rcases hq with hq | hq
 ·obtain ⟨its,r',pl,hz⟩:=I.list hq;refine SeqAt.notIn_listAt (MK H c) pl.isList (λw hw=>xB I hu ra r r' w (by simpa using hw)) ⟨.bl _,H,I,rfl,?_⟩;rw [show its.toArray.any (MK H c)=its.any (MK H c) by simp,xC r r'];exact q
 ·obtain ⟨its,r',pl,hz⟩:=I.tuple hq;refine SeqAt.notIn_tupleAt (MK H c) pl (λw hw=>xB I hu ra r r' w (by simpa using hw)) ⟨.bl _,H,I,rfl,?_⟩;rw [show its.toArray.any (MK H c)=its.any (MK H c) by simp,xC r r'];exact q
end
end L2
namespace HT
open PySem PySem.Spec PyProof.Rows PySem.Builtin
theorem uE:typeLookup (.type "tuple") "keys" = pure none:=am_miss_of_fast Kk
section
variable{prog:Program}{w:World}{A:Around}{E:Value->Shared->Prop}{s:Shared}
theorem vB{a:Addr}{o:Obj}{xs:Array Value}{k:Nat}{Q:Option Value->Shared->Prop}(hx:s.heap.get? a=some o)(hc:o.cls=.type "tuple")(hdat:o.data=.seq xs k)(hd:o.dict=none)(hA:A.handled=none)
  (h:∀h' tk,(∀b u,s.heap.get? b=some u->h'.get? b=some u)->Q none { s with heap:=h',toks:=tk }):wpAny (model prog w) A (getAttr? (.ref a) "keys") Q E s:=by
 obtain ⟨c,dct,dat,sl⟩:=o;simp only at hc hdat hd;subst hc hdat hd;obtain ⟨hp,g,d,tk,os⟩:=s;have hT:∀tk',(⟨hp,g,d,tk',os⟩:Shared).TypeIs (.ref a) "tuple" := λ_=>⟨_,hx,rfl⟩;have f1:=sub_AttributeError;have f3:=F.slot_tuple_getattribute.lookup;have f4:=F.slot_tuple_getattribute.bind (.ref a);have f5:=am_tuple_getattr_none;unfold getAttr? getAttrBy? getAttrBy
 repeat (any_goals (first | assumption | exact hT _ | ((with_reducible show wpAny _ _ (call (Value.builtin "tuple.__getattribute__") _ _) _ _ _);refine call_meets F.slot_tuple_getattribute (hT _) am_entry_tuple_getattribute (F.args_tuple_getattribute_2 _ _) (meets_getattribute_miss_tuple a xs k sl "keys" _ uE Dd) ⟨hx,hA,λh' tk' e hx'=>?_⟩) | wp_step))
 obtain ⟨t',u',he⟩:=hx'.there;show wpAny _ _ (getattributeRaised _ _ _ _ _ _ _) _ _ _;unfold getattributeRaised
 repeat (any_goals (first | assumption | wp_step))
 exact h _ _ hx'.keeps
end
theorem nE:entryFor table "dict.update.loop" = some Builtin.«dict.update.loop» := entryFor_of_tree (by kernel_rfl)
theorem mZ:plainId "dict.update.loop" = true:=Kk
section
variable{prog:Program}{w:World}{A:Around}{E:Value->Shared->Prop}{s:Shared}{K:Type}[DecidableEq K]{knd:HeapKind prog w K}
theorem CU{d it t:Addr}{i:Nat}{items:Array Value}{R:Result->Shared->Prop}(hA:A.handled=none)(hit:s.heap.IsTupleIter it t i)(ht:s.heap.IsTuple t items)(hx:items[i]?=none)
  (h:∀h',Heap.ExtBut it s.heap h'->R (.ok (.ret .none)) { s with heap:=h' }) :
  codeAny (model prog w) A (.builtin "dict.update.loop" ⟨[.ref d,.ref it,rawInt i,.none],[]⟩) R s:=by
 refine codeAny_builtin nE ?_;rw [Around.under_plainId mZ _];unfold Builtin.«dict.update.loop»;refine wpAny_bind (wpAny_pyNext_tuple_end hA hit ht hx λh' e=>?_);show wpAny _ _ (Dict.addKeywords d [] >>= λ_=>ret Value.none) _ _ _;exact wpAny_bind (wpAny_pure (wpAny_pure (h h' e)))
theorem uJ{b:Addr}{its:Array Value}{Q:List Value->Shared->Prop}(hb:s.heap.IsTuple b its)(h:Q its.toList s):wpAny (model prog w) A (Dict.pairItems (.ref b)) Q E s:=by
 obtain ⟨o,ho,hc,n,hd⟩:=id hb;unfold Dict.pairItems;refine wpAny_bind (wpAny_typeOf hb.typeIs ?_);rw [if_pos Dd];exact wpAny_bind (wpAny_seqItems ho hd (wpAny_pure h))
theorem xU{d it t b a:Addr}{i:Nat}{items:Array Value}{xs:List (K × Addr × Value)}{k:K}{v:Value}{R:Result->Shared->Prop}(hu:knd.room A.in1)(hit:s.heap.IsTupleIter it t i)(ht:s.heap.IsTuple t items)(hx:items[i]?=some (.ref b))
  (hb:s.heap.IsTuple b #[.ref a,v]) (nb:b≠it) (hk:∀h',(∀c o,c≠it->s.heap.get? c=some o->h'.get? c=some o)->knd.is h' k a/\h'.DictOfH knd d xs) (nd:d≠it) (hz:xs.length<=sizeLine)
  (h:∀h1 h' tk,(∀c o,c≠it->s.heap.get? c=some o->h1.get? c=some o)->Heap.SameBut d h1 h'->h'.DictOfH knd d (storedH xs k a v)->h'.IsTupleIter it t (i+1) ->
   codeAny (model prog w) A (.builtin "dict.update.loop" ⟨[.ref d,.ref it,rawInt ((i+1:Nat):Int),.none],[]⟩) R { s with heap:=h',toks:=tk }) :
  codeAny (model prog w) A (.builtin "dict.update.loop" ⟨[.ref d,.ref it,rawInt i,.none],[]⟩) R s:=by
 refine codeAny_builtin nE ?_;rw [Around.under_plainId mZ _];unfold Builtin.«dict.update.loop»;refine wpAny_bind (wpAny_pyNext_tuple_item hit ht hx λh' it' hs=>?_);have hk':∀c o,c≠it->s.heap.get? c=some o->h'.get? c=some o:=λc o hc e=>(hs.2 c hc).trans e;refine wpAny_bind (wpAny_holding ?_);refine wpAny_bind (wpAny_tryCatch ?_);have hb':h'.IsTuple b #[.ref a,v]:=by
  obtain ⟨o,ho,r⟩:=hb;exact ⟨o,hk' b o nb ho,r⟩
 refine uJ (s:={ s with heap:=h' }) hb' ?_;show wpAny _ _ (holding [Value.ref a,v] (dictSet d (.ref a) v)) _ _ _;have hm':=(hk h' hk').2;refine wpAny_holding (wpAny_dictSet_heap (s:={ s with heap:=h' }) hu (hk h' hk').1 hm' (λh2 hm2 hs2=>?_) hz);refine wpAny_pure ⟨Code.quiet_builtin _ Kk,?_⟩;have hn:=h h' h2 (s.toks+knd.draws k) hk' hs2 hm2 (by
  obtain ⟨o,ho,r⟩:=it';exact ⟨o,(hs2.2 it (Ne.symm nd)).trans ho,r⟩)
 rw [show ((i+1:Nat):Int)=(i:Int)+1 from Oo] at hn;exact hn
end
end HT
namespace L2
open PySem PySem.Spec PySem.W PyProof.Rows HT
def nJ(H:Hp)(y:V)(p:List dE × V):Prop:=∃b a,y=.ref b/\H b=some (.tup [.ref a,p.2])/\H a=some (.tup (p.1.map kV))
section
variable{X:Cx}{pins:List (Addr × Obj)}{σ:St}{H:Hp}
theorem KT.isAll{P:Program}{w:World}{H:Hp}{h:Heap}(ok:mW P w H h){l:List (List dE × V)}{m:List (List dE × Addr × Value)}(q:KT H l m):∀x∈m,(tupleKind (dQ P w)).is h x.1 x.2.1:=by
 unfold KT at q
 induction q with
 | nil=>intro x hx;exact nomatch hx
 | @cons p q ps qs hq t ih =>
  intro x hx;rcases aR.mp hx with e | hx
  ·subst e;exact mK ok (by rw [<-hq.1];exact hq.2.1)
  ·exact ih x hx
theorem vK{D it t:Addr}{ys:List V}{R:Result->Shared->Prop}(hu:X.A.units+8<cLine)(hA:X.A.handled=none)(hD:H D=none)(ht:H t=some (.tup ys))(nit:it≠D) :
  ∀(rest:List (List dE × V)) (i:Nat) (kvs:List (List dE × V)) (s:Shared),bY X pins σ (upd H D (.dT kvs)) s->iQ X pins (upd H D (.dT kvs)) it->s.heap.IsTupleIter it t i->Paired (nJ H) (ys.drop i) rest->((kvs++rest).map (·.1)).Nodup->(kvs++rest).length<=1000 ->
   (∀s',bY X pins σ (upd H D (.dT (kvs++rest))) s'->R (.ok (.ret .none)) s')->codeAny (model X.prog X.w) X.A.in1 (.builtin "dict.update.loop" ⟨[.ref D,.ref it,rawInt i,.none],[]⟩) R s
 | [],i,kvs,s,I,fp,hit,pr,nd,hz,k=>by
  have ntD:t≠D:=λe=>by subst e;rw [hD] at ht;cases ht
  obtain ⟨its,r,pl,_⟩:=I.tuple (eI.of (show upd H D (.dT kvs) t=some (.tup ys) by rw [bU ntD];exact ht));have hl:ys.length<=i:=by
   generalize hq:ys.drop i=l at pr;cases pr;exact List.drop_eq_nil_iff.mp hq
  have hl2:=r.length;rw [List.append_nil] at k;refine CU hA hit pl (by rw [Array.getElem?_eq_none];simp;omega) λh' e=>k _ ?_;exact I.turnedL (t':=s.toks) (fp:=[it]) (λb o hb x=>e b o (by simpa using hb) x) (λb hb=>by
   cases (show b=it by simpa using hb);exact fp)
 | p::rest,i,kvs,s,I,fp,hit,pr,nd,hz,k=>by
  have ntD:t≠D:=λe=>by subst e;rw [hD] at ht;cases ht
  obtain ⟨its,r,pl,_⟩:=I.tuple (eI.of (show upd H D (.dT kvs) t=some (.tup ys) by rw [bU ntD];exact ht));generalize hq:ys.drop i=l at pr;cases pr with
  | @cons y _ ys' _ hy pr' =>
   obtain ⟨b,a,rfl,hb,ha⟩:=hy;have hi:i<ys.length:=by
    by_cases h:i<ys.length
    ·exact h
    ·rw [List.drop_eq_nil_iff.mpr Oo] at hq;cases hq
   have hyi:ys[i]?=some (.ref b):=by
    have:=List.drop_eq_getElem_cons hi;rw [hq] at this;injection this with h1 h2;rw [aN hi,<-h1]
   have hys':ys.drop (i+1)=ys':=by
    have:=List.drop_eq_getElem_cons hi;rw [hq] at this;injection this with h1 h2;exact h2.symm
   obtain ⟨u,hu',ru⟩:=r.get hyi;cases ru;have nbD:b≠D:=λe=>by subst e;rw [hD] at hb;cases hb
   have naD:a≠D:=λe=>by subst e;rw [hD] at ha;cases ha
   have hb2:upd H D (.dT kvs) b=some (.tup [.ref a,p.2]):=by rw [bU nbD];exact hb
   have ha2:upd H D (.dT kvs) a=some (.tup (p.1.map kV)):=by rw [bU naD];exact ha
   obtain ⟨itb,rb,plb,_⟩:=I.tuple (eI.of hb2);obtain ⟨ua,uv,rfl,ra,rv⟩:=uP rb;cases ra;have nb:b≠it:=λe=>by have:=fp.1;rw [<-e,hb2] at this;cases this
   obtain ⟨z,hdm,xs,rel,o,es,ep,h1,h2,h3,h4,h5⟩:=(show dL X.prog X.w (upd H D (.dT kvs)) s.heap D (.dT kvs) from I.hok D _ bL);have hturn:∀h' tk,(∀c o,c≠it->s.heap.get? c=some o->h'.get? c=some o)->bY X pins σ (upd H D (.dT kvs)) { s with heap:=h',toks:=tk }:=λh' tk kp =>
    I.turnedL (t':=tk) (fp:=[it]) (λb o hb x=>kp b o (by simpa using hb) x) (λb hb=>by
     cases (show b=it by simpa using hb);exact fp)
   have lxs:xs.length=kvs.length:=(Paired.length rel).symm;refine xU (knd:=tupleKind (dQ X.prog X.w)) (xs:=xs) (k:=p.1) (v:=uv) (b:=b) (a:=a) (show _<_ by show X.A.in1.in1.units<cLine;exact bI (show X.A.in1.in1.units<=X.A.units+2 from aK _) Oo) hit pl (by simpa using hu') plb nb (λh' kp=>⟨mK (hturn h' s.toks kp).hok ha2,o,es,ep,kp D o (Ne.symm nit) h1,h2,h3,h4,KT.isAll (hturn h' s.toks kp).hok rel,h5⟩) (Ne.symm nit) Oo λhh1 hh2 tk kp hs2 hm2 hit2=>?_;have I1:=hturn hh1 s.toks kp;obtain ⟨q,es2,ep2,hq2,g2,g3,g4,_,g5⟩:=hm2;have hkn:gS kvs p.1=none:=by
    rw [bM,aV] at nd;have hnot:=(List.nodup_append.mp nd).2.2;cases hv:gS kvs p.1 with
    | none=>rfl
    | some v=>exact absurd rfl (hnot _ (CS hv) p.1 (aF ..))
   have hlp:(fL kvs p.1 p.2).length<=sizeLine:=by
    have h6:=gQ kvs p.1 p.2;rw [aI,bF] at hz;have h7:(1000:Nat)<=sizeLine:=Dd;omega
   have I2:=mT (t':=tk) (ob:=.dT (fL kvs p.1 p.2)) I1 (by rw [bL];exact True.intro) hs2 ⟨q,hq2⟩ ⟨hlp,hdm,_,(KT.put (show KT (upd H D (.dT kvs)) kvs xs from rel) p.1 ha2 rv).keeps λc ys ec=>(by rw [bU (sW ec bL (λz=>nomatch z))];exact ec),q,es2,ep2,hq2,g2,g3,g4,g5⟩;rw [CT,yL p.2 hkn] at I2;refine vK hu hA hD ht nit rest (i+1) (kvs++[p]) _ I2 ?_ hit2 (by rw [hys'];exact pr') (by rw [List.append_assoc];exact nd) (by rw [List.append_assoc];exact hz) (by rw [List.append_assoc];exact k);refine ⟨?_,fp.2⟩;rw [bU nit];have:=fp.1;rw [bU nit] at this;exact this
@[irreducible] def wO:List V->Hp->VK->Prop:=λxs H Q=>∃(t:Addr) (ys:List V) (kvs:List (List dE × V)),xs=[.ref t]/\H t=some (.tup ys)/\Paired (nJ H) ys kvs/\(kvs.map (·.1)).Nodup/\kvs.length<=1000/\∀D,H D=none->Q (.ref D) (upd H D (.dT kvs))
theorem rdcp{H:Hp}{Q:VK}{t:Addr}{ys:List V}{kvs:List (List dE × V)}(ht:H t=some (.tup ys))(pr:Paired (nJ H) ys kvs)(nd:(kvs.map (·.1)).Nodup)(hz:kvs.length<=1000)(q:∀D H',H D=none->H' D=some (.dT kvs)->aX H H'->Q (.ref D) H'):wO [.ref t] H Q:=by
 unfold wO;exact ⟨t,ys,kvs,rfl,ht,pr,nd,hz,λD hD=>q D _ hD bL (aX.upd hD)⟩
theorem zP(hu:X.A.units+64<cLine)(hc:X.calm=true):eW X (.type "dict") wO:=by
 unfold wO;intro pins s σ H xs us Q I r h;obtain ⟨t,ys,kvs,rfl,ht,pr,nd,hz,q⟩:=h;obtain ⟨u,rfl,rx⟩:=iG r;cases rx;have hA:=I.ok.hd hc;refine callType_codes (Q₁:=λobj s₁=>obj=.ref s.heap.objs.size/\s₁={ s with heap:=s.heap.push { cls:=.type "dict",data:=.dict #[] } }) F.kt_called_dict (F.kt_typeCall_dict_1 _) F.entry_dict_init (kt_code_dict_new _ ⟨rfl,rfl⟩) ?_;rintro obj s₁ ⟨rfl,rfl⟩;have hD:=I.hok.fresh (aK s.heap.objs.size);have I1:bY X pins σ (upd H s.heap.objs.size (.dT [])) { s with heap:=s.heap.push { cls:=.type "dict",data:=.dict #[] } }:=I.laid (a:=s.heap.objs.size) (o:=.dT []) (t':=s.toks) (λ_ _ q=>aB _ q) (aK _) (pF s.heap I.big);have htD:t≠s.heap.objs.size:=λe=>by subst e;rw [hD] at ht;cases ht
 have ht1:upd H s.heap.objs.size (.dT []) t=some (.tup ys):=by rw [bU htD];exact ht
 obtain ⟨⟨zt,ot,hot,hdt⟩,itt,rt,ot',hot',hct,nt,hdd⟩:=(show dL X.prog X.w (upd H s.heap.objs.size (.dT [])) (s.heap.push { cls:=.type "dict",data:=.dict #[] }) t (.tup ys) from I1.hok t _ ht1);rw [hot] at hot';cases hot';have hnew:(s.heap.push { cls:=.type "dict",data:=.dict #[] }).DictOf (dQ X.prog X.w) s.heap.objs.size []:=Heap.DictOf.new s.heap;refine ⟨hnew.typeIs,F.args_dict_init_2 _ _,?_⟩;unfold Builtin.«dict.__init__»;refine wpAny_bind ?_;unfold Builtin.Dict.selfAndRest;refine wpAny_bind (wpAny_notOrdered_dict hnew.typeIs ?_);show wpAny _ _ (pure (s.heap.objs.size,[Value.ref t])) _ _ _;refine wpAny_pure ?_;show wpAny _ _ (Builtin.Dict.updateFrom "dict.__init__" s.heap.objs.size (.ref t) [] .none) _ _ _;unfold Builtin.Dict.updateFrom;refine wpAny_bind (wpAny_typeOf (T := "tuple") ⟨_,hot,hct⟩ ?_);rw [if_pos Dd];refine wpAny_bind (vB (s:={ s with heap:=s.heap.push { cls:=.type "dict",data:=.dict #[] } }) hot hct hdd hdt hA λh' tk kp=>?_);rw [if_pos (by rfl)];refine wpAny_bind (wpAny_rule ?_);refine wpAny_bind (wpAny_pyIter_tuple (s:={ s with heap:=h',toks:=tk }) (items:=itt.toArray) ⟨ot,kp t ot hot,hct,nt,hdd⟩ ?_);refine wpAny_pure ⟨Code.quiet_builtin _ Kk,?_⟩;have I2:bY X pins σ (upd H s.heap.objs.size (.dT [])) { s with heap:=h',toks:=tk }:=I1.kept (t':=tk) kp;have I3:bY X pins σ (upd H s.heap.objs.size (.dT [])) { s with heap:=h'.push { cls:=.type "tuple_iterator",data:=.fields #[.ref t,.int 0 0] },toks:=tk }:=I2.kept (t':=tk) λb o e=>aB _ e
 have hlt:s.heap.objs.size<h'.objs.size:=by
  obtain ⟨_,_,_,hg,_⟩:=hnew;exact aY (kp _ _ hg)
 have hfr:upd H s.heap.objs.size (.dT []) h'.objs.size=none:=I2.hok.fresh (aK _);refine vK (D:=s.heap.objs.size) (it:=h'.objs.size) (t:=t) (ys:=ys) Oo hA hD ht (Nat.ne_of_gt hlt) kvs 0 [] _ I3 (I2.fpOk (aK _) hfr) ⟨_,bB _ rfl,rfl,rfl⟩ (by simpa using pr) (by simpa using nd) (by simpa using hz) λs' I'=>⟨rfl,.ref _,_,I',rfl,?_⟩;rw [List.nil_append];exact q _ hD
end
end L2
namespace HT
open PySem PySem.Spec PyProof.Rows
section
variable{prog:Program}{w:World}{A:Around}{E:Value->Shared->Prop}{s:Shared}{it d:Addr}{es:Array DictEntry}{ep i:Nat}{od:Obj}
theorem PM{Q:Option Value->Shared->Prop}(hit:s.heap.IsKeyIter it d i es.size ep)(hod:s.heap.get? d=some od)(hdd:od.data=.dict es ep)(hi:i<es.size)
  (h:∀h',h'.IsKeyIter it d (i+1) es.size ep->Heap.SameBut it s.heap h'->Q (some es[i].key) { s with heap:=h' }):wpAny (model prog w) A (pyNext (.ref it)) Q E s:=by
 obtain ⟨⟨c0,dd0,data0,sl0⟩,ho,hc,hd⟩:=id hit;simp only at hc hd;subst hc hd;have hT:=hit.typeIs;unfold pyNext;refine wpAny_bind (wpAny_attempt (wpAny_callSpecial?_slot (name:=Str.ofString "__next__") hT F.slot_dict_keyiterator_next (wpAny_call_entry F.slot_dict_keyiterator_next hT F.entry_dict_keyiterator_next ?_ (F.args_dict_keyiterator_next_1 _))));have hn:(Value.ref d == Value.none)=false:=rfl;have hown:Builtin.Dict_items.ownsTuple "dict_keyiterator" = false:=Dd
 repeat (any_goals (first | assumption | (with_reducible refine wpAny_typeNameOfWhole_keyiter hT ?_) | (with_reducible refine wpAny_isOneOf_keyiter hT ?_) | (with_reducible refine wpAny_fieldsOf ho rfl ?_) | (with_reducible refine wpAny_dictEntries hod hdd ?_) | (with_reducible refine wpAny_dictEpoch hod hdd ?_) | wp_step))
 rw [if_neg (show ¬((i:Int)<0) by omega),Int.toNat_natCast,Array.getElem?_eq_getElem hi];have hit':(s.heap.update it (Obj.mapFields (·.setIfInBounds 1 (rawInt ((i:Int)+1))))).IsKeyIter it d (i+1) es.size ep :=
  ⟨_,Heap.get?_update_self _ ho (Obj.isFreed_of_fields (Obj.data_mapFields rfl _)),(Obj.cls_mapFields ..).trans rfl,by rw [Obj.data_mapFields rfl];simp [rawInt]⟩
 have hT':({ s with heap:=s.heap.update it (Obj.mapFields (·.setIfInBounds 1 (rawInt ((i:Int)+1)))) }:Shared).TypeIs (.ref it) "dict_keyiterator" := hit'.typeIs;have hfin:=h _ hit' (Heap.SameBut.update ..)
 repeat (any_goals (first | assumption | (with_reducible refine wpAny_typeNameOfWhole_keyiter hT ?_) | (with_reducible refine wpAny_isOneOf_keyiter hT ?_) | (with_reducible refine wpAny_isOneOf_keyiter hT' ?_) | (with_reducible refine wpAny_setField ho rfl (by rw [hown];simp) ?_) | wp_step))
 exact ⟨_,rfl,wpAny_pure hfin⟩
theorem VQ{Q:Option Value->Shared->Prop}(hh:A.handled=none)(hit:s.heap.IsKeyIter it d i es.size ep)(hod:s.heap.get? d=some od)(hdd:od.data=.dict es ep)(hi:es.size<=i)
  (h:∀h',Heap.ExtBut it s.heap h'->Q none { s with heap:=h' }):wpAny (model prog w) A (pyNext (.ref it)) Q E s:=by
 obtain ⟨⟨c0,dd0,data0,sl0⟩,ho,hc,hd⟩:=id hit;simp only at hc hd;subst hc hd;have hT:=hit.typeIs;have hn:(Value.ref d == Value.none)=false:=rfl;have hown:Builtin.Dict_items.ownsTuple "dict_keyiterator" = false:=Dd;unfold pyNext;refine wpAny_bind (wpAny_attempt (wpAny_callSpecial?_slot (name:=Str.ofString "__next__") hT F.slot_dict_keyiterator_next (wpAny_call_entry F.slot_dict_keyiterator_next hT F.entry_dict_keyiterator_next ?_ (F.args_dict_keyiterator_next_1 _))))
 repeat (any_goals (first | assumption | (with_reducible refine wpAny_typeNameOfWhole_keyiter hT ?_) | (with_reducible refine wpAny_isOneOf_keyiter hT ?_) | (with_reducible refine wpAny_fieldsOf ho rfl ?_) | (with_reducible refine wpAny_dictEntries hod hdd ?_) | (with_reducible refine wpAny_dictEpoch hod hdd ?_) | wp_step))
 rw [if_neg (show ¬((i:Int)<0) by omega),Int.toNat_natCast,Array.getElem?_eq_none hi]
 repeat (any_goals (first | assumption | (with_reducible refine wpAny_typeNameOfWhole_keyiter hT ?_) | (with_reducible refine wpAny_setField ho rfl (by rw [hown];simp) ?_) | wp_step))
 simp only [raiseNew];refine wpAny_bind (wpAny_handled ?_);rw [show A.in1.handled=none from hh];refine wpAny_bind (wpAny_pure (wpAny_throw ?_));refine wpAny_bind (wpAny_isInstance (T := "StopIteration") (b:=true) ⟨_,bB _ rfl,rfl⟩ isSubtype_stop ?_);exact wpAny_pure (h _ (((Heap.SameBut.update ..).extBut.push _).push _))
theorem PP{Q:Value->Shared->Prop}(hd:(d == sysModules)=false)(hod:s.heap.get? d=some od)(hex:od.ExactDict)(hdd:od.data=.dict es ep)
  (hQ:Q (.ref s.heap.objs.size) { s with heap:=s.heap.push { cls:=.type "dict_keyiterator",data:=.fields #[.ref d,.int 0 0,.int es.size 0,.int ep 0] } }):wpAny (model prog w) A (pyIter (.ref d)) Q E s:=by
 have hT:s.TypeIs (.ref d) "dict" := ⟨od,hod,hex.1⟩;refine wpAny_pyIter_slot hT F.slot_dict_iter (wpAny_call_entry F.slot_dict_iter hT F.entry_dict_iter ?_ (F.args_dict_iter_1 _));unfold Builtin.«dict.__iter__»;refine wpAny_bind ?_;unfold Builtin.Dict.dictSlotNone;refine wpAny_bind (wpAny_notOrdered_dict hT ?_);show wpAny _ _ (pure (Value.ref d)) _ _ s;refine wpAny_pure ?_;have hm:(d == sysModules)=false:=hd
 repeat (any_goals (first | assumption | (with_reducible refine wpAny_dictEntries hod hdd ?_) | (with_reducible refine wpAny_dictEpoch hod hdd ?_) | wp_step))
 exact ⟨_,rfl, "dict_keyiterator",_,⟨_,bB _ rfl,rfl⟩,F.slot_dict_keyiterator_next.lookup,hQ⟩
end
end HT
namespace L2
open PySem PySem.Spec PySem.W PyProof.Rows HT
section
variable{X:Cx}{pins:List (Addr × Obj)}{σ:St}{H:Hp}{s:Shared}
theorem sU{α β:Type}{R:α->β->Prop}:∀{l:List α}{m:List β}{i:Nat}{a:α},Paired R l m->l[i]?=some a->∃b,m[i]?=some b/\R a b
 | _,_,i,a,.nil,h=>by simp at h
 | _,_,0,a,.cons r t,h=>by
  cases (show _=a by simpa using h);exact ⟨_,rfl,r⟩
 | _,_,i+1,a,.cons r t,h=>by
  obtain ⟨b,h1,h2⟩:=sU t (by simpa using h);exact ⟨b,by simpa using h1,h2⟩
end
section
variable{X:Cx}{tg:Expr}
end
end L2
namespace HT
open PySem PySem.Spec PyProof.Rows PySem.W
section
variable{prog:Program}{w:World}{A:Around}{d:Addr}{o:Obj}{es:Array DictEntry}{ep:Nat}
theorem FJ(hh:A.handled=none)(I:Addr)(hne:d≠I)(hdat:o.data=.dict es ep) :
  Walks prog w A I [I,d] [I] es.size (λi v=>∃hi:i<es.size,v=es[i].key) (λi h=>h.IsKeyIter I d i es.size ep/\h.get? d=some o) where
 sub:=λb hb=>by simp at hb;simp [hb]
 frame:=λ_ _ _ st hk=>⟨st.1.at λo e=>hk I (by simp) o e,hk d (by simp) o st.2⟩
 item:=λi s Q E hi st hQ=>PM st.1 st.2 hdat hi λh' hit' hs' =>
  hQ _ h' s.toks ⟨hi,rfl⟩ ⟨hit',(hs'.2 d hne).trans st.2⟩ λb o hb e=>(hs'.2 b (λh=>hb (by simp [h]))).trans e
 done:=λs Q E st hQ=>VQ hh st.1 st.2 hdat (aK _) λh' he'=>hQ h' s.toks λb o hb e=>he' b o (λh=>hb (by simp [h])) e
 self:=λ_ _ _ _ st hQ=>wpAny_pyIter_keyiter st.1 hQ
theorem DX(lo:(d == sysModules)=false)(hex:o.ExactDict)(hdat:o.data=.dict es ep):KdlSrc prog w "dict" d d es.size (λi v=>∃hi:i<es.size,v=es[i].key) (λh=>h.get? d=some o) where
 type:=λ_ hm=>⟨o,hm,hex.1⟩
 there:=λ_ hm=>⟨aY hm,aY hm⟩
 keep:=λ_ _ hm hk=>hk d (.inl rfl) o hm
 notList:=Dd
 notTuple:=Dd
 hint:=λ_ _ _ _ hm hq=>kdl_hint_dict ⟨o,hm,hex.1⟩ hq
 iter:=λA s hh hm=>⟨_,_,λE Q hQ=>PP lo hm hex hdat hQ,FJ hh _ (bT (aY hm)) hdat,⟨_,bB _ rfl,rfl,rfl⟩,aB _ hm⟩
end
end HT
namespace L2
open PySem PySem.Spec PySem.W PyProof.Rows HT
section
variable{prog:Program}{w:World}{A:Around}{E:Value->Shared->Prop}{s:Shared}
theorem rH{T:String}{r d:Addr}{n:Nat}{P:Nat->Value->Prop}{OK:Heap->Prop}{Q:List Value->Shared->Prop}(K:KdlSrc prog w T r d n P OK)(hh:A.handled=none)(hok:OK s.heap)(hn:n<=sizeLine)
  (hQ:∀h' tk (acc':Array Value),(∀b o,s.heap.get? b=some o->h'.get? b=some o)->ItemsOf P acc' n->Q acc'.toList { s with heap:=h',toks:=tk }) :
  wpAny (model prog w) A (collect (.ref r)) Q E s:=by
 have lt:=K.there _ hok;have at0:(s.heap.push (seqObj "list" #[] 0)).get? s.heap.objs.size=some { cls:=.type "list",data:=.seq #[] 0 }:=bB _ rfl
 let G:Result->Shared->Prop:=λa z=>∃g m l e,a=.ok (.ret (.ref s.heap.objs.size))/\z={ s with heap:=g,toks:=m }/\(∀b o,s.heap.get? b=some o->g.get? b=some o)/\g.get? s.heap.objs.size=some { cls:=.type "list",dict:=none,data:=.seq l e,slots:=#[] }/\ItemsOf P l n
 have ext:=kdl_extend (A:=A) (s:={ s with heap:=s.heap.push (seqObj "list" #[] 0) }) (R:=G) K hh (K.keep _ _ hok λb _ o e=>aB _ e) s.heap.objs.size (Nat.ne_of_gt lt.1) (Nat.ne_of_gt lt.2) (.ref s.heap.objs.size) 0 at0
  (λg m l e kp at1 it=>⟨g,m,l,e,rfl,rfl,λb o z=>kp b o (bT (aY z)) (aB _ z),at1,it⟩) hn
 unfold collect;refine wpAny_bind (wpAny_runValue (codeAny_builtin entry_proto_collect' ?_));rw [Around.under_plainId PySem.F.plain_proto_collect _];refine wpAny_bind (m:=newList []) (wpAny_newList (wpAny_pure ⟨plainId_quiet PySem.F.plain_list_iadd _,codeAny_builtin entry_list_iadd' ?_⟩));rw [Around.under_plainId PySem.F.plain_list_iadd _];refine wpAny_mono ext (λfin z y=>?_) λe z ⟨_,_,_,_,q,_⟩=>by cases q
 cases fin with
 | done f=>obtain ⟨g,m,l,e,q,rfl,kp,at1,it⟩:=y;cases q;exact wpAny_bind (wpAny_load at1 (wpAny_pure (hQ g m l kp it)))
 | again c=>exact ⟨y.1,codeAny_mono y.2 λq z ⟨g,m,l,e,eq,ez,kp,at1,it⟩=>by subst eq ez;exact wpAny_bind (wpAny_load at1 (wpAny_pure (hQ g m l kp it)))⟩
theorem AW{x:Value}{Q:Value->Shared->Prop}
  (h:wpAny (model prog w) A.in1 (collect x) (λvs s1=>∃h1 tk cs,s1={ s with heap:=h1,toks:=tk }/\(∀b o,s.heap.get? b=some o->h1.get? b=some o)/\gM h1 vs cs/\vs.length<64 /\
   ∀(p:Array Nat) (h':Heap) (D:Addr) (c:Nat),eC vs.length p->(uD vs.length (pO cs)->pP (pO cs) p vs.length)->(∀b o,h1.get? b=some o->h'.get? b=some o)->h1.objs.size<=D->h'.get? D=some (seqObj "list" (List.toArray (p.toList.map λi=>vs.getD i Value.none)) c)->Q (.ref D) { s with heap:=h',toks:=tk }) E s) :
  wpAny (model prog w) A (call (.builtin "sorted") [x]) Q E s:=by
 refine Calls.call_function_entry kind_sorted plain_sorted entry_sorted (args_sorted1 _) ?_;unfold Builtin.«sorted»;refine wpAny_bind (m:=checkCount "sorted" 1 1 _) (wpAny_pure ?_);refine wpAny_bind (wpAny_mono h (λvs s1 ⟨h1,tk,cs,e,keep1,ht,h64,q⟩=>?_) λ_ _ e=>e);subst e;refine wpAny_bind (wpAny_newList ?_ (by rw [sizeLine_eq];omega));have hoL:(h1.push (seqObj "list" vs.toArray 0)).get? h1.objs.size=some (seqObj "list" vs.toArray 0):=bB _ rfl;have keep:∀b o,h1.get? b=some o->(h1.push (seqObj "list" vs.toArray 0)).get? b=some o:=λb o q=>aB _ q;show wpAny _ _ _ _ _ { s with heap:=h1.push (seqObj "list" vs.toArray 0),toks:=tk };refine wpAny_bind (wpAny_holding (wpAny_call_entry slot_list_sort ⟨_,hoL,rfl⟩ entry_list_sort ?body (args_list_sort _)));refine uT (s:={ s with heap:=h1.push (seqObj "list" vs.toArray 0),toks:=tk }) hoL (ht.keep λb o hb _=>keep b o hb) h64 λp hp ho=>⟨_,rfl,wpAny_pure ⟨_,rfl,?_⟩⟩;unfold sortedHeap;have o1:((h1.push (seqObj "list" vs.toArray 0)).update h1.objs.size (Obj.mapSeq λ_=>#[])).get? h1.objs.size=some (seqObj "list" #[] _):=get?_update_seq hoL (λ_=>#[]);have o2:=aB (seqObj "list" #[] 0) (aB (seqObj "tuple" vs.toArray 0) o1);refine q p _ h1.objs.size _ hp ho (λb o e=>?_) (aK _) (get?_update_seq o2 λ_=>List.toArray (p.toList.map λi=>vs.getD i Value.none));have hlt:b<h1.objs.size:=aY e;have hne:b≠h1.objs.size:=bT hlt;rw [cL _ _ _ _ hne];exact aB _ (aB _ (by rw [cL _ _ _ _ hne];exact keep b o e))
end
theorem SE{X:Cx}{pins:List (Addr × Obj)}{σ:St}{H:Hp}{s:Shared}(I:bY X pins σ H s){d:Addr}{kvs:List (List dE × V)}(e:H d=some (.dT kvs)):(d == sysModules)=false/\(kvs.map (·.1)).Nodup/\∃o,s.heap.get? d=some o/\o.ExactDict/\∃es ep,o.data=.dict es ep/\es.size=kvs.length /\
  ∀(i:Nat) (hi:i<es.size) p,kvs[i]?=some p->∃b,es[i].key=.ref b/\H b=some (.tup (p.1.map kV)):=by
 obtain ⟨z,hd,xs,rel,o,es,ep,h1,h2,h3,h4,h5⟩:=(show dL X.prog X.w H s.heap d (.dT kvs) from I.hok d _ e);have hl:es.size=kvs.length:=by
  have:=congrArg List.length h4;rw [aA,<-Paired.length rel] at this;simpa using this
 have hk:kvs.map (·.1)=xs.map (·.1):=by
  clear h4 h5 hl e z
  induction rel with
  | nil=>rfl
  | cons r t ih=>rw [aV,aV,r.1,ih]
 refine ⟨hd,hk ▸ h5,o,h1,h2,es,ep,h3,hl,λi hi p hp=>?_⟩;obtain ⟨x,hx,r1,r2,r3⟩:=sU rel hp;have he:es.toList[i]?=some (entryOfKey (tupleKind (dQ X.prog X.w)) x):=by rw [h4,aS,hx];rfl
 have he2:es[i]=entryOfKey (tupleKind (dQ X.prog X.w)) x:=by
  have:es.toList[i]?=some es[i]:=by simp [hi]
  rw [this] at he;injection he
 rw [he2];exact ⟨x.2.1,rfl,r2⟩
abbrev MJ(c:List Int):List dE:=c.map Sum.inl
theorem kyV(c:List Int):(MJ c).map kV=c.map V.int:=by rw [List.map_map];rfl
@[irreducible] def wN:List V->Hp->VK->Prop:=λxs H Q=>∃(d:Addr) (kvs:List (List dE × V)) (cs:List (List Int)),xs=[.ref d]/\H d=some (.dT kvs)/\kvs.map (·.1)=cs.map MJ/\(∀c∈cs,c≠[])/\cs.length<64 /\
 ∀q (ys:List V) (ds:List (List Int)) H',ds.Perm cs->ds.Pairwise (λa b=>eV a b=true)->H q=none->H' q=some (.lst ys)->aL H' (ds.map λc=>PyData.tuple (c.map .int)) ys->aX H H'->Q (.ref q) H'
theorem rsrd{H:Hp}{Q:VK}{d:Addr}{kvs:List (List dE × V)}{cs:List (List Int)}(h:H d=some (.dT kvs))(hk:kvs.map (·.1)=cs.map MJ)(hc:∀c∈cs,c≠[])(hz:cs.length<64)
  (q:∀q (ys:List V) (ds:List (List Int)) H',ds.Perm cs->ds.Pairwise (λa b=>eV a b=true)->H q=none->H' q=some (.lst ys)->aL H' (ds.map λc=>PyData.tuple (c.map .int)) ys->aX H H'->Q (.ref q) H'):wN [.ref d] H Q:=by
 unfold wN;exact ⟨d,kvs,cs,rfl,h,hk,hc,hz,q⟩
theorem xH{X:Cx}(hc:X.calm=true):eW X (.builtin "sorted") wN:=by
 unfold wN;intro pins s σ H xs us Q I r h;obtain ⟨d,kvs,cs,rfl,hq,hk,hne,hz,q⟩:=h;obtain ⟨u,rfl,rx⟩:=iG r;cases rx;obtain ⟨hm,hnd,o,hod,hex,es,ep,hdd,hsz,hat⟩:=SE I hq;have lk:kvs.length=cs.length:=by have:=congrArg List.length hk;simpa using this
 refine AW (rH (DX hm hex hdd) (show X.A.in1.handled=none from I.ok.hd hc) hod (by rw [sizeLine_eq];omega) λh1 tk acc kp hacc=>?_);obtain ⟨la,hacc⟩:=hacc;have I1:bY X pins σ H { s with heap:=h1,toks:=tk }:=I.kept kp;have key:∀(n:Nat) (l:List Value),l.length=n->∀(m:List (List Int)),m.length=n->(∀(i:Nat) v c,l[i]?=some v->m[i]?=some c->∃b,v=.ref b/\H b=some (.tup (c.map V.int)))->∃ys:List V,cJ ys l/\aL H (m.map λc=>PyData.tuple (c.map .int)) ys:=by
  intro n
  induction n with
  | zero =>
   intro l hl m hm _;cases l with
   | nil=>cases m with
    | nil=>exact ⟨[],.nil,aL.nil⟩
    | cons _ _=>simp at hm
   | cons _ _=>simp at hl
  | succ n ih =>
   intro l hl m hm hk;cases l with
   | nil=>simp at hl
   | cons v l=>cases m with
    | nil=>simp at hm
    | cons c m =>
     obtain ⟨b,rfl,hb⟩:=hk 0 v c rfl rfl;obtain ⟨ys,hv,hy⟩:=ih l (by simpa using hl) m (by simpa using hm) λi v p h1 h2=>hk (i+1) v p (by simpa using h1) (by simpa using h2);have rb:∀c:List Int,aL H (c.map PyData.int) (c.map V.int):=λc=>by
      induction c with
      | nil=>exact aL.nil
      | cons x c ih=>exact aL.cons (bR.int _) ih
     exact ⟨.ref b::ys,.cons rfl hv,aL.cons (bR.tup hb (rb c)) hy⟩
 have lacc:acc.toList.length=cs.length:=by rw [Array.length_toList,la,hsz,lk]
 obtain ⟨ys,hv,hy⟩:=key cs.length acc.toList lacc cs rfl λi v c e1 e2=>by
  obtain ⟨hi,e⟩:=hacc i v (by rw [<-Array.getElem?_toList];exact e1);have hp:∃p,kvs[i]?=some p/\p.1=MJ c:=by
   have:(kvs.map (·.1))[i]?=some (MJ c):=by rw [hk,aS,e2];rfl
   rw [aS] at this;obtain ⟨p,h1,h2⟩:=dG.mp this;exact ⟨p,h1,h2⟩
  obtain ⟨p,hp1,hp2⟩:=hp;obtain ⟨b,k1,k2⟩:=hat i hi p hp1;rw [hp2,kyV] at k2;exact ⟨b,by rw [e,k1],k2⟩
 have hnd2:cs.Nodup:=by
  rw [hk] at hnd;exact List.Pairwise.of_map _ (λa b h e=>h (by rw [e])) hnd
 have lys:ys.length=cs.length:=by rw [hy.len,aA]
 refine ⟨h1,tk,cs,rfl,kp,vX I1 hy hne hv,Oo,λpm h' D c hg ho keep hD hget=>?_⟩;have hperm:pm.toList.Perm (List.range cs.length):=by
  have:=(Array.perm_iff_toList_perm.mp hg);rw [<-lacc];simpa using this
 have hlt:∀i∈pm.toList,i<ys.length:=λi hi=>by
  have:=hperm.mem_iff.mp hi;rw [lys];simpa using this
 have hl2:(pm.toList.map λi=>ys.getD i .non).length=cs.length:=by rw [aA,hperm.length_eq,cE]
 have hn:=I1.hok.fresh hD;have sm:aX H (upd H D (.lst (pm.toList.map λi=>ys.getD i .non))):=aX.upd hn;refine ⟨.ref D,upd H D (.lst (pm.toList.map λi=>ys.getD i .non)),I1.laid (t':=tk) keep hD ⟨by rw [hl2,sizeLine_eq];omega,_,c,rX hv _ hlt,hget⟩,rfl,?_⟩;have ha:=ho (lacc ▸ BL hnd2);have hsz2:=hg.size;have hpm:(pm.toList.map λi=>cs.getD i []).Perm cs:=by
  have h1:=hperm.map λi=>cs.getD i [];have e:(List.range cs.length).map (λi=>cs.getD i [])=cs:=by
   apply List.ext_getElem?;intro i;rw [aS];by_cases hi:i<cs.length
   ·rw [eR hi,aN hi,Option.map_some,bJ,aN hi];rfl
   ·rw [dO (by simpa using hi),dO Oo];rfl
  rwa [e] at h1
 refine q D _ (pm.toList.map λi=>cs.getD i []) _ hpm ?_ hn bL ?_ sm
 ·rw [List.pairwise_map,List.pairwise_iff_getElem];intro i j hi hj hij;have hi':i<pm.size:=by simpa using hi
  have hj':j<pm.size:=by simpa using hj
  have e1:pm.toList[i]=pm.getD i 0:=by rw [Array.getElem_toList];exact (by simp [Array.getD,hi']:pm.getD i 0=pm[i]).symm
  have e2:pm.toList[j]=pm.getD j 0:=by rw [Array.getElem_toList];exact (by simp [Array.getD,hj']:pm.getD j 0=pm[j]).symm
  rw [e1,e2];exact ha i j hij (by rw [<-hsz2];exact hj')
 ·have rep:∀ix:List Nat,(∀i∈ix,i<cs.length)->aL H ((ix.map λi=>cs.getD i []).map λc=>PyData.tuple (c.map .int)) (ix.map λi=>ys.getD i .non):=λix=>by
   induction ix with
   | nil=>exact λ_=>aL.nil
   | cons i ix ih =>
    intro h;have hi:=h i (aF ..);have hd:(cs.map λc=>PyData.tuple (c.map .int))[i]?=some (PyData.tuple ((cs.getD i []).map .int)):=by
     rw [aS,bJ,aN hi];rfl
    obtain ⟨x,hx,rx⟩:=hy.get' hd;have e2:ys.getD i .non=x:=by rw [bJ,hx];rfl
    refine aL.cons ?_ (ih λj hj=>h j (aD _ hj));show bR H _ (ys.getD i .non);rw [e2];exact rx
  exact (rep pm.toList λi hi=>by rw [<-lys];exact hlt i hi).same sm
end L2
namespace HT
open PySem PySem.Spec PyProof.Rows PySem.W
section
variable{prog:Program}{w:World}{A:Around}{E:Value->Shared->Prop}{s:Shared}{it d:Addr}{es:Array DictEntry}{ep i:Nat}{od:Obj}
end
end HT
namespace L2
open PySem PySem.Spec PySem.W PyProof.Rows HT
section
variable{X:Cx}{tg:Expr}
end
section
variable{X:Cx}{o e:Expr}{apos cpos:Pos}{td ty:TE}
end
end L2
namespace L2
open PySem
section
variable{js:List Nat}{te:TE}{tc:TT}{σ:St}{H:Hp}{Q:VK}
theorem qJ{J:It}{α:Type}{g:α->PyData}{as:List α}(p:α->Bool)(hz:as.length<=100000)
  (hg:∀i H',aX H H'->i<as.length->J.go i H'/\∀x H3,J.yld i H' x H3->H3=H'/\∃c,as[i]?=some c/\bR H (g c) x) (hst:∀H',aX H H'->J.stop as.length H')
  (ht:∀x c H' (Q':Bool->Hp->Prop),c∈as->bR H' (g c) x->aX H H'->(∀H5,aX H' H5->Q' (p c) H5)->tc (some x::slots σ js) H' Q')
  (he:∀x H' (Q':VK),Q' x H'->te (some x::slots σ js) H' Q')
  (hd:∀D ys H',H D=none->H' D=some (.lst ys)->aX H H'->aL H' ((as.filter p).map g) ys->Q (.ref D) H'):iR J σ js tc te H Q:=by
 unfold iR;intro D hD;refine ⟨λi m ys H'=>m=as.length-i/\i<=as.length/\H' D=some (.lst ys)/\aX H H'/\aL H (((as.take i).filter p).map g) ys/\ys.length<=i,⟨as.length,by simp,cB _,bL,aX.upd hD,aL.nil,aK _⟩,?_⟩;rintro i m ys H2 ⟨rfl,hi,hD2,s2,ry,hy⟩;refine ⟨hD2,?_⟩;by_cases hlt:i<as.length
 ·obtain ⟨hgo,hyl⟩:=hg i H2 s2 hlt;refine .inr ⟨hgo,bI (m:=100000) Oo Dd,λx H3 hy3=>?_⟩;obtain ⟨rfl,c,hc,rc⟩:=hyl x H3 hy3;have hti:as.take (i+1)=as.take i++[c]:=by rw [fN,hc];rfl
  refine ⟨λb H4=>b=p c/\aX H3 H4,ht x c H3 _ (bK hc) (rc.same s2) s2 λH5 s5=>⟨rfl,s5⟩,?_⟩;rintro b H4 ⟨rfl,s4⟩;by_cases hp:p c=true
  ·rw [if_pos hp];refine ⟨λy H5=>y=x/\H5=H4,he x H4 _ ⟨rfl,rfl⟩,?_⟩;rintro y H5 ⟨rfl,rfl⟩;refine ⟨s4 _ _ hD2,_,?_,rfl,hlt,bL,aX.thru hD (s2.trans s4) aT.self,?_,?_⟩
   ·omega
   ·rw [hti,List.filter_append,bM];have:List.filter p [c]=[c]:=by simp [hp]
    rw [this];exact aL.snoc ry rc
   ·rw [aI,List.length_singleton];omega
  ·rw [if_neg hp];refine ⟨s4 _ _ hD2,_,?_,rfl,hlt,s4 _ _ hD2,s2.trans s4,?_,?_⟩
   ·omega
   ·rw [hti,List.filter_append];have:List.filter p [c]=[]:=by simp [hp]
    rw [this,List.append_nil];exact ry
   ·omega
 ·have e:i=as.length:=Oo;subst e;refine .inl ⟨hst H2 s2,hd D ys H2 hD hD2 s2 ?_⟩;rw [dW] at ry;exact ry.same s2
end
end L2
namespace L2
open PySem PySem.Spec PyProof.Rows
section
variable{X:Cx}{pins:List (Addr × Obj)}{σ:St}{H:Hp}{s:Shared}{scope:Scope}{x x2:Str}{N':List Str}{js:List Nat}{fp:List Addr}
end
section
variable{X:Cx}{pins:List (Addr × Obj)}{σ:St}{H:Hp}{s:Shared}{scope:Scope}{x:Str}{N':List Str}{js:List Nat}{fp:List Addr}{elt iter:Expr}{px pos:Pos}{tg:Expr}{x2:Str}{te:TE}
end
section
variable{X:Cx}{scope:Scope}{x x2 y:Str}{N':List Str}{js:List Nat}{elt iter tg:Expr}{py pos spos:Pos}{te:TE}{wi:TI}{i:Nat}
end
end L2
namespace HT
open PySem PySem.Spec PyProof.Rows
section
variable{prog:Program}{w:World}{A:Around}{E:Value->Shared->Prop}{s:Shared}{d:Addr}{o:Obj}{es:Array DictEntry}{ep:Nat}
end
end HT
namespace L2
open PySem PySem.Spec PySem.W PyProof.Rows HT
theorem nT(c:List Int):(c.map (Sum.inl:Int->dE)).map kV=c.map V.int:=by rw [List.map_map];rfl
abbrev kT(c:List Int):List dE:=c.map Sum.inl
theorem lE{a b:List Int}(h:kT a=kT b):a=b:=by
 have:∀{a b:List Int},kT a=kT b->a=b:=by
  intro a
  induction a with
  | nil=>intro b h;cases b with
   | nil=>rfl
   | cons _ _=>cases h
  | cons x a ih=>intro b h;cases b with
   | nil=>cases h
   | cons y b =>
    injection h with h1 h2;injection h1 with h1;rw [h1,ih h2]
 exact this h
section
variable{X:Cx}{o e f k v:Expr}{apos cpos pos:Pos}{td ty tx tk tv:TE}
@[irreducible] def NY(p:Addr)(x y:V)(H2:Hp)(Q:VK):Prop:=∃b k,x=.ref b/\H2 b=some (.tup (k.map kV))/\H2 p=some (.dT [])/\Q (.ref p) (upd H2 p (.dT [(k,y)]))
def SS(tk tv:TE):TE:=λσ H Q=>∀p,H p=none->tk σ (upd H p (.dT [])) λx H1=>tv σ H1 λy H2=>NY p x y H2 Q
theorem aAG{p b:Addr}{y:V}{H:Hp}{Q:VK}{c:List Int}(hb:H b=some (.tup (c.map V.int)))(hp:H p=some (.dT []))(q:∀H',H' p=some (.dT [(kT c,y)])->aT p H H'->Q (.ref p) H'):NY p (.ref b) y H Q:=by
 unfold NY;exact ⟨b,kT c,rfl,by rw [nT];exact hb,hp,q _ bL aT.self⟩
theorem IH(hu:X.A.units+1<cLine)(hk:fI X k tk)(hv:fI X v tv):fI X (.Dict [some k] [v] pos) (SS tk tv):=⟨by
 intro pins s σ H Q I q;have hn:=I.hok.fresh (aK s.heap.objs.size);have I1:=I.laid (a:=s.heap.objs.size) (o:=.dT []) (h':=s.heap.push { cls:=.type "dict",data:=.dict #[] }) (t':=s.toks) (λ_ _ q=>aB _ q) (aK _) (pF s.heap I.big);refine wpAny_Dict_any rfl rfl (by simp) (show 1<=15 by decide) (pairTrees_cons_walk (thn (hk.p pins _ σ _ _ I1 (q _ hn)) λu s1 ⟨x,H1,I1,rx,q1⟩=>thn (hv.p pins s1 σ H1 _ I1 q1) λw2 s2 ⟨y,H2,I2,ry,q2⟩=>pairTrees_nil_walk ?_));unfold NY at q2;obtain ⟨b,kk,rfl,eb,e,q3⟩:=q2;cases (show u=Value.ref b from rx);obtain ⟨z,hd,xs,rel,dd⟩:=LB I2.hok e;unfold storeAll;rw [List.forIn_cons];refine wpAny_bind (wpAny_bind (wpAny_dictSet_heap (show X.A.units<cLine by omega) (mK I2.hok eb) dd (λh' dd' hs=>wpAny_pure ?_) (by rw [<-Paired.length rel];exact z)));dsimp only;rw [List.forIn_nil];refine wpAny_pure ?_;obtain ⟨q,es,ep,hq,h2,h3,h4,_,h5⟩:=dd';refine ⟨.ref _,_,?_,rfl,q3⟩;have hl:([(kk,y)]:List (List dE × V)).length<=sizeLine:=by show 1<=sizeLine;decide
 refine mT I2 (by rw [e];exact True.intro) hs ⟨q,hq⟩ ⟨hl,hd,_,(rel.put kk eb ry).keeps λc ys ec=>?_,q,es,ep,hq,h2,h3,h4,h5⟩;rw [bU (sW ec e (λz=>nomatch z))];exact ec⟩
@[irreducible] def NS(b:Bool):R2:=λx y H Q=>∃a o,y=.ref a/\kQ H a x o/\Q (.bl (xor b o.isSome)) H
theorem rind{b:Bool}{x:V}{a:Addr}{o:Option V}{H:Hp}{Q:VK}(g:kQ H a x o)(q:Q (.bl (xor b o.isSome)) H):NS b x (.ref a) H Q:=by unfold NS;exact ⟨a,o,rfl,g,q⟩
theorem UY(hu:X.A.units+1<cLine):lN X (compareOp .In) (NS false):=by
 intro pins s σ H x y v u Q I rx ry h;unfold NS at h;obtain ⟨a,o,rfl,g,q⟩:=h;cases (show u=Value.ref a from ry);exact aBn hu I g rx λs3 I3=>⟨.bl _,H,I3,rfl,by simpa using q⟩
end
theorem dpT{H:Hp}{p b:Addr}{kvs:List (List dE × V)}{c:List Int}{v:V}{D:rR}{σ:St}(e:H p=some (.dT kvs))(eb:H b=some (.tup (c.map V.int)))(hl:kvs.length<=100000)(q:∀H',H' p=some (.dT (fL kvs (kT c) v))->aT p H H'->D.nx σ H') :
  XI D σ (.ref p) (.ref b) v H:=by
 unfold XI;exact ⟨p,_,rfl,xP.t (k:=kT c) e (by rw [nT];exact eb) (bI hl Dd),q _ bL aT.self⟩
theorem kQ.ct{H:Hp}{p b:Addr}{kvs:List (List dE × V)}{c:List Int}(e:H p=some (.dT kvs))(eb:H b=some (.tup (c.map V.int))):kQ H p (.ref b) (gS kvs (kT c)):=kQ.t e (by rw [nT];exact eb)
theorem dgT{H:Hp}{p b:Addr}{kvs:List (List dE × V)}{c:List Int}{v:V}{Q:VK}(e:H p=some (.dT kvs))(eb:H b=some (.tup (c.map V.int)))(hv:gS kvs (kT c)=some v)(q:Q v H):RM (.ref p) (.ref b) H Q:=by
 unfold RM;exact ⟨p,v,rfl,hv ▸ kQ.ct e eb,q⟩
theorem aT.tT{H H':Hp}{p:Addr}(s:aT p H H'){xs:List (List dE × V)}(hp:H p=some (.dT xs)):eY H H':=λb ys h=>s.at (sW h hp (by intro z;cases z)) h
mutual
theorem cO.keep{K:PySem.W.Frag}{H H':Hp}(s:aX H H'):∀{d:PyData}{v:V},cO K H d v->cO K H' d v
 | .none,_,h=>h
 | .bool _,_,h=>h
 | .int _,_,h=>h
 | .str _,_,h=>h
 | .list ds,_,h=>by
  unfold cO at h ⊢;obtain ⟨a,xs,rfl,h1,h2⟩:=h;exact ⟨a,xs,rfl,s _ _ h1,cV.keep s h2⟩
 | .tuple ds,_,h=>by
  unfold cO at h ⊢;obtain ⟨a,xs,rfl,h1,h2⟩:=h;exact ⟨a,xs,rfl,h1.keep s,cV.keep s h2⟩
 | .dict kvs,_,h=>by
  unfold cO at h ⊢;obtain ⟨e,a,rfl,h1⟩:=h;exact ⟨e,a,rfl,s _ _ h1⟩
theorem cV.keep{K:PySem.W.Frag}{H H':Hp}(s:aX H H'):∀{ds:List PyData}{vs:List V},cV K H ds vs->cV K H' ds vs
 | [],_,h=>h
 | d::ds,_,h=>by
  unfold cV at h ⊢;obtain ⟨x,xs,rfl,h1,h2⟩:=h;exact ⟨x,xs,rfl,cO.keep s h1,cV.keep s h2⟩
end
theorem uL{kvs:List (List dE × V)}{k:List dE}{v:V}(h:(gS kvs k).isSome=true):(fL kvs k v).map (·.1)=kvs.map (·.1):=by
 unfold fL;rw [kD,if_pos h,List.map_map];refine List.map_congr_left λp _=>?_;show (if p.1=k then (p.1,v) else p).1=p.1;split <;> rfl
end L2
namespace L2
open PySem PySem.Spec PyProof.Rows
structure fV(X:Cx)(scope:Scope)(xs:List Str)(N':List Str)(js:List Nat):Prop where
 calm:X.calm=true
 free:∀y∈scope.names,y.2=.free->X.env.kindOf y.1=some .cell
 cell:∀y∈scope.names,y.2 ≠ .cell
 kind:scope.kind=.function
 names:∀y∈scope.names,y.2=.local->scope.names.lookup y.1=some .local
 own:∀x∈xs,scope.names.lookup x=some .local
 nofl:∀y,(y,NameKind.free)∈scope.names->scope.names.lookup y=some .local->False
 len:N'.length=xs.length+js.length
 pre:∀(i:Nat) x,xs[i]?=some x->N'[i]?=some x
 nd:N'.Nodup
 slot:∀(i:Nat) (j:Nat),js[i]?=some j->∃y,N'[xs.length+i]?=some y/\X.N[j]?=some y/\(y,NameKind.free)∈scope.names
def wY:Nat->Nat->LZ
 | _,0=>WC
 | i,n+1=>KU (vI i) (wY (i+1) n)
def gN(K:PySem.W.Frag)(n:Nat):TG:=WB K n (wY 0 n)
theorem tM{H:Hp}{r:St}{Q:St->Hp->Prop}:∀(vs:List V) (pre os:St),os.length=vs.length->Q (pre++(vs.map some++r)) H->wY pre.length vs.length vs (pre++(os++r)) H Q
 | [],pre,[],_,q=>⟨rfl,q⟩
 | v::vs,pre,o::os,hl,q=>by
  refine ⟨v,vs,rfl,?_⟩;show wY (pre.length+1) vs.length vs ((pre++(o::os++r)).set pre.length (some v)) H Q;have e1:(pre++(o::os++r)).set pre.length (some v)=(pre++[some v])++(os++r):=by
   rw [List.set_append_right _ _ (aK _),Nat.sub_self,List.append_assoc];rfl
  have e2:pre.length+1=(pre++[some v]).length:=by rw [aI];rfl
  rw [e1,e2];refine tM vs (pre++[some v]) os (by simpa using hl) ?_;rw [List.append_assoc];exact q
@[irreducible] def AB(K:PySem.W.Frag)(n:Nat)(J:It)(σ:St)(js:List Nat)(tc:TT)(te:TE)(H1:Hp)(Q:VK):Prop:=∀D,H1 D=none->∃W:Nat->Nat->List V->Hp->Prop,(∃m,W 0 m [] (upd H1 D (.lst []))) /\
 ∀i m ys H2,W i m ys H2->H2 D=some (.lst ys)/\((J.stop i H2/\Q (.ref D) H2)\/(J.go i H2/\ys.length<sizeLine/\∀x H3,J.yld i H2 x H3->∃a vs,x=.ref a/\eI K H3 a vs/\vs.length=n /\
  oF tc (vs.map some++slots σ js) H3 λb H4=>if b=true then wA te (vs.map some++slots σ js) H4 λy H5=>H5 D=some (.lst ys)/\∃m',m' < m/\W (i+1) m' (ys++[y]) (upd H5 D (.lst (ys++[y])))
   else H4 D=some (.lst ys)/\∃m',m' < m/\W (i+1) m' ys H4))
def IO(K:PySem.W.Frag)(n:Nat)(wi:TI)(js:List Nat)(tc:TT)(te:TE):TE:=λσ H Q=>wi σ H λJ H1=>AB K n J σ js tc te H1 Q
section
variable{X:Cx}{pins:List (Addr × Obj)}{σ:St}{H:Hp}{s:Shared}{scope:Scope}{xs:List Str}{N':List Str}{js:List Nat}{fp:List Addr}
theorem fV.cells(S:fV X scope xs N' js)(ok:X.Ok):∀y∈scope.names,y.2=.free->∃c,X.env.cells.lookup y.1=some c:=λy hy hf=>ok.has _ (.inl (S.free y hy hf))
theorem QB(S:fV X scope xs N' js)(I:bY X pins σ H s)(hf:∀b∈fp,iQ X pins H b)(hb:∀b∈fp,b<s.heap.objs.size):(lK X scope s.heap.objs.size fp s H N').Ok where
 mod:=I.ok.mod
 kind:=S.kind
 glob:=I.ok.glob
 blt:=I.ok.blt
 above:=aK _
 inj:=λy z c h1 h2=>I.ok.inj y z c (fT (S.cells I.ok) h1) (fT (S.cells I.ok) h2)
 has:=λy hy=>by
  have hm:(y,NameKind.free)∈scope.names:=by
   rcases hy with hy | hy
   ·exact gC (env:=X.env) hy (.inl rfl) S.cell
   ·exact gC (env:=X.env) hy (.inr rfl) S.cell
  obtain ⟨c,hc⟩:=S.cells I.ok _ hm rfl;exact ⟨c,kO (S.cells I.ok) hm hc⟩
 cab:=λ_ _ h=>by cases h
 hd:=λ_=>I.ok.hd S.calm
 frames:=I.ok.frames
 stk:=.inl rfl
 exf:=λb hb'=>⟨λe=>by have:=hb b hb';rw [e] at this;exact cP _ this,λy c h=>(hf b hb').2.2.2.2.1 y c (fT (S.cells I.ok) h)⟩
 bs:=I.bs
 bsz:=bC I.ok.bsz I.sz
 noex:=λb o e hb'=>by
  rcases (hf b hb').2.2.2.1 with h | h
  ·exact I.ok.noex b o e h
  ·exact absurd (aZ (aY e) (bC I.ok.bsz h)) (cP _)
 exfs:=λb hb' hs=>by
  have h2:=I.stkSub b hs;rcases aR.mp h2 with h2 | h2
  ·exact (hf b hb').2.1 h2
  ·exact (hf b hb').2.2.1 h2
 funs:=I.stack
 frf:=I.stkFree
theorem LG{h':Heap}{tk:Nat}(S:fV X scope xs N' js)(I:bY X pins σ H s)(hf:∀b∈fp,iQ X pins H b)(hb:∀b∈fp,b<s.heap.objs.size)
  (hn:h'.Ns s.heap.objs.size (λ_=>none)) (hk:∀b o,s.heap.get? b=some o->h'.get? b=some o):bY (lK X scope s.heap.objs.size fp s H N') [] (List.replicate xs.length none++slots σ js) H { s with heap:=h',toks:=tk } where
 ok:=QB S I hf hb
 os:=rfl
 bare:=I.bare
 base:=Un.kept hk
 loc:=by
  refine ⟨_,hn,λi y v hi hv hvis=>?_⟩;by_cases hlt0:i<xs.length
  ·rw [List.getElem?_append_left (by rw [bX];exact hlt0),List.getElem?_replicate,if_pos hlt0] at hv;cases hv
  ·obtain ⟨i,rfl⟩:∃k,i=xs.length+k:=⟨i-xs.length,Oo⟩;rw [List.getElem?_append_right (by rw [bX];omega),bX,Nat.add_sub_cancel_left] at hv;have hv':(slots σ js)[i]?=some (some v):=hv;have hlt:i<js.length:=by
    have:=(bN.mp hv').1;unfold slots at this
    rwa [aA] at this
   have hj:js[i]?=some js[i]:=aN hlt;obtain ⟨z,h1,h2,h3⟩:=S.slot i _ hj;have hzy:z=y:=by
    have:N'[xs.length+i]?=some y:=hi;rw [h1] at this;cases this;rfl
   subst hzy;rw [uU hj] at hv';have hσ:σ[js[i]]?=some (some v):=by
    cases q:σ[js[i]]? with
    | none=>rw [q] at hv';cases hv'
    | some o=>rw [q] at hv';cases hv';rfl
   have hkc:X.env.kindOf z=some .cell:=S.free _ h3 rfl;obtain ⟨m,hm,hl⟩:=I.loc;obtain ⟨u,ru,lk⟩:=hl _ z v h2 hσ (.inr (.inl hkc));rcases lk with ⟨hk1,_⟩ | ⟨_,c,hc,hcell⟩
   ·rw [hkc] at hk1;cases hk1
   ·refine ⟨u,ru,.inr ⟨?_,c,kO (S.cells I.ok) h3 hc,?_⟩⟩
    ·rcases hvis with hvis | hvis | hvis
     ·exfalso;have hcl:=kO (S.cells I.ok) h3 hc;have hm2:=lD (l:=(relabel scope X.env).names) hvis;unfold relabel at hm2;obtain ⟨⟨n,k⟩,hmem,he⟩:=aU.mp hm2;dsimp only at he;by_cases hq:(k == NameKind.free&&X.env.scope.kind == .function&&X.env.kindOf n == some .cell)=true
      ·rw [if_pos hq] at he;cases he
      ·rw [if_neg hq] at he;cases he;have:=S.names _ hmem rfl;have l2:=lB h3;obtain ⟨c',l2⟩:=l2;dsimp only at this;rw [this] at l2;have key:(relabel scope X.env).names.lookup z=some .local:=lookup_relabel_local this;have hck:scope.names.lookup z=some .local:=this;exact S.nofl z h3 hck
     ·exact .inl hvis
     ·exact .inr hvis
    ·obtain ⟨o,e,r⟩:=hcell;exact ⟨o,hk _ _ e,r⟩
 cell:=λy c h=>by
  obtain ⟨v,o,e,r⟩:=I.cell y c (fT (S.cells I.ok) h);exact ⟨v,o,hk _ _ e,r⟩
 free:=I.hok.fresh (aK _)
 freeC:=λy c h=>I.freeC y c (fT (S.cells I.ok) h)
 pin:=λp hp=>by cases hp
 hok:=I.hok.kept hk
 len:=by
  rw [aI,bX];unfold slots;rw [aA];exact S.len.symm
theorem GW{H2:Hp}{σ':St}{s2:Shared}{h'':Heap}(S:fV X scope xs N' js)(I:bY X pins σ H s)(hf:∀b∈fp,iQ X pins H b)
  (J:bY (lK X scope s.heap.objs.size fp s H N') [] σ' H2 s2) (hs:Heap.SameBut s.heap.objs.size s2.heap h''):bY X pins σ H2 { s2 with heap:=h'' }:=by
 have hC:H2 s.heap.objs.size=none:=J.free;have ne:∀{b:Addr} {o:Obj},s.heap.get? b=some o->b≠s.heap.objs.size:=λe q=>by
  have:=aY e;rw [q] at this;exact cP _ this
 refine I.call' (s':={ s2 with heap:=h'' }) (ch:=fp) (by rw [show ({ s2 with heap:=h'' }:Shared).os=s2.os from rfl];exact J.os) ?_ (J.hok.but hC λb u hb q=>hs.extBut b u hb q) J.bare λb hb=>⟨(hf b hb).2.2.2.1,(hf b hb).2.1,(hf b hb).2.2.2.2.1,(hf b hb).2.2.2.2.2⟩;have U:=J.base;exact {
  keep:=λb o e n h1 h2=>hs.extBut b o (ne e) (U.keep b o e n h1 h2)
  slot:=λb o e n h1 h2=>by
   obtain ⟨sl,q⟩:=U.slot b o e n h1 h2;exact ⟨sl,hs.extBut b _ (ne e) q⟩
  free:=U.free
  there:=λb o e h2=>by
   obtain ⟨o',q⟩:=U.there b o e h2;exact ⟨o',hs.extBut b _ (ne e) q⟩
  tups:=U.tups
  frzs:=U.frzs
  tbls:=U.tbls }
end
section
variable{X:Cx}{pins:List (Addr × Obj)}{σ:St}{H:Hp}{s:Shared}{scope:Scope}{xs:List Str}{N':List Str}{js:List Nat}{fp:List Addr}{elt iter:Expr}{px pos:Pos}{tg:Expr}{ifs:List Expr}{tc:TT}{te:TE}
theorem zM{J:It}{it:Addr}{tn:Nat->Heap->Prop}{RR:Value->Addr->Result->Shared->Prop}{E:Value->Shared->Prop}{Q:VK}
  (S:fV X scope xs N' js) (I:bY X pins σ H s) (T:HM X.prog X.w X.K tg J fp it tn) (h0:tn 0 s.heap) (hf:∀b∈fp,iQ X pins H b)
  (hg:∀C fp s₀ H₀,PG (lK X scope C fp s₀ H₀ N') tg (gN X.K xs.length)) (ht:∀C fp s₀ H₀,MM (lK X scope C fp s₀ H₀ N') ifs tc) (he:∀C fp s₀ H₀,PE (lK X scope C fp s₀ H₀ N') elt te)
  (R:∀D,H D=none->∃W:Nat->Nat->List V->Hp->Prop,(∃m,W 0 m [] (upd H D (.lst []))) /\
   ∀i m ys H2,W i m ys H2->H2 D=some (.lst ys)/\((J.stop i H2/\Q (.ref D) H2)\/(J.go i H2/\ys.length<sizeLine/\∀x H3,J.yld i H2 x H3->∃a vs,x=.ref a/\eI X.K H3 a vs/\vs.length=xs.length /\
    tc (vs.map some++slots σ js) H3 λb H4=>if b=true then te (vs.map some++slots σ js) H4 λy H5=>H5 D=some (.lst ys)/\∃m',m' < m/\W (i+1) m' (ys++[y]) (upd H5 D (.lst (ys++[y])))
     else H4 D=some (.lst ys)/\∃m',m' < m/\W (i+1) m' ys H4)))
  (hRR:∀(D:Addr) (H3:Hp) (s3:Shared) (σ':St) (H':Hp) (s':Shared),bY X pins σ H3 s3->(∀b∈fp,iQ X pins H3 b)->bY (lK X scope s3.heap.objs.size fp s3 H3 N') [] σ' H' s'->Q (.ref D) H'->RR (.ref D) s3.heap.objs.size (.ok .next) s') :
  wpAny (model X.prog X.w) X.A (newList []) (λacc s₃=>wpAny (model X.prog X.w) X.A (newFunctionEnv scope X.env.globals (CD X scope) [] X.env.qual none .none (some X.env)) (λcenv s₄ =>
   codeAny (model X.prog X.w) X.A (.compStart (.ListComp elt [⟨tg,iter,ifs,0⟩] scope pos) 0 (.ref it) acc { cenv with scope:=relabel scope X.env }) (RR acc cenv.locals) s₄) E s₃) E s:=by
 have hb:∀b∈fp,b<s.heap.objs.size:=λb hb=>by
  obtain ⟨o,e,_⟩:=T.obj 0 _ h0 b hb;exact aY e
 refine wpAny_newObj_type (wpAny_newFunctionEnv S.cell (by intro y hy;simp at hy) (λh₁ hns₁ hsb₁=>?_) S.kind);have hDn:H s.heap.objs.size=none:=I.hok.fresh (aK _);obtain ⟨W,⟨m0,hw0⟩,hW⟩:=R _ hDn;have I3:bY X pins σ (upd H s.heap.objs.size (.lst [])) { s with heap:=s.heap.push { cls:=.type "list",dict:=none,data:=.seq ([]:List Value).toArray } }:=I.lnew (its:=[]) (ys:=[]) (t':=s.toks) .nil (cB _);have hf3:∀b∈fp,iQ X pins (upd H s.heap.objs.size (.lst [])) b:=λb hb' =>
  ⟨by rw [bU (λe=>by have:=hb b hb';rw [e] at this;exact cP _ this)];exact (hf b hb').1,(hf b hb').2⟩
 have hb3:∀b∈fp,b<(s.heap.push { cls:=.type "list",dict:=none,data:=.seq ([]:List Value).toArray }).objs.size:=λb hb'=>by
  rw [Heap.size_push];exact Nat.lt_succ_of_lt (hb b hb')
 have hkeep:∀b o,(s.heap.push { cls:=.type "list",dict:=none,data:=.seq ([]:List Value).toArray }).get? b=some o->h₁.get? b=some o:=λb o e =>
  hsb₁.extBut b o (λq=>by have:=aY e;rw [q] at this;exact cP _ this) (aB _ e)
 have J4:=LG (h':=h₁) (tk:=s.toks+([]:List (Str × Value)).length) S I3 hf3 hb3 hns₁ hkeep;have t4:tn 0 h₁:=T.keep 0 _ _ h0 λb hb' o e=>hkeep b o (aB _ e);have loop:codeAny (model X.prog X.w) X.A (.compLoop (.ListComp elt [⟨tg,iter,ifs,0⟩] scope pos) 0 (.ref it) (.ref s.heap.objs.size) (compEnvC scope (CD X scope) (s.heap.push { cls:=.type "list",dict:=none,data:=.seq ([]:List Value).toArray }).objs.size X.env))
   (RR (.ref s.heap.objs.size) (s.heap.push { cls:=.type "list",dict:=none,data:=.seq ([]:List Value).toArray }).objs.size) { s with heap:=h₁,toks:=s.toks+([]:List (Str × Value)).length }:=by
  refine pH (λn s'=>∃(i:Nat) (ys:List V) (H2:Hp) (os:St),os.length=xs.length/\bY (lK X scope _ fp _ _ N') [] (os++slots σ js) H2 s'/\tn i s'.heap/\(∀b∈fp,H2 b=none)/\W i n ys H2) ?_ m0 ⟨0,[],_,_,bX,J4,t4,λb hb'=>(hf3 b hb').1,hw0⟩;rintro n s' ⟨i,ys,H2,os,hos,J2,t2,f2,w2⟩;obtain ⟨hD,hcase⟩:=hW i n ys H2 w2;have Fp:∀b∈fp,iQ (lK X scope (s.heap.push { cls:=.type "list",dict:=none,data:=.seq ([]:List Value).toArray }).objs.size fp { s with heap:=s.heap.push { cls:=.type "list",dict:=none,data:=.seq ([]:List Value).toArray } } (upd H s.heap.objs.size (.lst [])) N') [] H2 b:=λb hb' =>
   ⟨f2 b hb',(J2.ok.exf b hb').1,J2.ok.exfs b hb',.inl hb',(J2.ok.exf b hb').2,λp hp=>by cases hp⟩
  rcases hcase with ⟨hstop,hq⟩ | ⟨hgo,hz,hturn⟩
  ·refine wpAny_mono (T.done (lK X scope _ fp _ _ N') rfl rfl rfl rfl i [] s' _ H2 MN J2 Fp t2 hstop) (λr s1 ⟨hr,J5⟩=>?_) λ_ _ f=>f;subst hr;exact hRR _ _ _ _ _ _ I3 hf3 J5 hq
  ·refine wpAny_mono (T.item (lK X scope _ fp _ _ N') rfl rfl rfl rfl i [] s' _ H2 MN J2 Fp t2 hgo) (λr s1 ⟨u,hr,hx⟩=>?_) λ_ _ f=>f;subst hr;refine wpAny_mono hx (λ_ s2 ⟨v,H3,J3,rv,hy,t3,f3⟩=>?_) λ_ _ f=>f;have Fp3:∀b∈fp,iQ (lK X scope (s.heap.push { cls:=.type "list",dict:=none,data:=.seq ([]:List Value).toArray }).objs.size fp { s with heap:=s.heap.push { cls:=.type "list",dict:=none,data:=.seq ([]:List Value).toArray } } (upd H s.heap.objs.size (.lst [])) N') [] H3 b:=λb hb' =>
    ⟨f3 b hb',(J3.ok.exf b hb').1,J3.ok.exfs b hb',.inl hb',(J3.ok.exf b hb').2,λp hp=>by cases hp⟩
   have P3:=J3.pinned Fp3 (T.obj (i+1) _ t3);have keepT:∀{σ':St} {Hx:Hp} {sx:Shared},bY (lK X scope (s.heap.push { cls:=.type "list",dict:=none,data:=.seq ([]:List Value).toArray }).objs.size fp { s with heap:=s.heap.push { cls:=.type "list",dict:=none,data:=.seq ([]:List Value).toArray } } (upd H s.heap.objs.size (.lst [])) N') ([]++pW fp s2.heap) σ' Hx sx->tn (i+1) sx.heap/\∀b∈fp,Hx b=none:=λJx =>
    ⟨T.keep (i+1) _ _ t3 λb hb' ob e=>(Jx.pin (b,ob) (aG _ (aG _ (iD hb' e)))).1,λb hb'=>by
     obtain ⟨ob,e,_⟩:=T.obj (i+1) _ t3 b hb';exact (Jx.pin (b,ob) (aG _ (aG _ (iD hb' e)))).2.1⟩
   obtain ⟨a,vs,ev,hq,hl,qe⟩:=hturn v H3 hy;subst ev;refine wpAny_mono (hg _ _ _ _ _ _ (os++slots σ js) H3 (.ref a) u (λσ' H'=>σ'=vs.map some++slots σ js/\H'=H3) P3 rv ⟨a,vs,rfl,hq,hl,?_⟩) (λ_ s5 ⟨σ5,H5,J5,e5,e6⟩=>?_) λ_ _ f=>f
   ·have:=tM (H:=H3) (r:=slots σ js) (Q:=λσ' H'=>σ'=vs.map some++slots σ js/\H'=H3) vs [] os (by rw [hos,hl]) ⟨rfl,rfl⟩;rw [hl] at this;exact this
   subst e5 e6;refine wpAny_mono (ht _ _ _ _ _ _ _ _ _ J5 qe) (λok s6 ⟨H6,J6,q6⟩=>?_) λ_ _ f=>f;dsimp only at q6;by_cases hok:ok=true
   ·rw [if_pos hok] at q6 ⊢;refine wpAny_mono (he _ _ _ _ _ _ _ _ _ J6 q6) (λy s7 ⟨w',H7,J7,r7,hD7,m',hm',w7⟩=>?_) λ_ _ f=>f;refine wpAny_mono (qA (X:=lK X scope _ fp _ _ N') _ _ _ _ (.ref s.heap.objs.size) [w'] (.ref s.heap.objs.size) [y] (λ_ H8=>H8=upd H7 s.heap.objs.size (.lst (ys++[w']))) J7 rfl (.cons r7 .nil) ⟨_,_,_,rfl,rfl,hD7,hz,rfl⟩) (λ_ s8 ⟨_,H8,J8,_,e8⟩=>?_) λ_ _ f=>f;subst e8;obtain ⟨k1,k2⟩:=keepT J8;exact ⟨m',hm',i+1,ys++[w'],_,vs.map some,by rw [aA,hl],J8.unpinned,k1,k2,w7⟩
   ·rw [if_neg hok] at q6 ⊢;obtain ⟨_,m',hm',w7⟩:=q6;obtain ⟨k1,k2⟩:=keepT J6;exact ⟨m',hm',i+1,ys,_,vs.map some,by rw [aA,hl],J6.unpinned,k1,k2,w7⟩
 refine codeAny_compStart_list loop (T.self X.A 0 _ _ _ t4 loop)
theorem JV{wi:TI}(S:fV X scope xs N' js)(hi:PI X tg iter wi)(hg:∀C fp s₀ H₀,PG (lK X scope C fp s₀ H₀ N') tg (gN X.K xs.length))(ht:∀C fp s₀ H₀,MM (lK X scope C fp s₀ H₀ N') ifs tc)(he:∀C fp s₀ H₀,PE (lK X scope C fp s₀ H₀ N') elt te)
  (hs:∀x,foldedSetIterable iter X.env x=pure x:=by intro _;rfl):PE X (.ListComp elt [⟨tg,iter,ifs,0⟩] scope pos) (IO X.K xs.length wi js tc te):=by
 intro pins s σ H Q I h;rw [eval_ListComp];refine wpAny_comprehension_free (use:=none) rfl hs (nG (S.cells I.ok)) S.kind S.names (wpAny_mono (hi pins s σ H _ I h) (λv s1 h1=>?_) λ_ _ e=>e);refine wpAny_mono h1 (λitv s2 ⟨it,fp,tn,J,H2,e,I2,T,t0,hf,R⟩=>?_) λ_ _ e=>e;subst e;refine zM (te:=wA te) (tc:=oF tc) S I2 T t0 hf hg (λC fp s₀ H₀=>(ht C fp s₀ H₀).mono) (λC fp s₀ H₀=>(he C fp s₀ H₀).mono) (by unfold AB at R;exact R) ?_;intro D H3 s3 σ' H' s' I3 hf3 J3 q;obtain ⟨m,hm,_⟩:=J3.loc;exact ⟨m,hm,λh' hs'=>⟨.ref D,H',GW S I3 hf3 J3 hs',rfl,q⟩⟩
end
section
variable{X:Cx}{scope:Scope}{x1 x2 x3 y:Str}{N':List Str}{js:List Nat}{elt iter tg:Expr}{ifs:List Expr}{py pos spos:Pos}{tc:TT}{te:TE}{wi:TI}{i:Nat}
theorem QX{xs:List Str}{k:Nat}{x:Str}{p:Pos}(S:fV X scope xs N' js)(h:xs[k]?=some x)(C:Addr)(fp:List Addr)(s₀:Shared)(H₀:Hp):SI (lK X scope C fp s₀ H₀ N') (.Name x p) (vI k) :=
 have l:=S.own x (bK h)
 eK S.nd (S.pre k x h) (.inl (lookup_relabel_local l)) (.inr (lookup_relabel_local l))
theorem SL{p1 p2 pt:Pos}{kk:Nat}(S:fV X scope [x1,x2] N' js)(C:Addr)(fp:List Addr)(s₀:Shared)(H₀:Hp):SI (lK X scope C fp s₀ H₀ N') (.Tuple [.Name x1 p1,.Name x2 p2] kk pt) (gN X.K 2) :=
 vV rfl (gR (QX S rfl C fp s₀ H₀) (gR (QX S rfl C fp s₀ H₀) rW))
theorem FI{p1 p2 pt:Pos}{kk:Nat}(S:fV X scope [x1,x2] N' js)(hi:WZ X (.Tuple [.Name x1 p1,.Name x2 p2] kk pt) iter wi)(ht:∀C fp s₀ H₀,QQ (lK X scope C fp s₀ H₀ N') ifs tc)(he:∀C fp s₀ H₀,fI (lK X scope C fp s₀ H₀ N') elt te)
  (hs:∀x,foldedSetIterable iter X.env x=pure x:=by intro _;rfl):fI X (.ListComp elt [⟨.Tuple [.Name x1 p1,.Name x2 p2] kk pt,iter,ifs,0⟩] scope pos) (IO X.K 2 wi js tc te) :=
 ⟨JV S hi.p (λC fp s₀ H₀=>(SL S C fp s₀ H₀).p) (λC fp s₀ H₀=>(ht C fp s₀ H₀).p) (λC fp s₀ H₀=>(he C fp s₀ H₀).p) hs⟩
end
def LL(psc scope:Scope)(N:List Str)(xs N':List Str)(js:List Nat):Bool :=
 (scope.names.all λy=>!(y.2 == .free) || psc.names.lookup y.1 == some .cell)&&(scope.names.all λy=>!(y.2 == .cell))&&scope.kind == .function &&
 (scope.names.all λy=>!(y.2 == .local) || scope.names.lookup y.1 == some .local)&&(xs.all λx=>scope.names.lookup x == some .local) &&
 (scope.names.all λy=>!(y.2 == .free) || !(scope.names.lookup y.1 == some .local))&&N'.length == xs.length+js.length&&N'.take xs.length == xs&&decide N'.Nodup &&
 ((List.range js.length).all λi=>match js[i]?,N'[xs.length+i]? with
  | some j,some y=>N[j]? == some y&&scope.names.contains (y,NameKind.free)
  | _,_=>false)
theorem fV.of{X:Cx}{psc scope:Scope}{N:List Str}{xs N':List Str}{js:List Nat}(h:LL psc scope N xs N' js=true)(hX:X.env.scope=psc)(hN:X.N=N)(hc:X.calm=true):fV X scope xs N' js:=by
 unfold LL at h;simp only [aQ] at h;obtain ⟨⟨⟨⟨⟨⟨⟨⟨⟨h1,h2⟩,h3⟩,h4⟩,h5⟩,h6⟩,h7⟩,h8⟩,h9⟩,h10⟩:=h;rw [List.all_eq_true] at h1 h2 h4 h5 h6 h10;refine ⟨hc,λy hy e=>?_,λy hy e=>?_,by simpa using h3,λy hy e=>?_,λx hx=>by simpa using h5 x hx,λy hy e=>?_,by simpa using h7,λi x hx=>?_,of_decide_eq_true h9,λi j hj=>?_⟩
 ·have:=h1 y hy;rw [e] at this;show X.env.scope.names.lookup y.1=_;rw [hX];simpa using this
 ·have:=h2 y hy;rw [e] at this;simp at this
 ·have:=h4 y hy;rw [e] at this;simpa using this
 ·have:=h6 _ hy;rw [e] at this;simp at this
 ·have e8:N'.take xs.length=xs:=by simpa using h8
  have hi:i<xs.length:=(bN.mp hx).1;rw [<-hx]
  conv=>rhs;rw [<-e8]
  rw [List.getElem?_take,if_pos hi]
 ·have hi:i<js.length:=(bN.mp hj).1;have:=h10 i (cU.mpr hi);rw [hj] at this;cases q:N'[xs.length+i]? with
  | none=>rw [q] at this;simp at this
  | some y =>
   rw [q] at this;simp only [aQ] at this;exact ⟨y,rfl,by rw [hN];simpa using this.1,List.contains_iff_mem.mp this.2⟩
theorem pX{α β:Type}{R:α->β->Prop}:∀{l:List α}{m:List β}{i:Nat}{b:β},Paired R l m->m[i]?=some b->∃a,l[i]?=some a/\R a b
 | _,_,_,_,.nil,h=>by simp at h
 | _,_,0,b,.cons h t,e=>⟨_,rfl,by cases (show _=b by simpa using e);exact h⟩
 | _,_,i+1,b,.cons h t,e=>by
  obtain ⟨a,h1,h2⟩:=pX t (i:=i) (by simpa using e);exact ⟨a,by simpa using h1,h2⟩
section
variable{js:List Nat}{te:TE}{tc:TT}{σ:St}{H:Hp}{Q:VK}
theorem HD{K:PySem.W.Frag}{n:Nat}{J:It}{α:Type}{as:List α}(p:α->Bool)(Src:α->V->Prop)(R:α->V->Hp->Prop)(hR:∀c y H1 H2,eY H1 H2->R c y H1->R c y H2)(hz:as.length<=100000)
  (hg:∀i H',aX H H'->i<as.length->J.go i H'/\∀x H3,J.yld i H' x H3->H3=H'/\∃c,as[i]?=some c/\Src c x) (hst:∀H',aX H H'->J.stop as.length H')
  (hs:∀x c H',c∈as->Src c x->aX H H'->∃a vs,x=.ref a/\eI K H' a vs/\vs.length=n/\(∀Q':Bool->Hp->Prop,(∀H5,aX H' H5->Q' (p c) H5)->tc (vs.map some++slots σ js) H' Q') /\
   ∀H5 (Q':VK),aX H' H5->p c=true->(∀y H6,aX H5 H6->R c y H6->Q' y H6)->te (vs.map some++slots σ js) H5 Q')
  (hd:∀D ys H',H D=none->H' D=some (.lst ys)->aX H H'->Paired (λc y=>R c y H') (as.filter p) ys->Q (.ref D) H'):AB K n J σ js tc te H Q:=by
 unfold AB;intro D hD;have mono:∀{H1 H2:Hp} {l:List α} {ys:List V},eY H1 H2->Paired (λc y=>R c y H1) l ys->Paired (λc y=>R c y H2) l ys:=by
  intro H1 H2 l ys s h
  induction h with
  | nil=>exact .nil
  | cons h t ih=>exact .cons (hR _ _ _ _ s h) ih
 have snoc:∀{H1:Hp} {l:List α} {ys:List V} {c:α} {y:V},Paired (λc y=>R c y H1) l ys->R c y H1->Paired (λc y=>R c y H1) (l++[c]) (ys++[y]):=by
  intro H1 l ys c y h r
  induction h with
  | nil=>exact .cons r .nil
  | cons h t ih=>exact .cons h ih
 refine ⟨λi m ys H'=>m=as.length-i/\i<=as.length/\H' D=some (.lst ys)/\aX H H'/\ys.length<=i/\Paired (λc y=>R c y H') ((as.take i).filter p) ys,⟨as.length,by simp,cB _,bL,aX.upd hD,aK _,.nil⟩,?_⟩;rintro i m ys H2 ⟨rfl,hi,hD2,s2,hy,pr⟩;refine ⟨hD2,?_⟩;by_cases hlt:i<as.length
 ·obtain ⟨hgo,hyl⟩:=hg i H2 s2 hlt;refine .inr ⟨hgo,bI (m:=100000) Oo Dd,λx H3 hy3=>?_⟩;obtain ⟨rfl,c,hc,rc⟩:=hyl x H3 hy3;have hti:as.take (i+1)=as.take i++[c]:=by rw [fN,hc];rfl
  obtain ⟨a,vs,e,hq,hl,ht,he⟩:=hs x c H3 (bK hc) rc s2;refine ⟨a,vs,e,hq,hl,λb H4=>b=p c/\aX H3 H4,ht _ λH5 s5=>⟨rfl,s5⟩,?_⟩;rintro b H4 ⟨rfl,s4⟩;by_cases hp:p c=true
  ·rw [if_pos hp];refine ⟨λy H5=>aX H4 H5/\R c y H5,he H4 _ s4 hp λy H6 s6 r=>⟨s6,r⟩,?_⟩;rintro y H5 ⟨s5,r⟩;have e5:=s5 _ _ (s4 _ _ hD2);refine ⟨e5,_,?_,rfl,hlt,bL,aX.thru hD ((s2.trans s4).trans s5) aT.self,?_,?_⟩
   ·omega
   ·rw [aI,List.length_singleton];omega
   ·rw [hti,List.filter_append,show List.filter p [c]=[c] by simp [hp]];have t6:eY H5 (upd H5 D (.lst (ys++[y]))):=aT.t aT.self e5;exact mono t6 (snoc (mono (s4.trans s5).t pr) r)
  ·rw [if_neg hp];refine ⟨s4 _ _ hD2,_,?_,rfl,hlt,s4 _ _ hD2,s2.trans s4,Oo,?_⟩
   ·omega
   ·rw [hti,List.filter_append,show List.filter p [c]=[] by simp [hp],List.append_nil];exact mono s4.t pr
 ·have e:i=as.length:=Oo;subst e;refine .inl ⟨hst H2 s2,hd D ys H2 hD hD2 s2 ?_⟩;rw [dW] at pr;exact pr
theorem HC{K:PySem.W.Frag}{n:Nat}{a0:Addr}{xs:List V}{α:Type}{as:List α}(p:α->Bool)(Src:α->V->Prop)(R:α->V->Hp->Prop)(hR:∀c y H1 H2,eY H1 H2->R c y H1->R c y H2)(hz:as.length<=100000)(ha:H a0=some (.tup xs))(pr:Paired Src as xs)
  (hs:∀x c H',c∈as->Src c x->aX H H'->∃a vs,x=.ref a/\eI K H' a vs/\vs.length=n/\(∀Q':Bool->Hp->Prop,(∀H5,aX H' H5->Q' (p c) H5)->tc (vs.map some++slots σ js) H' Q') /\
   ∀H5 (Q':VK),aX H' H5->p c=true->(∀y H6,aX H5 H6->R c y H6->Q' y H6)->te (vs.map some++slots σ js) H5 Q')
  (hd:∀D ys H',H D=none->H' D=some (.lst ys)->aX H H'->Paired (λc y=>R c y H') (as.filter p) ys->Q (.ref D) H'):AB K n (QU K a0) σ js tc te H Q:=by
 have hl:xs.length=as.length:=pr.length.symm;refine HD p Src R hR hz (λi H' s hi=>⟨⟨xs,xs[i]'Oo,eI.of (s _ _ ha),by simp⟩,λx H3 y=>⟨y.1,?_⟩⟩) (λH' s=>⟨xs,eI.of (s _ _ ha),Oo⟩) hs hd;have hx:=y.2 xs (eI.of (s _ _ ha));obtain ⟨c,h1,h2⟩:=pX pr hx;exact ⟨c,h1,h2⟩
end
end L2
namespace L2
open PySem
section
variable{js:List Nat}{te:TE}{σ:St}{H:Hp}{Q:VK}
end
theorem Paired.ofRepL{H:Hp}{α:Type}{g:α->PyData}:∀{as:List α}{xs:List V},aL H (as.map g) xs->Paired (λa x=>bR H (g a) x) as xs
 | [],xs,r=>by
  unfold aL at r;cases (show xs=[] from r);exact .nil
 | a::as,xs,r=>by
  rw [aV] at r;unfold aL at r;obtain ⟨x,xs',rfl,r1,r2⟩:=r;exact .cons r1 (Paired.ofRepL r2)
section
variable{X:Cx}{scope:Scope}{x1 x2 x3 y:Str}{N':List Str}{js:List Nat}{elt iter tg:Expr}{ifs:List Expr}{py pos spos:Pos}{tc:TT}{te:TE}{wi wj:TI}{i:Nat}
end
end L2
namespace L2
open PySem PySem.Spec PyProof.Rows
section
variable{X:Cx}
end
theorem zU:bootBuiltins (Str.ofString "sorted")=some (Value.builtin "sorted"):=Kk
section
variable{X:Cx}
end
end L2
namespace L2
open PySem PySem.Spec PySem.W PyProof.Rows HT
end L2
namespace L2
end L2
namespace L2
open PySem
section
variable{M:Model}{A:Around}{E:Value->Shared->Prop}{s:Shared}{env:Env}{outer:List Env}{base:Heap}{L a:Addr}{cls:Value}{od:Option Addr}
end
end L2
namespace L2
open PySem PySem.Spec PyProof.Rows
section
variable{P:Program}{w:World}{H H1 H2:Hp}{h h1 h2 base:Heap}{fs fs2 ex:List Addr}{a:Addr}{o:HO}
end
section
variable{P:Program}{w:World}{K:PySem.W.Frag}{mg:Str->Option Value}{base:Heap}{N:List Str}{qual:Str}{scope:Scope}{f:Addr}{cd:Value}{A:Around}{outer:List Env}{s:Shared}{H:Hp}{E:XK}
end
section
variable{X:Cx}{k:Nat}{f C:Addr}{fd:FuncData}{ps:List Str}{sp:Sp}{Ex:St->XK}{x:Str}{p pos np cpos:Pos}{e:Expr}{es:List Expr}{t:TA}
end
section
variable{X:Cx}{C:Addr}{Ex:St->XK}{x:Str}{pos np cpos:Pos}{e:Expr}{es:List Expr}{t:TA}
end
end L2
namespace L2
open PySem PySem.W PySem.Spec PySem.Calls PyProof.Rows
section
variable{prog:Program}{w:World}{A:Around}{E:Value->Shared->Prop}{s:Shared}{K:Frag}{x C:Addr}{ox:Obj}{od:Option Obj}{name:Str}
end
end L2
namespace L2
open PySem PySem.Spec PyProof.Rows
section
variable{X:Cx}{pins:List (Addr × Obj)}{σ:St}{H:Hp}{s:Shared}
end
section
variable{M:Model}{A:Around}{E:Value->Shared->Prop}{K:PySem.W.Frag}{s:Shared}{a C C2:Addr}{ox:Obj}{od:Option Obj}
end
section
variable{X:Cx}{x n:Str}{np hpos pos:Pos}{b₀:Stmt}{body suite:List Stmt}{i:Nat}{C2:Addr}{tb:(St->XK)->TS}{th:TS}
end
end L2
namespace L2
open PySem PySem.W PySem.Spec PySem.Calls PyProof.Rows
section
variable{prog:Program}{w:World}{A:Around}{E:Value->Shared->Prop}{h:Heap}{g:Array GenState}{d:Drawn}{t:Nat}{os:OsState}
variable{nm q:Str}{C N:Addr}{bs bm bmB:List Value}{hdct:Bool}{sn:List Str}{sub:List Value}{ab:Bool}{col:Option Bool}{dd:Option Addr}{k0 k1 k2 k3 k5:Option Value}{B newId initId:String}
end
section
variable{prog:Program}{w:World}{A:Around}{E:Value->Shared->Prop}{s:Shared}{K:Frag}{C f:Addr}{rest:List Value}
end
end L2
namespace L2
open PySem PySem.W PySem.Spec PySem.Calls PyProof.Rows Builtin Builtin.ObjectAttr
section
variable{prog:Program}{w:World}{A:Around}{E:Value->Shared->Prop}{s:Shared}{K:Frag}{x C:Addr}{R:Result->Shared->Prop}
end
section
variable{X:Cx}{pins:List (Addr × Obj)}{σ:St}{H:Hp}{s:Shared}{a C d:Addr}{fs:List (Str × V)}{f:Str}{v:V}{A:Around}{E:Value->Shared->Prop}
end
section
variable{X:Cx}{k:Nat}{f C:Addr}{fd:FuncData}{ps:List Str}{sp:Sp}{x g:Str}{p pos np apos pos':Pos}{e o value:Expr}{es:List Expr}{t:TA}{ta tv:TE}
end
end L2
namespace L2
open PySem PySem.W PySem.Spec PySem.Calls PyProof.Rows
end L2
namespace L2
open PySem PySem.W PySem.Spec PySem.Calls PyProof.Rows Builtin Builtin.ObjectAttr
section
variable{P:Program}{w:World}{H:Hp}{h:Heap}{a C:Addr}{od:Option Addr}
end
section
variable{prog:Program}{w:World}{A:Around}{E:Value->Shared->Prop}{s:Shared}{K:Frag}{x C:Addr}
end
section
variable{X:Cx}{pins:List (Addr × Obj)}{σ:St}{H:Hp}{s:Shared}{a C d:Addr}{fs:List (Str × V)}{f:Str}{v:V}{A:Around}{E:Value->Shared->Prop}
end
section
variable{X:Cx}{k:Nat}{f C:Addr}{fd:FuncData}{ps:List Str}{sp:Sp}{x g:Str}{p pos np apos pos':Pos}{e o value:Expr}{es:List Expr}{t:TA}{ta tv:TE}
end
section
variable{M:Model}{A:Around}{E:Value->Shared->Prop}{env:Env}{K:Frag}{C:Addr}
end
section
variable{X:Cx}{k:Nat}{f C:Addr}{fd:FuncData}{ps:List Str}{sp:Sp}{Ex:St->XK}{x:Str}{pos np cpos:Pos}{e:Expr}{es:List Expr}{t:TA}
end
end L2
namespace L2
open PySem PySem.Spec PySem.W PyProof.Rows HT
@[irreducible] def sS(K:PySem.W.Frag):List V->Hp->VK->Prop:=λxs H Q=>∃x d T,xs=[x,.ty T]/\cO K H d x/\(T = "int" \/ T = "bool" \/ T = "tuple" \/ T = "str" \/ T = "list" \/ T = "dict")/\Q (.bl (HX T d)) H
theorem kN{X:Cx}(K:PySem.W.Frag)(hK:X.K=K:=by rfl):eW X (.builtin "isinstance") (sS K):=by
 subst hK;unfold sS;intro pins s σ H xs us Q I r h;obtain ⟨x,d,T,rfl,hr,hT,q⟩:=h;obtain ⟨u,w',rfl,r1,r2⟩:=uP r;cases (show w'=Value.type T from r2);have go:∀{t:Value},nY X.K H x t->t=.type (MG d)->wpAny (model X.prog X.w) X.A (call (.builtin "isinstance") [u,.type T]) (EP X pins σ Q) X.xe s:=λty e=>by
  subst e;exact qC I r1 ty (DW _ d T hT) λtk=>⟨.bl _,H,I.tok _,rfl,q⟩
 cases d with
 | none=>cases (show x=V.non from hr);exact go .non rfl
 | bool b=>cases (show x=V.bl b from hr);exact go (.bl b) rfl
 | int b=>cases (show x=V.int b from hr);exact go (.int b) rfl
 | str b=>cases (show x=V.str b from hr);exact go (.str b) rfl
 | list ds=>unfold cO at hr;obtain ⟨a,xs,rfl,h1,h2⟩:=hr;exact go (.lst h1) rfl
 | dict ds=>unfold cO at hr;obtain ⟨_,a,rfl,h1⟩:=hr;exact go (.dK h1) rfl
 | tuple ds =>
  unfold cO at hr;obtain ⟨a,ys,rfl,ha,_⟩:=hr;cases (show u=Value.ref a from r1);obtain ⟨its,_,⟨o,h1,h2,_⟩,_⟩:=I.tuple ha;exact kia_one kitx_tuple I.kIn ⟨o,h1,h2⟩ (DW _ (.tuple ds) T hT) (λz=>nomatch z) λtk=>⟨.bl _,H,I.tok _,rfl,q⟩
section
variable{K:PySem.W.Frag}{H:Hp}{x:V}{d:PyData}{Q:VK}
theorem rkI{T:String}(r:cO K H d x)(q:Q (.bl (HX T d)) H)(hT:(T = "int" \/ T = "bool" \/ T = "tuple" \/ T = "str" \/ T = "list" \/ T = "dict"):=by decide):sS K [x,.ty T] H Q:=by unfold sS;exact ⟨x,d,T,rfl,r,hT,q⟩
theorem JF(r:cO K H d x)(q:Q (.bl (rM d)) H):sS K [x,.ty "tuple"] H Q:=rkI r (by rw [DZ];exact q)
theorem YI(r:cO K H d x)(q:Q (.bl (QA d)) H):sS K [x,.ty "int"] H Q:=rkI r (by rw [EA];exact q)
theorem wK(r:cO K H d x)(q:Q (.bl (ER d)) H):sS K [x,.ty "bool"] H Q:=rkI r (by rw [zA];exact q)
end
theorem cV.len{K:PySem.W.Frag}{H:Hp}:∀{ds:List PyData}{vs:List V},cV K H ds vs->vs.length=ds.length
 | [],_,h=>by cases (show _=[] from h);rfl
 | d::ds,_,h=>by
  unfold cV at h;obtain ⟨x,xs,rfl,_,h2⟩:=h;rw [bF,bF,h2.len]
theorem cV.at{K:PySem.W.Frag}{H:Hp}:∀{ds:List PyData}{vs:List V}{i:Nat}{x:V},cV K H ds vs->vs[i]?=some x->∃d,ds[i]?=some d/\cO K H d x
 | [],_,i,x,h,e=>by cases (show _=[] from h);simp at e
 | d::ds,_,0,x,h,e=>by
  unfold cV at h;obtain ⟨y,xs,rfl,h1,_⟩:=h;cases (show y=x by simpa using e);exact ⟨d,rfl,h1⟩
 | d::ds,_,i+1,x,h,e=>by
  unfold cV at h;obtain ⟨y,xs,rfl,_,h2⟩:=h;simpa using h2.at (i:=i) (by simpa using e)
theorem cV.get{K:PySem.W.Frag}{H:Hp}{ds:List PyData}{vs:List V}{i:Nat}{d:PyData}(h:cV K H ds vs)(e:ds[i]?=some d):∃x,vs[i]?=some x/\cO K H d x:=by
 have hl:=h.len;have hi:=(bN.mp e).1;obtain ⟨d',e',r⟩:=h.at (i:=i) (x:=vs[i]'Oo) (by simp);rw [e] at e';cases e';exact ⟨_,by simp,r⟩
section
variable{σ:St}{js:List Nat}{te:TE}{H:Hp}{Q:VK}
theorem CA{K:PySem.W.Frag}{a:Addr}{xs:List V}(R:Nat->V->Hp->Prop)(hR:∀i y H1 H2,eY H1 H2->R i y H1->R i y H2)(hz:xs.length<=100000)(hl:eI K H a xs)
  (hs:∀i x H' (Q':VK),xs[i]?=some x->aX H H'->(∀y H5,aX H' H5->R i y H5->Q' y H5)->te (some x::slots σ js) H' Q')
  (hd:∀D ys H',H D=none->H' D=some (.lst ys)->aX H H'->ys.length=xs.length->(∀(i:Nat) (y:V),ys[i]?=some y->R i y H')->Q (.ref D) H'):iR (QU K a) σ js sK te H Q :=
 mU (λi x=>xs[i]?=some x) R hR hz (λi H' s hi=>⟨⟨xs,xs[i],hl.keep s,by simp [hi]⟩,λx H3 y=>⟨y.1,y.2 xs (hl.keep s)⟩⟩) (λH' s=>⟨xs,hl.keep s,aK _⟩)
  (λi x H' Q' hx _ s k=>hs i x H' Q' hx s k) hd
theorem nX{K:PySem.W.Frag}{a:Addr}{xs:List V}{ds:List PyData}(p:PyData->Bool)(hz:ds.length<=100000)(hl:eI K H a xs)(hr:cV K H ds xs)
  (hs:∀x d H' (Q':VK),d∈ds->cO K H' d x->aX H H'->(∀H5,aX H' H5->Q' (.bl (p d)) H5)->te (some x::slots σ js) H' Q')
  (hd:∀D H',H D=none->H' D=some (.lst ((ds.map p).map V.bl))->aX H H'->Q (.ref D) H'):iR (QU K a) σ js sK te H Q:=by
 have ll:=hr.len;refine CA (λi y _=>∃d,ds[i]?=some d/\y=.bl (p d)) (λi y H1 H2 s h=>h) Oo hl (λi x H' Q' hx s' k'=>?_) (λD ys H8 hD hD8 s8 hy8 hr8=>?_)
 ·obtain ⟨d,e,r⟩:=hr.at hx;exact hs x d H' Q' (bK e) (r.keep s') s' λH5 s5=>k' _ H5 s5 ⟨d,e,rfl⟩
 ·have:ys=(ds.map p).map V.bl:=by
   apply List.ext_getElem?;intro i;rw [aS,aS];cases q:ys[i]? with
   | none =>
    have:ys.length<=i:=List.getElem?_eq_none_iff.mp q;rw [dO Oo];rfl
   | some y =>
    obtain ⟨d,h1,h2⟩:=hr8 i y q;rw [h1,h2];rfl
  rw [this] at hD8;exact hd D H8 hD hD8 s8
end
end L2
namespace HT
open PySem PySem.Spec PySem.W PyProof.Rows
section
variable{prog:Program}{w:World}{K:Type}[DecidableEq K]{knd:HeapKind prog w K}{A:Around}{E:Value->Shared->Prop}{s:Shared}
end
end HT
namespace L2
open PySem PySem.Spec PySem.W PyProof.Rows HT
section
variable{X:Cx}
end
section
variable{X:Cx}{tg:Expr}
end
section
variable{σ:St}{js:List Nat}{te:TE}{H:Hp}{Q:VK}
end
section
variable{X:Cx}
end
def BG(kvs rest:List (List dE × V)):List (List dE × V):=rest.foldl (λl p=>fL l p.1 p.2) kvs
section
variable{X:Cx}{pins:List (Addr × Obj)}{σ:St}{H:Hp}
theorem tY{D it t:Addr}{ys:List V}{R:Result->Shared->Prop}(hu:X.A.units+8<cLine)(hA:X.A.handled=none)(hD:H D=none)(ht:H t=some (.tup ys))(nit:it≠D) :
  ∀(rest:List (List dE × V)) (i:Nat) (kvs:List (List dE × V)) (s:Shared),bY X pins σ (upd H D (.dT kvs)) s->iQ X pins (upd H D (.dT kvs)) it->s.heap.IsTupleIter it t i->Paired (nJ H) (ys.drop i) rest->kvs.length+rest.length<=1000 ->
   (∀s',bY X pins σ (upd H D (.dT (BG kvs rest))) s'->R (.ok (.ret .none)) s')->codeAny (model X.prog X.w) X.A.in1 (.builtin "dict.update.loop" ⟨[.ref D,.ref it,rawInt i,.none],[]⟩) R s
 | [],i,kvs,s,I,fp,hit,pr,hz,k=>by
  have ntD:t≠D:=λe=>by subst e;rw [hD] at ht;cases ht
  obtain ⟨its,r,pl,_⟩:=I.tuple (eI.of (show upd H D (.dT kvs) t=some (.tup ys) by rw [bU ntD];exact ht));have hl:ys.length<=i:=by
   generalize hq:ys.drop i=l at pr;cases pr;exact List.drop_eq_nil_iff.mp hq
  have hl2:=r.length;refine CU hA hit pl (by rw [Array.getElem?_eq_none];simp;omega) λh' e=>k _ ?_;exact I.turnedL (t':=s.toks) (fp:=[it]) (λb o hb x=>e b o (by simpa using hb) x) (λb hb=>by
   cases (show b=it by simpa using hb);exact fp)
 | p::rest,i,kvs,s,I,fp,hit,pr,hz,k=>by
  have ntD:t≠D:=λe=>by subst e;rw [hD] at ht;cases ht
  obtain ⟨its,r,pl,_⟩:=I.tuple (eI.of (show upd H D (.dT kvs) t=some (.tup ys) by rw [bU ntD];exact ht));generalize hq:ys.drop i=l at pr;cases pr with
  | @cons y _ ys' _ hy pr' =>
   obtain ⟨b,a,rfl,hb,ha⟩:=hy;have hi:i<ys.length:=by
    by_cases h:i<ys.length
    ·exact h
    ·rw [List.drop_eq_nil_iff.mpr Oo] at hq;cases hq
   have hyi:ys[i]?=some (.ref b):=by
    have:=List.drop_eq_getElem_cons hi;rw [hq] at this;injection this with h1 h2;rw [aN hi,<-h1]
   have hys':ys.drop (i+1)=ys':=by
    have:=List.drop_eq_getElem_cons hi;rw [hq] at this;injection this with h1 h2;exact h2.symm
   obtain ⟨u,hu',ru⟩:=r.get hyi;cases ru;have nbD:b≠D:=λe=>by subst e;rw [hD] at hb;cases hb
   have naD:a≠D:=λe=>by subst e;rw [hD] at ha;cases ha
   have hb2:upd H D (.dT kvs) b=some (.tup [.ref a,p.2]):=by rw [bU nbD];exact hb
   have ha2:upd H D (.dT kvs) a=some (.tup (p.1.map kV)):=by rw [bU naD];exact ha
   obtain ⟨itb,rb,plb,_⟩:=I.tuple (eI.of hb2);obtain ⟨ua,uv,rfl,ra,rv⟩:=uP rb;cases ra;have nb:b≠it:=λe=>by have:=fp.1;rw [<-e,hb2] at this;cases this
   obtain ⟨z,hdm,xs,rel,o,es,ep,h1,h2,h3,h4,h5⟩:=(show dL X.prog X.w (upd H D (.dT kvs)) s.heap D (.dT kvs) from I.hok D _ bL);have hturn:∀h' tk,(∀c o,c≠it->s.heap.get? c=some o->h'.get? c=some o)->bY X pins σ (upd H D (.dT kvs)) { s with heap:=h',toks:=tk }:=λh' tk kp =>
    I.turnedL (t':=tk) (fp:=[it]) (λb o hb x=>kp b o (by simpa using hb) x) (λb hb=>by
     cases (show b=it by simpa using hb);exact fp)
   have lxs:xs.length=kvs.length:=(Paired.length rel).symm;refine xU (knd:=tupleKind (dQ X.prog X.w)) (xs:=xs) (k:=p.1) (v:=uv) (b:=b) (a:=a) (show _<_ by show X.A.in1.in1.units<cLine;exact bI (show X.A.in1.in1.units<=X.A.units+2 from aK _) Oo) hit pl (by simpa using hu') plb nb (λh' kp=>⟨mK (hturn h' s.toks kp).hok ha2,o,es,ep,kp D o (Ne.symm nit) h1,h2,h3,h4,KT.isAll (hturn h' s.toks kp).hok rel,h5⟩) (Ne.symm nit) Oo λhh1 hh2 tk kp hs2 hm2 hit2=>?_;have I1:=hturn hh1 s.toks kp;obtain ⟨q,es2,ep2,hq2,g2,g3,g4,_,g5⟩:=hm2;have hlp:(fL kvs p.1 p.2).length<=sizeLine:=by
    have h6:=gQ kvs p.1 p.2;rw [bF] at hz;have h7:(1000:Nat)<=sizeLine:=Dd;omega
   have I2:=mT (t':=tk) (ob:=.dT (fL kvs p.1 p.2)) I1 (by rw [bL];exact True.intro) hs2 ⟨q,hq2⟩ ⟨hlp,hdm,_,(KT.put (show KT (upd H D (.dT kvs)) kvs xs from rel) p.1 ha2 rv).keeps λc ys ec=>(by rw [bU (sW ec bL (λz=>nomatch z))];exact ec),q,es2,ep2,hq2,g2,g3,g4,g5⟩;rw [CT] at I2;refine tY hu hA hD ht nit rest (i+1) (fL kvs p.1 p.2) _ I2 ?_ hit2 (by rw [hys'];exact pr') (by have h6:=gQ kvs p.1 p.2;rw [bF] at hz;omega) k;refine ⟨?_,fp.2⟩;rw [bU nit];have:=fp.1;rw [bU nit] at this;exact this
@[irreducible] def wP:List V->Hp->VK->Prop:=λxs H Q=>∃(t:Addr) (ys:List V) (kvs:List (List dE × V)),xs=[.ref t]/\H t=some (.tup ys)/\Paired (nJ H) ys kvs/\kvs.length<=1000/\∀D,H D=none->Q (.ref D) (upd H D (.dT (BG [] kvs)))
theorem rdca{H:Hp}{Q:VK}{t:Addr}{ys:List V}{kvs:List (List dE × V)}(ht:H t=some (.tup ys))(pr:Paired (nJ H) ys kvs)(hz:kvs.length<=1000)(q:∀D H',H D=none->H' D=some (.dT (BG [] kvs))->aX H H'->Q (.ref D) H'):wP [.ref t] H Q:=by
 unfold wP;exact ⟨t,ys,kvs,rfl,ht,pr,hz,λD hD=>q D _ hD bL (aX.upd hD)⟩
theorem zQ(hu:X.A.units+64<cLine)(hc:X.calm=true):eW X (.type "dict") wP:=by
 unfold wP;intro pins s σ H xs us Q I r h;obtain ⟨t,ys,kvs,rfl,ht,pr,hz,q⟩:=h;obtain ⟨u,rfl,rx⟩:=iG r;cases rx;have hA:=I.ok.hd hc;refine callType_codes (Q₁:=λobj s₁=>obj=.ref s.heap.objs.size/\s₁={ s with heap:=s.heap.push { cls:=.type "dict",data:=.dict #[] } }) F.kt_called_dict (F.kt_typeCall_dict_1 _) F.entry_dict_init (kt_code_dict_new _ ⟨rfl,rfl⟩) ?_;rintro obj s₁ ⟨rfl,rfl⟩;have hD:=I.hok.fresh (aK s.heap.objs.size);have I1:bY X pins σ (upd H s.heap.objs.size (.dT [])) { s with heap:=s.heap.push { cls:=.type "dict",data:=.dict #[] } }:=I.laid (a:=s.heap.objs.size) (o:=.dT []) (t':=s.toks) (λ_ _ q=>aB _ q) (aK _) (pF s.heap I.big);have htD:t≠s.heap.objs.size:=λe=>by subst e;rw [hD] at ht;cases ht
 have ht1:upd H s.heap.objs.size (.dT []) t=some (.tup ys):=by rw [bU htD];exact ht
 obtain ⟨⟨zt,ot,hot,hdt⟩,itt,rt,ot',hot',hct,nt,hdd⟩:=(show dL X.prog X.w (upd H s.heap.objs.size (.dT [])) (s.heap.push { cls:=.type "dict",data:=.dict #[] }) t (.tup ys) from I1.hok t _ ht1);rw [hot] at hot';cases hot';have hnew:(s.heap.push { cls:=.type "dict",data:=.dict #[] }).DictOf (dQ X.prog X.w) s.heap.objs.size []:=Heap.DictOf.new s.heap;refine ⟨hnew.typeIs,F.args_dict_init_2 _ _,?_⟩;unfold Builtin.«dict.__init__»;refine wpAny_bind ?_;unfold Builtin.Dict.selfAndRest;refine wpAny_bind (wpAny_notOrdered_dict hnew.typeIs ?_);show wpAny _ _ (pure (s.heap.objs.size,[Value.ref t])) _ _ _;refine wpAny_pure ?_;show wpAny _ _ (Builtin.Dict.updateFrom "dict.__init__" s.heap.objs.size (.ref t) [] .none) _ _ _;unfold Builtin.Dict.updateFrom;refine wpAny_bind (wpAny_typeOf (T := "tuple") ⟨_,hot,hct⟩ ?_);rw [if_pos Dd];refine wpAny_bind (vB (s:={ s with heap:=s.heap.push { cls:=.type "dict",data:=.dict #[] } }) hot hct hdd hdt hA λh' tk kp=>?_);rw [if_pos (by rfl)];refine wpAny_bind (wpAny_rule ?_);refine wpAny_bind (wpAny_pyIter_tuple (s:={ s with heap:=h',toks:=tk }) (items:=itt.toArray) ⟨ot,kp t ot hot,hct,nt,hdd⟩ ?_);refine wpAny_pure ⟨Code.quiet_builtin _ Kk,?_⟩;have I2:bY X pins σ (upd H s.heap.objs.size (.dT [])) { s with heap:=h',toks:=tk }:=I1.kept (t':=tk) kp;have I3:bY X pins σ (upd H s.heap.objs.size (.dT [])) { s with heap:=h'.push { cls:=.type "tuple_iterator",data:=.fields #[.ref t,.int 0 0] },toks:=tk }:=I2.kept (t':=tk) λb o e=>aB _ e
 have hlt:s.heap.objs.size<h'.objs.size:=by
  obtain ⟨_,_,_,hg,_⟩:=hnew;exact aY (kp _ _ hg)
 have hfr:upd H s.heap.objs.size (.dT []) h'.objs.size=none:=I2.hok.fresh (aK _);refine tY (D:=s.heap.objs.size) (it:=h'.objs.size) (t:=t) (ys:=ys) Oo hA hD ht (Nat.ne_of_gt hlt) kvs 0 [] _ I3 (I2.fpOk (aK _) hfr) ⟨_,bB _ rfl,rfl,rfl⟩ (by simpa using pr) (by simpa using hz) λs' I'=>⟨rfl,.ref _,_,I',rfl,?_⟩;exact q _ hD
end
end L2
namespace L2
open PySem PySem.W PySem.Spec PySem.Calls PyProof.Rows
def nL(ts:List (List Int × PyData)):PyData:=.dict (ts.map λe=>(.tuple (e.1.map .int),e.2))
theorem aL.ints{H:Hp}:∀c:List Int,aL H (c.map PyData.int) (c.map V.int)
 | []=>aL.nil
 | i::c=>aL.cons (bR.int i) (aL.ints c)
theorem qX:∀c:List Int,PyData.hasDictAll (c.map PyData.int)=false
 | []=>rfl
 | i::c=>by show (false || PyData.hasDictAll (c.map PyData.int))=false;rw [qX c];rfl
theorem qW:∀ts:List (List Int × PyData),PyData.hasDictAll ((ts.map λe=>((.tuple (e.1.map .int):PyData),e.2)).map (·.1))=false
 | []=>rfl
 | e::ts=>by
  show (PyData.hasDictAll (e.1.map PyData.int) || PyData.hasDictAll ((ts.map λe=>((.tuple (e.1.map .int):PyData),e.2)).map (·.1)))=false;rw [qX,qW ts];rfl
section
variable{X:Cx}{pins:List (Addr × Obj)}{σ:St}{H:Hp}{s:Shared}
theorem uX(I:bY X pins σ H s):∀{kvs:List (List dE × V)}{xs:List (List dE × Addr × Value)}{ts:List (List Int × PyData)},KT H kvs xs->Paired (λp (e:List Int × PyData)=>p.1=kT e.1/\bR H e.2 p.2) kvs ts ->
  (∃as,ReadsAll s.heap (xs.map λx=>Value.ref x.2.1) ((ts.map λe=>((.tuple (e.1.map .int):PyData),e.2)).map (·.1)) as)/\∃bs,ReadsAll s.heap (xs.map λx=>x.2.2) ((ts.map λe=>((.tuple (e.1.map .int):PyData),e.2)).map (·.2)) bs
 | _,_,_,.nil,.nil=>⟨⟨[],.nil⟩,⟨[],.nil⟩⟩
 | _,_,_,.cons k kt,.cons p pt=>by
  obtain ⟨⟨as,ha⟩,bs,hb⟩:=uX I kt pt;obtain ⟨k1,k2,k3⟩:=k;obtain ⟨p1,p2⟩:=p;rw [p1,nT] at k2;obtain ⟨a1,r1⟩:=(bR.tup k2 (aL.ints _)).reads I (show cW (.ref _) _ from rfl);obtain ⟨b1,r2⟩:=p2.reads I k3;exact ⟨⟨_,.cons r1 ha⟩,⟨_,.cons r2 hb⟩⟩
end
section
variable{X:Cx}
@[irreducible] def pT:List V->Hp->VK->Prop:=λxs H Q=>∃(D:Addr) (kvs:List (List dE × V)) (ts:List (List Int × PyData)),xs=[.ref D]/\H D=some (.dT kvs)/\Paired (λp (e:List Int × PyData)=>p.1=kT e.1/\bR H e.2 p.2) kvs ts /\
 PyData.showable (nL ts)=true/\PyData.hasDictAll (ts.map (·.2))=false/\(nL ts).depth<=60/\(nL ts).shown.length<=sizeLine/\Q (.str (nL ts).shown) H
theorem rrT{H:Hp}{Q:VK}{D:Addr}{kvs:List (List dE × V)}{ts:List (List Int × PyData)}(h:H D=some (.dT kvs))(p:Paired (λp (e:List Int × PyData)=>p.1=kT e.1/\bR H e.2 p.2) kvs ts)(h1:PyData.showable (nL ts)=true)(h2:PyData.hasDictAll (ts.map (·.2))=false)(h3:(nL ts).depth<=60)(h4:(nL ts).shown.length<=sizeLine)(q:Q (.str (nL ts).shown) H):pT [.ref D] H Q:=by
 unfold pT;exact ⟨D,kvs,ts,rfl,h,p,h1,h2,h3,h4,q⟩
theorem LO(hg:X.A.guards=some [])(hu:X.A.units+64<cLine):eW X (.builtin "repr") pT:=by
 unfold pT;intro pins s σ H xs us Q I r h;obtain ⟨D,kvs,ts,rfl,hD,p,hs,hnd,hdp,hz,q⟩:=h;obtain ⟨u,rfl,ru⟩:=iG r;cases (show u=Value.ref D from ru);obtain ⟨_,hsys,xs,rel,o,es,ep,e,hx,hd,he,_,_⟩:=LB I.hok hD;have fin:∀(h':Heap) (u:Tok) (tk:Nat),(∀b o,s.heap.get? b=some o->h'.get? b=some o)->EP X pins σ Q (.str (nL ts).shown u) { s with heap:=h',toks:=tk }:=λh' u tk hk=>⟨.str _,H,I.kept hk,⟨_,rfl⟩,q⟩;obtain ⟨⟨as,ha⟩,bs,hb⟩:=uX I rel p;have ek:es.toList.map (·.key)=xs.map λx=>Value.ref x.2.1:=by rw [he,List.map_map];rfl
 have ev:es.toList.map (·.val)=xs.map λx=>x.2.2:=by rw [he,List.map_map];rfl
 rw [<-ek] at ha;rw [<-ev] at hb;have rd:Reads s.heap (.ref D) (nL ts) _:=.dict e hx.1 hd ha hb;generalize hkv:(ts.map λe=>((.tuple (e.1.map .int):PyData),e.2))=kv at ha hb;have et:nL ts=.dict kv:=by unfold nL;rw [hkv]
 have hz':(dictText (PyData.shownKv kv)).length<=sizeLine:=by rw [et] at hz;simpa only [PyData.shown] using hz
 have hk0:PyData.hasDictAll (kv.map (·.1))=false:=by rw [<-hkv];exact qW ts
 have hv0:PyData.hasDictAll (kv.map (·.2))=false:=by rw [<-hkv,List.map_map];exact hnd
 rw [et] at hs hdp fin rd;obtain ⟨hs1,hs2⟩:=PyData.showableKv_split kv (by simpa [PyData.showable] using hs);obtain ⟨b1,hb1,k1⟩:=ReprAllK.of_readsAll (prog:=X.prog) (w:=X.w) ha hs1 (λz=>by rw [hk0] at z;cases z) (λt ht=>let ⟨p,hp,hl⟩:=PyData.shownKv_key_le kv t ht;bC hl (bC (dictText_mem_le hp) hz'));obtain ⟨b2,hb2,k2⟩:=ReprAllK.of_readsAll (prog:=X.prog) (w:=X.w) hb hs2 (λz=>by rw [hv0] at z;cases z) (λt ht=>let ⟨p,hp,hl⟩:=PyData.shownKv_val_le kv t ht;bC hl (bC (dictText_mem_le hp) hz'));have hbb:ReadAtMost s.heap (PyData.depthKv kv) (b1++b2):=(hb1.mono (PyData.depthAll_keys_le kv)).append (hb2.mono (PyData.depthAll_vals_le kv));have hna:D ∉ b1++b2:=not_mem_of_deeper rd (by simp only [PyData.depth];omega) hbb;refine call_repr_slot (idr := "dict.__repr__") Oo ⟨_,e,hx.1⟩ F.slot_dict_repr ?_;simp only [PyData.depth] at hdp;simp only [PyData.shown,PyData.shownKv_eq] at fin;have hz2:=hz';rw [PyData.shownKv_eq] at hz2;exact call_dict_reprK e hx.1 hd hsys hna (ReprEntriesK.of_two es.toList _ _ (k1.more_le (λb hb=>bO _ hb) (PyData.depthAll_keys_le kv)) (k2.more_le (λb hb=>aG _ hb) (PyData.depthAll_vals_le kv))) hg (λb _=>Clear.nil b) (by show X.A.units+1+(_+1)<cLine;omega) (λ_ _ e=>e) (λh' u tk hk=>⟨_,_,rfl,fin h' u tk hk⟩) hz2
end
end L2
namespace L2
open PySem PySem.Spec PySem.W PyProof.Rows HT
abbrev BU(k:List Int):PyData:=.tuple [.int (k.headD 0),cD k.tail]
theorem ZI{H:Hp}{k:List Int}{v:V}(h:bR H (BU k) v):∃a d,v=.ref a/\H a=some (.tup [.int (k.headD 0),.ref d])/\H d=some (.tup (k.tail.map V.int))/\bR H (cD k.tail) (.ref d):=by
 unfold bR at h;obtain ⟨a,xs,rfl,h1,h2⟩:=h;unfold aL at h2;obtain ⟨x,xs',rfl,h3,h4⟩:=h2;unfold aL at h4;obtain ⟨y,ys',rfl,h5,h6⟩:=h4;unfold aL at h6;cases (show ys'=[] from h6);cases (show x=V.int (k.headD 0) from h3);obtain ⟨d,rfl,hd⟩:=LR h5;exact ⟨a,d,rfl,h1,hd,h5⟩
def zZ(h:Heap)(v:Value)(k:List Int):Prop:=∃b d t its,v=.ref b/\IsTup h b #[.int (k.headD 0) t,.ref d]/\IsTup h d (List.toArray its)/\IntsAre its k.tail/\(∃as,Reads h (.ref d) (cD k.tail) as)/\k≠[]
theorem BT{h:Heap}:∀{vs:List Value}{kz:List (List Int)}{i:Nat},Paired (zZ h) vs kz->i<vs.length->zZ h (vs.getD i Value.none) (kz.getD i [])
 | _,_,_,.nil,hi=>by simp at hi
 | _,_,0,.cons t r,hi=>t
 | v::vs,c::cs,i+1,.cons t r,hi=>by
  have:=BT (i:=i) r (by simpa using hi);simpa using this
theorem vA{h:Heap}:∀{vs:List Value}{kz:List (List Int)},Paired (zZ h) vs kz->∃fs,KatTups h vs fs/\fs.length=vs.length/\∀v∈fs,∃i t,v=Value.int i t
 | _,_,.nil=>⟨[],KatTups.nil,rfl,λv hv=>by cases hv⟩
 | v::vs,k::kz,.cons t r=>by
  obtain ⟨fs,h1,h2,h3⟩:=vA r;obtain ⟨b,d,t,its,rfl,⟨o,ho,hc,n,hd⟩,_⟩:=t;exact ⟨.int (k.headD 0) t::fs,KatTups.cons ho hc hd (by simp) h1,by simp [h2],λv hv=>by
   rcases aR.mp hv with rfl | hv
   ·exact ⟨_,_,rfl⟩
   ·exact h3 v hv⟩
theorem tG:∀a b:List Int,jJ a b=eV a b
 | [],[]=>rfl
 | [],y::b=>(sC y b).symm
 | x::a,[]=>(oX _).symm
 | x::a,y::b=>by rw [nS,iT,tG a b]
section
variable{prog:Program}{w:World}{A:Around}{E:Value->Shared->Prop}{s:Shared}
theorem ZH{x y:Value}{k l:List Int}{Q:Bool->Shared->Prop}(hu:A.units+64<cLine)(hx:zZ s.heap x k)(hy:zZ s.heap y l)(q:Q (eV k l) s):wpAny (model prog w) A (keyLt' (tuples' true) x y) Q E s:=by
 obtain ⟨b,d,t,its,rfl,⟨o,ho,hc,n,hd⟩,td,ti,⟨as,ra⟩,kn⟩:=hx;obtain ⟨b2,d2,t2,its2,rfl,⟨o2,ho2,hc2,n2,hd2⟩,td2,ti2,⟨bs,rb⟩,ln⟩:=hy;refine kat_lt ho hd ho2 hd2 ?_;have ek:k=k.headD 0::k.tail:=by
  cases k with
  | nil=>exact absurd rfl kn
  | cons _ _=>rfl
 have el:l=l.headD 0::l.tail:=by
  cases l with
  | nil=>exact absurd rfl ln
  | cons _ _=>rfl
 rw [ek,el,iT] at q;generalize k.headD 0=m at *;generalize l.headD 0=m2 at *;show KatLex prog w A true _ Q [(.int m t,.int m2 t2),(.ref d,.ref d2)] 0 s;refine kat_cons (wpAny_eqBool_int ?_);by_cases e:m=m2
 ·rw [if_pos e] at q;rw [show (m == m2)=true by simp [e]];refine kat_yes (kat_cons ?_);have eqv:=SeqAt.eqAt_reads (cD k.tail) (cD l.tail) A s _ _ as bs ra rb (oY _) (oY _) (by
   have h1:(cD k.tail).depth<=2:=by
    have:=vL k.tail;simp only [PyData.depth];omega
   omega)
  refine eqv prog w _ _ ?_;rw [PY];by_cases e2:k.tail=l.tail
  ·rw [aM e2];refine kat_yes (kat_nil ?_);rw [e2,jT] at q;simpa using q
  ·rw [bH e2];refine kat_no (kat_one _ _ ?_);refine BR td td2 (by simpa using ti) (by simpa using ti2) Oo ?_;rw [tG];exact q
 ·rw [if_neg e] at q;rw [show (m == m2)=false by simp [e]];refine kat_no ?_;exact oneLt_int q
theorem CY{a kS:Addr}{st:SortSt}{ks out:List Value}{e e1:Nat}{P:PySem.Fin->Shared->Prop}(hout:(arrOf st).map (·.2)=List.toArray out)(hz:out.length<64)(hkz:ks.length<64)(hf:failedOf st=none)
  (hk:s.heap.get? kS=some (seqObj "list" (List.toArray ks) e)) (ha:s.heap.get? a=some (seqObj "list" #[] e1)) (ne:a≠kS)
  (h:P (.done (.ret .none)) { s with heap:=(s.heap.update kS (Obj.mapSeq λ_=>#[])).update a (Obj.mapSeq λ_=>List.toArray out) }):wpAny (model prog w) A (ksk_tail a false e1 (.ref kS) st) P E s:=by
 unfold ksk_tail;dsimp only;rw [hout];refine wpAny_bind (listUpdate_at hk rfl ?_ (by rw [aO,sizeLine_eq];omega) (cB _));refine wpAny_bind (wpAny_letGo ?_);have ha2:(s.heap.update kS (Obj.mapSeq λ_=>(#[]:Array Value))).get? a=some (seqObj "list" #[] e1):=by rw [cL _ _ _ _ ne];exact ha
 refine wpAny_bind (seqEpoch_at ha2 rfl ?_);refine wpAny_bind (listUpdate_at ha2 rfl ?_ (cB _) (by
  simp only [Bool.false_eq_true,if_false];rw [aO,sizeLine_eq];omega))
 rw [hf];simp only [bne_self_eq_false,Bool.false_eq_true,if_false];exact wpAny_pure h
theorem SV{a kS:Addr}{vs ks:List Value}{kz:List (List Int)}{e e1:Nat}{P:PySem.Fin->Shared->Prop}(hl:ks.length=vs.length)(h64:vs.length<64)(hu:A.units+64<cLine)(hp:Paired (zZ s.heap) ks kz)
  (hk:s.heap.get? kS=some (seqObj "list" (List.toArray ks) e)) (ha:s.heap.get? a=some (seqObj "list" #[] e1)) (ne:a≠kS)
  (h:∀p:Array Nat,eC vs.length p->(uD vs.length (pO kz)->pP (pO kz) p vs.length)->P (.done (.ret .none)) { s with heap:=(s.heap.update kS (Obj.mapSeq λ_=>#[])).update a (Obj.mapSeq λ_=>List.toArray (p.toList.map λi=>vs.getD i Value.none)) }) :
  wpAny (model prog w) A (ksk_end a false vs.toArray e1 (.ref kS) (List.toArray ks)) P E s:=by
 unfold ksk_end;dsimp only;by_cases h2:vs.toArray.size<2
 ·simp only [Bool.false_eq_true,if_false,if_pos h2];refine wpAny_bind (wpAny_pure ?_);rw [StateT.run_pure];refine wpAny_bind (wpAny_pure ?_);dsimp only;have ea:=kat_snds (ks:=ks) (vs:=vs) (st:=SortSt.mk' general' ((List.toArray ks).zip vs.toArray) #[] 7 none) (p:=List.toArray (List.range vs.length)) hl (by
   have e:=kas_range ((List.toArray ks).zip vs.toArray);rw [show ((List.toArray ks).zip vs.toArray).size=vs.length by simp [hl]] at e;exact e.symm)
  exact CY ea (by rw [aA,cE];exact h64) Oo rfl hk ha ne (h _ (Array.Perm.refl _) λ_ a b h1 h3=>by rw [aO] at h2;omega)
 ·simp only [Bool.false_eq_true,if_false,if_neg h2];have hl2:2<=vs.length:=by rw [aO] at h2;omega
  obtain ⟨fs,k1,k2,k3⟩:=vA hp;refine wpAny_bind (kat_kind (T:=.type "int") k1 Oo (λv hv=>?_) rfl ?_)
  ·obtain ⟨i,t,rfl⟩:=k3 v hv;exact .now
  refine wpAny_bind (wpAny_mono (kat_run (ks:=ks) (vs:=vs) (G:=λp s'=>s'=s/\eC vs.length p/\(uD vs.length (pO kz)->pP (pO kz) p vs.length))
   (Q:=λst' s'=>s'=s/\failedOf st'=none/\∃p:Array Nat,p.size=vs.length/\(eC vs.length p/\(uD vs.length (pO kz)->pP (pO kz) p vs.length))/\arrOf st'=p.map (kas_item ((List.toArray ks).zip vs.toArray)))
   hl hl2 h64 (λp' st' s' a1 a2 a3 a4=>⟨a4.1,a3,p',a1,a4.2,a2⟩)
   (cN.wp (n:=vs.length) (lt:=pO kz) (R:=λp=>eC vs.length p/\(uD vs.length (pO kz)->pP (pO kz) p vs.length)) (λi j C hi hj hC=>?_) (λp hp=>⟨rfl,hp⟩) (yC hl2))) ?_ λ_ _ e=>e)
  ·unfold kas_ask;exact ZH hu (BT hp Oo) (BT hp Oo) hC
  rintro ⟨⟨⟩,st'⟩ s' ⟨rfl,hf,p,hps,hg,har⟩;dsimp only;exact CY (kat_snds hl har) (by rw [aA,Array.length_toList,hps];exact h64) Oo hf hk ha ne (h p hg.1 hg.2)
end
section
variable{X:Cx}{pins:List (Addr × Obj)}{σ:St}{H:Hp}{s:Shared}
theorem BS(I:bY X pins σ H s):∀{kz:List (List Int)}{ys:List V}{us:List Value},aL H (kz.map BU) ys->(∀k∈kz,k≠[])->cJ ys us->Paired (zZ s.heap) us kz
 | [],ys,us,r,hc,v=>by
  unfold aL at r;cases (show ys=[] from r);cases v;exact .nil
 | c::cs,ys,us,r,hc,v=>by
  rw [aV] at r;unfold aL at r;obtain ⟨y,ys',rfl,r1,r2⟩:=r;obtain ⟨u,us',rfl,rv,v'⟩:=oD v;refine .cons ?_ (BS I r2 (λc h=>hc c (aD _ h)) v');obtain ⟨a,d,rfl,h1,h2,h3⟩:=ZI r1;cases rv;obtain ⟨its,rr,pl,_⟩:=I.tuple (eI.of h1);obtain ⟨u1,us1,rfl,⟨t,rfl⟩,ra⟩:=oD rr;obtain ⟨u2,us2,rfl,ru2,rb⟩:=oD ra;cases rb;cases ru2;obtain ⟨jts,r2,pl2,_⟩:=I.tuple (eI.of h2);exact ⟨a,d,t,jts,rfl,pl,pl2,nU r2,h3.reads I rfl,hc c (aF ..)⟩
def CM(sp:Sp)(H:Hp)(ys:List V)(kz:List (List Int)):Prop:=kz.length=ys.length/\(∀k∈kz,k≠[])/\∀(i:Nat) (y:V) (k:List Int) (H':Hp),ys[i]?=some y->kz[i]?=some k->aX H H'->sp [y] H' (λv H''=>aX H' H''/\bR H'' (BU k) v) E0
theorem yX(k:List Int):fR (BU k)=true:=by
 have:∀c:List Int,fZ (c.map PyData.int)=true:=λc=>by
  induction c with
  | nil=>rfl
  | cons x c ih=>show (fR (.int x)&&fZ (c.map PyData.int))=true;rw [ih];rfl
 show (fR (.int (k.headD 0))&&(fR (cD k.tail)&&true))=true;rw [show fR (cD k.tail)=true from this _];rfl
theorem yW:∀kz:List (List Int),fZ (kz.map BU)=true
 | []=>rfl
 | k::kz=>by show (fR (BU k)&&fZ (kz.map BU))=true;rw [yW kz,yX];rfl
theorem cJ.snoc'{xs:List V}{us:List Value}{x:V}{u:Value}(h:cJ xs us)(r:cW x u):cJ (xs++[x]) (us++[u]):=h.append (.cons r .nil)
end
theorem LX{kz:List (List Int)}{n:Nat}{pm:Array Nat}(hg:eC n pm)(ha:pP (pO kz) pm n):(pm.toList.map λi=>kz.getD i []).Pairwise λa b=>eV a b=true:=by
 have hsz:=hg.size;rw [List.pairwise_map,List.pairwise_iff_getElem];intro i j hi hj hij;have hi':i<pm.size:=by simpa using hi
 have hj':j<pm.size:=by simpa using hj
 have e1:pm.toList[i]=pm.getD i 0:=by rw [Array.getElem_toList];exact (by simp [Array.getD,hi']:pm.getD i 0=pm[i]).symm
 have e2:pm.toList[j]=pm.getD j 0:=by rw [Array.getElem_toList];exact (by simp [Array.getD,hj']:pm.getD j 0=pm[j]).symm
 rw [e1,e2];exact ha i j hij Oo
section
variable{X:Cx}{pins:List (Addr × Obj)}{σ:St}{H:Hp}{s:Shared}
end
end L2
namespace HT
open PySem PySem.W PyProof.Rows
section
variable{A:Around}{s:Shared}
def aBJ(A:Around)(s:Shared)(v u:Value)(r:Bool):Prop:=∀(prog:Program) (w:World) (E:Value->Shared->Prop) (Q:Value->Shared->Prop),Q (.bool r) s->wpAny (model prog w) A (richCompare .GtE v u) Q E s
inductive HS (A:Around) (s:Shared):List Value->List Value->Bool->Prop
 | nil:HS A s [] [] true
 | yes {v u:Value} {vs us:List Value} {r:Bool}:SeqAt.EqAt A s v u true->HS A s vs us r->HS A s (v::vs) (u::us) r
 | no {v u:Value} {vs us:List Value} {r:Bool}:SeqAt.EqAt A s v u false->aBJ A s v u r->vs.length=us.length->HS A s (v::vs) (u::us) r
theorem HS.len{vs us:List Value}{r:Bool}(h:HS A s vs us r):vs.length=us.length:=by
 induction h with
 | nil=>rfl
 | yes _ _ ih=>rw [bF,bF,ih]
 | no _ _ e=>rw [bF,bF,e]
end
section
open PySem.SeqAt
open PySem.AutoSeq1 (wpAny_loadPart')
open PySem.MeetsSeq PySem.MeetsSeq2 PySem.MeetsSeq3
theorem xV(l b:Addr)(items items2:Array Value)(n n2:Nat)(dd dd2:Option Addr)(sl sl2:Array (Option Value))(r:Bool) :
  Meets (Builtin.«tuple.__ge__» ⟨[.ref l,.ref b],[]⟩)
   (λA R s=>s.heap.get? l=some { cls:=.type "tuple",dict:=dd,data:=.seq items n,slots:=sl }/\s.heap.get? b=some { cls:=.type "tuple",dict:=dd2,data:=.seq items2 n2,slots:=sl2 } /\
    HS A.in1 s items.toList items2.toList r/\R (.ok (.ret (.bool r))) s) :=
 .of_wp λprog w A R s h=>by
  obtain ⟨hp,g,d,tk,os⟩:=s;obtain ⟨hl,hb,hge,h⟩:=h;have f2:=AutoSeq1.sub_tuple_tuple;have z0:=hge.len;have z:items.size=items2.size:=by simpa using z0
  wp_walk using wpAny_loadPart' hl,wpAny_loadPart' hb,wpAny_forIn_list _ (λrest b s'=>b.1=none/\s'=⟨hp,g,d,tk,os⟩/\∃(vs ws:List Value),rest=vs.zip ws/\HS A.in1 ⟨hp,g,d,tk,os⟩ vs ws r) _
  case turn =>
   rintro ⟨y,x⟩ rest b s' ⟨hb',rfl,vs,ws,hz,hg⟩;cases hg with
   | nil=>rw [List.zip_nil_left] at hz;cases hz
   | yes he hg' =>
    rw [List.zip_cons_cons] at hz;injection hz with hyx hrest;injection hyx with hy hx;subst hy hx;refine wpAny_bind (he prog w _ _ ?_)
    wp_walk
    exact ⟨rfl,rfl,_,_,hrest,hg'⟩
   | no he hr hlen =>
    rw [List.zip_cons_cons] at hz;injection hz with hyx hrest;injection hyx with hy hx;subst hy hx;refine wpAny_bind (he prog w _ _ ?_);have hri:=hr prog w
    wp_walk using hri
    exact ⟨_,rfl,by simpa using h⟩
  case fin =>
   rintro ⟨b1,b2⟩ s' ⟨hb',rfl,vs,ws,hz,hg⟩;simp only at hb';subst hb';have hv:r=true:=by
    cases hg with
    | nil=>rfl
    | yes _ _=>rw [List.zip_cons_cons] at hz;cases hz
    | no _ _ _=>rw [List.zip_cons_cons] at hz;cases hz
   subst hv
   wp_walk
   exact ⟨_,rfl,by simpa [Builtin.Tuple.tupleCompareSizes,z] using h⟩
  case h =>
   exact ⟨rfl,rfl,items.toList,items2.toList,rfl,hge⟩
end
section
variable{prog:Program}{w:World}{A:Around}{E:Value->Shared->Prop}{s:Shared}
theorem KS{l b:Addr}{items items2:Array Value}{r:Bool}{Q:Value->Shared->Prop}(hl:IsTup s.heap l items)(hb:IsTup s.heap b items2)(hu:A.units<cLine)(hg:∀A',A'.units<=A.units+2->HS A' s items.toList items2.toList r)(h:Q (.bool r) s):wpAny (model prog w) A (compareOp .GtE (.ref l) (.ref b)) Q E s:=by
 obtain ⟨⟨cls,dd,data,sl⟩,ho,hc,n,hd⟩:=id hl;obtain ⟨⟨cls2,dd2,data2,sl2⟩,ho2,hc2,n2,hd2⟩:=id hb;simp only at hc hd hc2 hd2;subst hc hd hc2 hd2;exact richCompare_meets_room (op:=.GtE) ⟨_,ho,rfl⟩ ⟨_,ho2,rfl⟩ PySem.F.slot_tuple_ge PySem.F.entry_tuple_ge (PySem.F.args_tuple_ge_2 _ _) (xV l b items items2 n n2 dd dd2 sl sl2 r)
  ⟨ho,ho2,hg _ (by show A.units+1<=A.units+2;omega),show Value.bool r≠Value.notImplemented/\Q (.bool r) s from ⟨(λx=>nomatch x),h⟩⟩ hu
theorem HS.ints:∀{vs us:List Value}{ns ms:List Int},IntsAre vs ns->IntsAre us ms->ns.length=ms.length->HS A s vs us (!jJ ns ms)
 | _,_,_,_,.nil,.nil,_=>.nil
 | _,_,_,_,.nil,.cons _ _ _,h=>by simp at h
 | _,_,_,_,.cons _ _ _,.nil,h=>by simp at h
 | _,_,_,_,.cons a t hv,.cons c u hw,h=>by
  have hl:=hv.length;have hl2:=hw.length;have h':=h;simp only [bF] at h';obtain ⟨e,he,hiff⟩:=tQ A s a t c u;rw [nS];cases e with
  | true =>
   rw [if_pos (hiff.mp rfl)];exact .yes he (HS.ints hv hw Oo)
  | false =>
   rw [if_neg (λq=>absurd (hiff.mpr q) bQ)];refine .no he (λprog w E Q q=>?_) Oo;refine (PyProof.Rows.ge_int ?_:wpAny (model prog w) A (compareOp .GtE (.int a t) (.int c u)) Q E s);rw [show decide (c<=a)=!decide (a<c) by rw [<-decide_not];exact decide_eq_decide.mpr Oo];exact q
end
end HT
namespace L2
open PySem PySem.Spec PySem.W PyProof.Rows HT
section
variable{X:Cx}
@[irreducible] def NU:R2:=λx y H Q=>∃k l:List Int,bR H (BU k) x/\bR H (BU l) y/\k≠[]/\l≠[]/\k.length=l.length/\Q (.bl (!eV k l)) H
theorem rgek{H:Hp}{Q:VK}{x y:V}{k l:List Int}(h1:bR H (BU k) x)(h2:bR H (BU l) y)(h3:k≠[])(h4:l≠[])(h5:k.length=l.length)(q:Q (.bl (!eV k l)) H):NU x y H Q:=by unfold NU;exact ⟨k,l,h1,h2,h3,h4,h5,q⟩
theorem UZ(hu:X.A.units+64<cLine):lN X (compareOp .GtE) NU:=by
 unfold NU;intro pins s σ H x y v u Q I rx ry h;obtain ⟨k,l,h1,h2,hk,hl,hkl,q⟩:=h;have kx:Paired (zZ s.heap) [v,u] [k,l]:=BS I (aL.cons h1 (aL.cons h2 aL.nil)) (λz hz=>by
  rcases aR.mp hz with rfl | hz
  ·exact hk
  ·cases aP.mp hz;exact hl) (.cons rx (.cons ry .nil))
 cases kx with
 | cons hx kx =>
  cases kx with
  | cons hy _ =>
   obtain ⟨b,d,t,its,rfl,tb,td,ti,⟨as,ra⟩,kn⟩:=hx;obtain ⟨b2,d2,t2,its2,rfl,tb2,td2,ti2,⟨bs,rb⟩,ln⟩:=hy;have ek:k=k.headD 0::k.tail:=by
    cases k with
    | nil=>exact absurd rfl kn
    | cons _ _=>rfl
   have el:l=l.headD 0::l.tail:=by
    cases l with
    | nil=>exact absurd rfl ln
    | cons _ _=>rfl
   have htl:k.tail.length=l.tail.length:=by rw [List.length_tail,List.length_tail,hkl]
   refine KS tb tb2 Oo (λA' hA'=>?_) ⟨.bl (!eV k l),H,I,rfl,q⟩;rw [ek,el,iT];generalize k.headD 0=m at *;generalize l.headD 0=m2 at *;obtain ⟨e,he,hiff⟩:=tQ A' s m t m2 t2;cases e with
   | true =>
    rw [if_pos (hiff.mp rfl)];refine .yes he ?_;have eqv:=SeqAt.eqAt_reads (cD k.tail) (cD l.tail) A' s _ _ as bs ra rb (oY _) (oY _) (by
     have h1:(cD k.tail).depth<=2:=by
      have:=vL k.tail;simp only [PyData.depth];omega
     omega)
    rw [PY] at eqv;by_cases e2:k.tail=l.tail
    ·rw [aM e2] at eqv;rw [e2,jT];exact .yes eqv .nil
    ·rw [bH e2] at eqv;refine .no eqv (λprog w E Q q=>?_) rfl;show wpAny (model prog w) A' (compareOp .GtE (.ref d) (.ref d2)) Q E s;refine KS (r:=!jJ k.tail l.tail) td td2 Oo (λA2 hA2=>?_) ?_
     ·exact HS.ints (by simpa using ti) (by simpa using ti2) htl
     ·rw [tG];exact q
   | false =>
    rw [if_neg (λq=>absurd (hiff.mpr q) bQ)];refine .no he (λprog w E Q q=>?_) rfl;refine (PyProof.Rows.ge_int ?_:wpAny (model prog w) A' (compareOp .GtE (.int m t) (.int m2 t2)) Q E s);rw [show decide (m2<=m)=!decide (m<m2) by rw [<-decide_not];exact decide_eq_decide.mpr Oo];exact q
end
def qL(c:Addr)(q:Str):HO:=.ext λh=>h.CodeRec (.ref c) q
theorem HE{P:Program}{w:World}{H:Hp}{h:Heap}{c:Addr}{q:Str}(hr:h.CodeRec (.ref c) q):dL P w H h c (qL c q):=by
 obtain ⟨c₂,oc,vs,t,e2,hoc,hd,hv⟩:=id hr;cases e2;refine ⟨hr,⟨oc,hoc⟩,λh1 h2 ⟨c3,o3,v3,t3,e3,ho3,hd3,hv3⟩ k=>?_⟩;cases e3;exact ⟨c,o3,v3,t3,rfl,k _ ho3,hd3,hv3⟩
structure eQ(H:Hp)(P:Addr)(q:Str)(pos:Pos):Prop where
 ex:H P=some (.tbl #[])\/∃c',H P=some (.tbl #[rawInt pos.line,rawInt pos.col,.ref c'])/\H c'=some (qL c' q)
def GT(K:Frag)(c P:Addr):Bool:=match K.lookup c with
 | some ⟨.type t,_,.fields vs,_⟩=>(match (vs[11]?:Option Value),vs.getD 11 .none,vs.getD 18 .none,vs.getD 7 .none,vs.getD 9 .none,vs.getD 10 .none with
   | some (.ref p),.ref p',.str _ _,.int _ _,.bool _,.int _ _=>t == "code" && p == P&&p' == P && !(c == P)
   | _,_,_,_,_,_=>false)
 | _=>false
theorem ZM{K:Frag}{h:Heap}{c P:Addr}(X:K.In h)(e:GT K c P=true):CodeHd h c P:=by
 unfold GT at e;split at e
 ·rename_i t od vs sl ho
  split at e
  ·rename_i p p' f1 f2 i1 i2 b1 j1 j2 q1 q2 q3 q4 q5 q6
   simp only [aQ,Bool.not_eq_true',beq_iff_eq,beq_eq_false_iff_ne] at e;obtain ⟨⟨⟨e1,e2⟩,e3⟩,e4⟩:=e;subst e1 e2 e3;exact ⟨_,vs,_,_,_,_,_,_,_,X _ _ ho,rfl,rfl,q1,q2,q3,q4,q5,q6,e4⟩
  ·cases e
 ·cases e
def BM(mg:Str->Option Value)(h:Heap):Prop:=∃bm ob,mg "__builtins__" = some (.ref bm)/\bm≠builtinsNs/\h.get? bm=some ob/\ob.cls=.type "module" /\ ob.dict=some builtinsNs/\ob.data=.plain
section
variable{X:Cx}{pins:List (Addr × Obj)}{σ:St}{H:Hp}{s:Shared}
theorem VF{P c:Addr}{params:Arguments}{body:Expr}{scope:Scope}{pos:Pos}{Q':Value->Shared->Prop}(I:bY X pins σ H s)(hcode:X.env.code=.ref c)(hh:GT X.K c P=true)(hbm:BM X.mg X.base)(hcl:closureFor scope X.env=pure [])
  (hdef:defaultsOf params X.env=([],[])) (TO:eQ H P (X.env.qual ++ "<lambda>") pos)
  (h:∀(f c':Addr) (pm ctv:Value) (H':Hp) (s':Shared),eQ H' P (X.env.qual ++ "<lambda>") pos->H' c'=some (qL c' (X.env.qual ++ "<lambda>"))->aT P H H'->s'.heap.objs.size=f+1 ->
   bY X ((f,kla_obj "<lambda>" (X.env.qual ++ "<lambda>") params body scope [] pm c' ctv)::pins) σ H' s'->Q' (.ref f) s') :
  wpAny (model X.prog X.w) X.A (eval (.Lambda params body scope pos) X.env) Q' X.xe s:=by
 refine kla_eval hdef ?_;have hg:=I.mod.glob.keeps I.bk;have C:=ZM I.kIn hh;obtain ⟨bm,ob,b1,b2,b3,b4,b5,b6⟩:=hbm;have nP:∀b o,X.base.get? b=some o->∀u,H P=some u->b≠P:=λb o e u hu z=>by
  have:=(I.bs b o e).2;rw [z,hu] at this;cases this
 obtain ⟨og,eg⟩:∃o,X.base.get? mainGlobals=some o:=let ⟨o,_,_,e,_⟩:=I.mod.glob;⟨o,e⟩;have hbG:bm≠mainGlobals:=λq=>by
  obtain ⟨o,es,ep,e,hd,_⟩:=I.mod.glob;rw [q,e] at b3;cases b3;rw [hd] at b6;cases b6
 rcases TO.ex with hP | ⟨c',hP,hc'⟩
 ·have hPt:s.heap.get? P=some (tabObj #[]):=I.hok P _ hP;refine kla_makeFunction (mg:=X.mg) hcl I.ok.glob hg hcode C hPt trivial rfl (nP _ _ eg _ hP) ⟨bm,ob,b1,b2,hbG,nP _ _ b3 _ hP,I.bk _ _ b3,b4,b5,b6⟩ λc' ctv h' tk hx hge hlt hrec htb=>?_;generalize hq:X.env.qual++Str.ofString "<lambda>" = q at *;have hf:H c'=none:=I.hok.fresh hge;have Pc:P≠c':=λz=>by rw [z,hf] at hP;cases hP
  have kp:∀(x:Obj) b o,b≠P->s.heap.get? b=some o->(h'.push x).get? b=some o:=λx b o n e=>aB _ (hx b o n e);have szh:s.heap.objs.size<=h'.objs.size:=bC hge (Nat.le_of_lt hlt);have nc:∀b u,H b=some u->b≠c':=λb u e z=>by rw [z,hf] at e;cases e
  have I1:bY X pins σ (upd (upd H P (.tbl #[rawInt pos.line,rawInt pos.col,.ref c'])) c' (qL c' q)) { s with heap:=h'.push (kla_obj "<lambda>" q params body scope [] ((X.mg "__name__").getD .none) c' ctv),toks:=tk }:=by
   refine I.un ⟨λb o e n _ _=>kp _ b o (λz=>by rw [z,hP] at n;cases n) e,λb o e n _ _=>⟨o.slots,kp _ b o (λz=>by rw [z,hP] at n;cases n) e⟩,λb o e n _=>?_,λb o e _=>?_,λb xs e=>?_,λb o u e=>?_,λb ps e=>?_⟩ λb u e=>?_
   ·rw [bU (bT (aZ (aY e) hge)),bU (λz=>by rw [z,hP] at n;cases n)];exact n
   ·by_cases z:b=P
    ·exact ⟨_,by rw [z];exact aB _ htb⟩
    ·exact ⟨o,kp _ b o z e⟩
   ·rw [bU (nc b _ e),bU (λz=>by rw [z,hP] at e;cases e)];exact e
   ·rw [bU (nc b _ e),bU (λz=>by rw [z,hP] at e;cases e)];exact e
   ·by_cases z:b=P
    ·subst z;rw [hP] at e;cases e;exact ⟨#[rawInt pos.line,rawInt pos.col,.ref c'],by rw [bU Pc,bL];rfl⟩
    ·exact ⟨#[],by rw [bU (nc b _ e),bU z,e];simp⟩
   ·by_cases z:b=c'
    ·subst z;rw [bL] at e;cases e;exact HE (hrec.keeps λb o e=>aB _ e)
    ·rw [bU z] at e;by_cases z2:b=P
     ·subst z2;rw [bL] at e;cases e;exact aB _ htb
     ·rw [bU z2] at e;refine (I.hok b u e).stay (λd v hd' r=>kp _ d v ?_ r) (λd r=>?_) λd xs r=>?_
      ·rcases hd' with rfl | hd'
       ·exact z2
       ·intro z3;rw [z3,hP] at hd';cases hd'
      ·rw [bU (nc d _ r),bU (λz=>by rw [z,hP] at r;cases r)];exact r
      ·rw [bU (nc d _ r),bU (λz=>by rw [z,hP] at r;cases r)];exact r
  refine h h'.objs.size c' ((X.mg "__name__").getD .none) ctv _ _ ⟨.inr ⟨c',by rw [bU Pc,bL],bL⟩⟩ bL (λb o e=>?_) (Heap.size_push ..) (I1.pins_of λp hp=>?_)
  ·have n:=eN.ne e;rw [eN.at n] at e;refine eN.of n ?_;rw [bU (nc b _ e),bU n];exact e
  ·rcases aR.mp hp with rfl | hp
   ·exact ⟨bB _ rfl,by
     rw [bU (Nat.ne_of_gt hlt),bU (Nat.ne_of_gt (aZ (I.hok.lt hP) szh))];exact I.hok.fresh szh,Nat.ne_of_gt (aZ I.lt szh),I.nofs szh,λv z=>by cases z⟩
   ·exact I1.pin p (aG _ hp)
 ·have hPt:s.heap.get? P=some (tabObj #[rawInt pos.line,rawInt pos.col,.ref c']):=I.hok P _ hP;refine kla_makeFunctionHit (mg:=X.mg) (cv:=.ref c') hcl I.ok.glob hg hcode C hPt trivial (codeAmong_snoc [] trivial rfl) ⟨bm,ob,b1,b2,hbG,nP _ _ b3 _ hP,I.bk _ _ b3,b4,b5,b6⟩ λctv h' tk hx szh=>?_;generalize hq:X.env.qual++Str.ofString "<lambda>" = q at *;have I1:bY X pins σ H { s with heap:=h'.push (kla_obj "<lambda>" q params body scope [] ((X.mg "__name__").getD .none) c' ctv),toks:=tk }:=I.kept λb o e=>aB _ (hx b o e);refine h h'.objs.size c' ((X.mg "__name__").getD .none) ctv H _ TO hc' (λb o e=>e) (Heap.size_push ..) (I1.pins_of λp hp=>?_);rcases aR.mp hp with rfl | hp
  ·exact ⟨bB _ rfl,I.hok.fresh szh,Nat.ne_of_gt (aZ I.lt szh),I.nofs szh,λv z=>by cases z⟩
  ·exact I1.pin p (aG _ hp)
end
def GP(base h:Heap)(f:Addr):Heap:=tL h λb=>if base.get? b=none/\b≠f then some (.own 0) else none
theorem KM{base h:Heap}{f:Addr}(k:∀b o,base.get? b=some o->h.get? b=some o){b:Addr}{o:Obj}(e:base.get? b=some o):(GP base h f).get? b=some o :=
 tK (k b o e) (if_neg λz=>by rw [e] at z;cases z.1)
theorem GO{base h:Heap}{f:Addr}{o:Obj}(e:h.get? f=some o):(GP base h f).get? f=some o:=tK e (if_neg λz=>z.2 rfl)
theorem PL{base h:Heap}{f:Addr}(k:∀b o,base.get? b=some o->h.get? b=some o){b:Addr}{o:Obj}(e:(GP base h f).get? b=some o):base.get? b=some o\/b=f:=by
 obtain ⟨e1,n⟩:=DQ e;by_cases z:b=f
 ·exact .inr z
 ·cases q:base.get? b with
  | none =>
   rw [if_pos ⟨q,z⟩] at n;cases n
  | some o' =>
   rw [k b o' q] at e1;cases e1;exact .inl rfl
theorem IA.more{K:Frag}{mg:Str->Option Value}{b b':Heap}(m:IA K mg b)(k:∀c o,b.get? c=some o->b'.get? c=some o):IA K mg b' :=
 ⟨m.kin.keeps k,m.glob.keeps k,let ⟨mb,h1,h2⟩:=m.blt;⟨mb,h1.keeps k,h2⟩,m.nolimit.keeps k⟩
theorem rF{h base B:Heap}:∀{l:List Env},h.FunFrames base l->(∀b∈frs l,B.get? b=none)->h.FunFrames B l
 | [],_,_=>trivial
 | env::rest,⟨hk,⟨L,o,hf,hn,ho,hd⟩,hr⟩,k=>⟨hk,⟨L,o,hf,k L (by unfold frs;rw [List.filterMap_cons,hf];exact aF ..),ho,hd⟩,rF hr λb hb=>k b (by unfold frs;rw [List.filterMap_cons,hf];exact aD _ hb)⟩
section
variable{X:Cx}{pins:List (Addr × Obj)}{σ:St}{H:Hp}{s:Shared}
theorem bY.envB(I:bY X pins σ H s){B:Heap}{f:Addr}{of:Obj}(hp:(f,of)∈pins)(hm:IA X.K X.mg B)(hB:∀b o,B.get? b=some o->X.base.get? b=some o\/b=f)(hf:B.get? f=some of)(hz:B.objs.size<=s.heap.objs.size):AA X.prog X.w X.K X.mg B X.A X.stack s H:=by
 have e:=I.env0;obtain ⟨p1,p2,p3,p4,_⟩:=I.pin (f,of) (aG _ hp);refine ⟨e.frames,hm,λb o q=>?_,hz,rF e.funs λb hb=>?_,e.frf,e.hok,e.bare⟩
 ·rcases hB b o q with z | rfl
  ·exact I.bs b o z
  ·rw [hf] at q;cases q;exact ⟨p1,p2⟩
 ·cases q:B.get? b with
  | none=>rfl
  | some o =>
   exfalso;rcases hB b o q with z | rfl
   ·have:=(e.funs.mem hb).1;rw [z] at this;cases this
   ·rcases aR.mp (I.stkSub b hb) with z | z
    ·exact p3 z
    ·exact p4 z
end
theorem VP{P:Program}{w:World}{K:Frag}{mg:Str->Option Value}{B:Heap}{k:Nat}{f c':Addr}{qual:Str}{params:Arguments}{body:Expr}{scope:Scope}{pm ctv:Value}{N ps:List Str}{sp:Sp}
  (hfb:B.get? f=some (kla_obj "<lambda>" qual params body scope [] pm c' ctv)) (S:bZ N ps scope) (len:∀vs H Q E,sp vs H Q E->vs.length=ps.length) (hc:∀vs H Q E,sp vs H Q E->H c'=some (qL c' qual))
  (hbody:∀(A:Around) (outer:List Env) (s:Shared) (H:Hp) (vs:List V) (Q:VK) (E:XK),gA k (A.deeper (envOfC qual scope s.heap.objs.size f (.ref c')))->sp vs H Q E ->
   ∃t:TE,fI (rN dM P w K mg B N qual scope f (.ref c') A outer s H E).nox body t/\t (start N vs) H Q) :
  dP P w K mg B dM (k+1) f (kla_fn "<lambda>" qual params body scope [] pm (.ref c') ctv) ps sp:=by
 refine ⟨len,λA outer s H args us vs Q E hr e0 hb r hsp=>?_⟩;have hl:=len _ _ _ _ hsp;have lim:s.heap.NoLimit:=e0.mod.nolimit.keeps λb o e=>(e0.bs b o e).1;have hcd:s.heap.CodeRec (.ref c') qual:=(e0.hok c' _ (hc _ _ _ _ hsp)).1;have hkind:∀y∈ps.zip us,scope.names.lookup y.1=some .local\/(scope.names.lookup y.1=some .cell/\((cellsFrom (s.heap.objs.size+1) scope.names []).lookup y.1).isSome=true):=λ⟨n,v⟩ hy=>by
  rcases S.par n (List.of_mem_zip hy).1 with q | q
  ·exact .inl q
  ·exact .inr ⟨q,PySem.W.cellsFrom_some _ _ _ (.inl q)⟩
 refine kla_callFunE hr.depth (e0.bs _ _ hfb).1 rfl S.co S.gen rfl hcd (hb _ _ _ _ ?_);refine wpAny_newFunctionEnv_cells S.kind hkind λenv he s1 x=>?_;subst he;refine ⟨lim.keeps x.toInCall.keep,kla_codeExpr ?_⟩;obtain ⟨t,ht,hq⟩:=hbody A outer s H vs Q E (hr.deeper _) hsp;have I:bY (rN dM P w K mg B N qual scope f (.ref c') A outer s H E) [] (start N vs) H s1:=vF S hr.hd e0 hl r x;refine wpAny_mono (ht.p.nox [] s1 (start N vs) H _ I hq) (λu s' hs=>?_) λe s' hs=>hs;obtain ⟨v,H',J,rv,q⟩:=hs;exact ⟨v,H',J.os,J.bare,J.base,J.hok,rv,q⟩
section
variable{X:Cx}{pins:List (Addr × Obj)}{σ:St}{H:Hp}{s:Shared}
theorem IY{k:Nat}{f:Addr}{fd:FuncData}{ps:List Str}{sp:Sp}{B:Heap}{of:Obj}(hpf:(f,of)∈pins)(hm:IA X.K X.mg B)(hB:∀b o,B.get? b=some o->X.base.get? b=some o\/b=f)(hfB:B.get? f=some of)(hz':B.objs.size<=f+1)(F:dP X.prog X.w X.K X.mg B dM k f fd ps sp)(hb:nK X.K fd ps [])(hr:gA (k+2) X.A){a kS:Addr}{ys:List V}{vs:List Value}{kz:List (List Int)}{e1:Nat}
  {P:PySem.Fin->Shared->Prop} {E:Value->Shared->Prop} (I:bY X ((kS,seqObj "list" #[] 0)::(a,seqObj "list" #[] e1)::pins) σ H s) (nk:X.s₀.heap.objs.size<=kS) (np:∀p∈X.pn++((a,seqObj "list" #[] e1)::pins),p.1≠kS)
  (rv:cJ ys vs) (h64:vs.length<64) (kb:CM sp H ys kz)
  (h:∀(p:Array Nat) (ks:List Value) (e:Nat) (H':Hp) (s':Shared),aX H H'->bY X ((kS,seqObj "list" (List.toArray ks) e)::(a,seqObj "list" #[] e1)::pins) σ H' s'->eC vs.length p->(uD vs.length (pO kz)->pP (pO kz) p vs.length) ->
   P (.done (.ret .none)) { s' with heap:=(s'.heap.update kS (Obj.mapSeq λ_=>#[])).update a (Obj.mapSeq λ_=>List.toArray (p.toList.map λi=>vs.getD i Value.none)) }) :
  wpAny (model X.prog X.w) X.A.in1.in1 (ksk_rest a (.ref f) false vs.toArray e1 (.ref kS)) P E s:=by
 obtain ⟨kl,kn,kc⟩:=kb;have lv:=rv.length;have ne:a≠kS:=np (a,seqObj "list" #[] e1) (aG _ (aF ..));unfold ksk_rest;refine wpAny_bind (wpAny_rule ?_);rw [List.forIn_toArray];refine wpAny_bind (ksk_fold (λi s'=>∃(H':Hp) (ks:List Value) (kv:List V) (e:Nat),bY X ((kS,seqObj "list" (List.toArray ks) e)::(a,seqObj "list" #[] e1)::pins) σ H' s'/\aX H H'/\cJ kv ks/\aL H' ((kz.take i).map BU) kv) vs 0 s
  ⟨H,[],[],0,I,aX.refl _,.nil,aL.nil⟩ (λj x s' hx hI=>?_) λs' hI=>?_)
 ·obtain ⟨H',ks,kv,e,I',sH,rk,rr⟩:=hI;rw [Nat.zero_add] at rr ⊢;have hj:j<vs.length:=(bN.mp hx).1;obtain ⟨y,hy,ry⟩:∃y,ys[j]?=some y/\cW y x:=by
   obtain ⟨u,hu,ru⟩:=rv.get (i:=j) (x:=ys[j]'Oo) (by simp [show j<ys.length by omega]);rw [hx] at hu;cases hu;exact ⟨_,aN Oo,ru⟩
  obtain ⟨kk,hkk⟩:∃kk,kz[j]?=some kk:=⟨_,aN Oo⟩;have lk:ks.length=min j kz.length:=by rw [<-rk.length,rr.len,aA,bA]
  have spec:=kc j y kk H' hy hkk sH;have hl:([x]++([]:List Value)).length=ps.length:=by rw [<-F.len _ _ _ _ spec];rfl
  have run:=F.run X.A.in1.in1 X.stack s' H' ⟨[x],[]⟩ [x] [y] _ E0 hr.in1.in1 (I'.envB (aD _ (aD _ hpf)) hm hB hfB (bC hz' (aY (I'.pin (f,of) (aG _ (aD _ (aD _ hpf)))).1))).in1.in1 (hb s' [x] I'.kIn hl) (.cons ry .nil) spec;refine wpAny_bind (wpAny_attempt (wpAny_call (codeAny_mono run λr s2 hq=>?_)));cases r with
  | error e=>exact False.elim hq
  | ok fl =>
   cases fl with
   | next=>exact False.elim hq
   | brk=>exact False.elim hq
   | cont=>exact False.elim hq
   | ret u =>
    obtain ⟨v,H2,I2,rvu,s2',rkey⟩:=I'.after hq;dsimp only;have pk:=I2.pin (kS,seqObj "list" (List.toArray ks) e) (aG _ (aF ..));have ea:(List.toArray ks).push u=List.toArray (ks++[u]):=by simp
    obtain ⟨c2,hc2⟩:∃c2,(s2.heap.update kS (Obj.mapSeq (·.push u))).get? kS=some (seqObj "list" (List.toArray (ks++[u])) c2):=⟨_,by rw [<-ea];exact get?_update_seq pk.1 (·.push u)⟩;refine wpAny_bind (listUpdate_at pk.1 rfl ?_ (by rw [aO,sizeLine_eq];omega) (bC (Nat.le_of_eq (Array.size_push ..)) (by rw [aO,sizeLine_eq];omega)));have I3:bY X ((a,seqObj "list" #[] e1)::pins) σ H2 s2:=I2.pins_of λp hp=>I2.pin p (aG _ (aD _ hp));have I4:=I3.turned (it:=kS) (h':=s2.heap.update kS (Obj.mapSeq (·.push u))) (t':=s2.toks) (λb o nb hb=>by rw [cL _ _ _ _ nb];exact hb) pk.2.1 pk.2.2.1 (.inr nk) (λx c hc z=>by
     obtain ⟨v,o,ho,hd⟩:=I3.cell x c hc;rw [z,pk.1] at ho;cases ho;exact pk.2.2.2.2 v hd) np
    refine wpAny_pure ⟨rfl,H2,ks++[u],kv++[v],c2,?_,sH.trans s2',rk.snoc' rvu,?_⟩
    ·refine I4.pins_of λp hp=>?_;rcases aR.mp hp with rfl | hp
     ·exact ⟨hc2,pk.2.1,pk.2.2.1,pk.2.2.2.1,λv=>by intro z;cases z⟩
     ·exact I4.pin p (aG _ hp)
    ·rw [fN,hkk,bM];exact aL.snoc (rr.flat s2'.t (yW _)) rkey
 ·obtain ⟨H',ks,kv,e,I',sH,rk,rr⟩:=hI;rw [Nat.zero_add,List.take_of_length_le Oo] at rr;have pk:=I'.pin (kS,seqObj "list" (List.toArray ks) e) (aG _ (aF ..));have pa:=I'.pin (a,seqObj "list" #[] e1) (aG _ (aD _ (aF ..)));refine wpAny_bind (listItems_at pk.1 rfl ?_);have lk:ks.length=vs.length:=by rw [<-rk.length,rr.len,aA];omega
  refine SV (kz:=kz) lk h64 hr.in1.in1.units (BS I' rr kn rk) pk.1 pa.1 ne λp g1 g2=>?_;exact h p ks e H' s' sH I' g1 g2
end
section
variable{X:Cx}{pins:List (Addr × Obj)}{σ:St}{H:Hp}{s:Shared}
end
def spL(N:List Str)(c':Addr)(q:Str)(te:TE):Sp:=λvs H Q _=>vs.length=1/\H c'=some (qL c' q)/\te (start N vs) H Q
theorem eQ.same{H H':Hp}{P:Addr}{q:Str}{pos:Pos}(t:eQ H P q pos)(s:aX H H'):eQ H' P q pos:=⟨t.ex.elim (λh=>.inl (s _ _ h)) λ⟨c',h1,h2⟩=>.inr ⟨c',s _ _ h1,s _ _ h2⟩⟩
theorem eQ.at_{H:Hp}{P:Addr}{q:Str}{pos:Pos}(t:eQ H P q pos):∃ps,H P=some (.tbl ps):=t.ex.elim (λh=>⟨_,h⟩) λ⟨c',h1,_⟩=>⟨_,h1⟩
theorem aT.same{P:Addr}{H H1 H2:Hp}(b:aT P H H1)(s:aX H1 H2):aT P H H2:=λc o e=>by
 have n:=eN.ne e;rw [eN.at n] at e;exact eN.of n (s _ _ (b.at n e))
section
variable{X:Cx}
end
section
variable{X:Cx}{pins:List (Addr × Obj)}{σ:St}{H:Hp}{s:Shared}
theorem AY{k:Nat}{f:Addr}{fd:FuncData}{ps:List Str}{sp:Sp}{B:Heap}{of:Obj}(hpf:(f,of)∈pins)(hm:IA X.K X.mg B)(hB:∀b o,B.get? b=some o->X.base.get? b=some o\/b=f)(hfB:B.get? f=some of)(hz':B.objs.size<=f+1)(F:dP X.prog X.w X.K X.mg B dM k f fd ps sp)(hb:nK X.K fd ps [])(hr:gA (k+2) X.A){u:Value}{Q:VK}
  (hcol:∀Qc:List Value->Shared->Prop,(∀(s1:Shared) (vs:List Value) (ys:List V) (kz:List (List Int)),bY X pins σ H s1->cJ ys vs->ys.length<64->CM sp H ys kz->(∀(D:Addr) (ix:List Nat) (H':Hp),ix.Perm (List.range ys.length)->(kz.Nodup->(ix.map λi=>kz.getD i []).Pairwise λa b=>eV a b=true)->H D=none->H' D=some (.lst (ix.map λi=>ys.getD i .non))->aX H H'->Q (.ref D) H')->Qc vs s1)->wpAny (model X.prog X.w) X.A.in1 (collect u) Qc X.xe s) :
  wpAny (model X.prog X.w) X.A (call (.builtin "sorted") [u] [(Str.ofString "key",.ref f)]) (EP X pins σ Q) X.xe s:=by
 refine call_function_entry_kw kind_sorted plain_sorted entry_sorted (ksk_s1 _ _) ?_;unfold Builtin.«sorted»;refine wpAny_bind (m:=checkCount _ _ _ _) (wpAny_pure ?_);refine wpAny_bind (hcol _ λs vs ys kz I rv hz kb q=>?_);have lv:=rv.length;have h64:vs.length<64:=Oo;have hzz:ys.length<=sizeLine:=by rw [sizeLine_eq];omega
 have sz0:s.heap.objs.size<=s.heap.objs.size:=aK _;have kp0:∀b o,s.heap.get? b=some o->s.heap.get? b=some o:=λb o h=>h;obtain ⟨h1,eh1⟩:∃h1,h1=s.heap:=⟨_,rfl⟩;rw [<-eh1] at kp0;have sz0:s.heap.objs.size<=h1.objs.size:=by rw [eh1];exact aK _
 have kp0:∀b o,s.heap.get? b=some o->h1.get? b=some o:=λb o h=>by rw [eh1];exact h
 have es:s={ s with heap:=h1 }:=by rw [eh1]
 suffices hh:∀s':Shared,s'={ s with heap:=h1 }->wpAny _ _ _ _ _ s' from hh s es
 intro s' es';subst es';clear es eh1;refine wpAny_bind (wpAny_newList ?_ (by rw [sizeLine_eq];omega));have gD:(h1.push (seqObj "list" vs.toArray 0)).get? h1.objs.size=some (seqObj "list" vs.toArray 0):=bB _ rfl;have sz1:(h1.push (seqObj "list" vs.toArray 0)).objs.size=h1.objs.size+1:=size_push' ..;have kp1:∀b o,s.heap.get? b=some o->(h1.push (seqObj "list" vs.toArray 0)).get? b=some o:=λb o hb=>aB _ (kp0 b o hb);show wpAny _ _ _ _ _ { s with heap:=h1.push (seqObj "list" vs.toArray 0) };generalize hD:h1.objs.size=D at *;generalize h1.push (seqObj "list" vs.toArray 0)=h2 at gD sz1 kp1 ⊢;refine wpAny_bind (wpAny_holding (wpAny_call_entry_kw slot_list_sort ⟨_,gD,rfl⟩ entry_list_sort ?_ (ksk_l1 _ _)));show wpAny (model X.prog X.w) X.A.in1.in1 (Builtin.«list.sort» ⟨[.ref D],[(Str.ofString "key",.ref f)]⟩) _ _ _;rw [ksk_t1];unfold ksk_tree;refine wpAny_bind (listItems_at gD rfl ?_);refine wpAny_bind (listUpdate_at gD rfl ?_ (by rw [aO,sizeLine_eq];omega) (cB _));obtain ⟨e1,g1⟩:∃e1,(h2.update D (Obj.mapSeq λ_=>(#[]:Array Value))).get? D=some (seqObj "list" #[] e1):=⟨_,get?_update_seq gD λ_=>#[]⟩;have sz2:(h2.update D (Obj.mapSeq λ_=>(#[]:Array Value))).objs.size=D+1:=by rw [Heap.size_update];exact sz1
 have kp2:∀b o,s.heap.get? b=some o->(h2.update D (Obj.mapSeq λ_=>(#[]:Array Value))).get? b=some o:=λb o hb=>by
  have lt:b<s.heap.objs.size:=aY hb;rw [cL _ _ _ _ (bT (aZ lt sz0))];exact kp1 b o hb
 show wpAny _ _ _ _ _ { s with heap:=h2.update D (Obj.mapSeq λ_=>(#[]:Array Value)) };generalize h2.update D (Obj.mapSeq λ_=>(#[]:Array Value))=h3 at g1 sz2 kp2 ⊢;refine wpAny_bind (seqEpoch_at g1 rfl ?_);refine wpAny_bind (wpAny_newTuple ?_ (by show vs.length<=_;rw [sizeLine_eq];omega));refine wpAny_bind (wpAny_newList ?_ (cB _));refine wpAny_holding ?_;have g2:((h3.push (seqObj "tuple" vs.toArray 0)).push (seqObj "list" #[] 0)).get? D=some (seqObj "list" #[] e1):=aB _ (aB _ g1);have g3:((h3.push (seqObj "tuple" vs.toArray 0)).push (seqObj "list" #[] 0)).get? (h3.push (seqObj "tuple" vs.toArray 0)).objs.size=some (seqObj "list" #[] 0):=bB _ rfl;have sz3:(h3.push (seqObj "tuple" vs.toArray 0)).objs.size=D+2:=by rw [size_push',sz2]
 have kp3:∀b o,s.heap.get? b=some o->((h3.push (seqObj "tuple" vs.toArray 0)).push (seqObj "list" #[] 0)).get? b=some o:=λb o hb=>aB _ (aB _ (kp2 b o hb));show wpAny _ _ (ksk_rest D (.ref f) false vs.toArray e1 (.ref (h3.push (seqObj "tuple" vs.toArray 0)).objs.size)) _ _ { s with heap:=(h3.push (seqObj "tuple" vs.toArray 0)).push (seqObj "list" #[] 0) };rw [sz3] at g3 ⊢;generalize (h3.push (seqObj "tuple" vs.toArray 0)).push (seqObj "list" #[] 0)=h4 at g2 g3 kp3 ⊢;have I0:bY X pins σ H { s with heap:=h4 }:=I.kept (t':=s.toks) kp3;have dD:s.heap.objs.size<=D:=sz0;have dD2:s.heap.objs.size<=D+2:=bC sz0 (Nat.le_add_right _ _);have nDD:D≠D+2:=bT (Nat.lt_add_of_pos_right Dd);have lL:=I.lt;have hpin:∀p∈X.pn++pins,p.1<s.heap.objs.size:=λp hp=>aY (I.pin p hp).1;have I1:bY X ((D+2,seqObj "list" #[] 0)::(D,seqObj "list" #[] e1)::pins) σ H { s with heap:=h4 }:=I0.pins_of λp hp=>by
  rcases aR.mp hp with rfl | hp
  ·exact ⟨g3,I.hok.fresh dD2,Nat.ne_of_gt (aZ lL dD2),I.nofs dD2,λv z=>by cases z⟩
  rcases aR.mp hp with rfl | hp
  ·exact ⟨g2,I.hok.fresh dD,Nat.ne_of_gt (aZ lL dD),I.nofs dD,λv z=>by cases z⟩
  exact I0.pin p (aG _ hp)
 have sz00:=I.sz;refine IY hpf hm hB hfB hz' F hb hr I1 (bC sz00 dD2) (λp hp=>?_) rv h64 kb λp ks e H' s' sH I' hg ha=>?_
 ·rcases bE.mp hp with hp | hp
  ·exact bT (aZ (hpin p (bO _ hp)) dD2)
  rcases aR.mp hp with rfl | hp
  ·exact nDD
  ·exact bT (aZ (hpin p (aG _ hp)) dD2)
 have pk:=I'.pin (D+2,seqObj "list" (List.toArray ks) e) (aG _ (aF ..));have pa:=I'.pin (D,seqObj "list" #[] e1) (aG _ (aD _ (aF ..)));have Ip:bY X pins σ H' s':=I'.pins_of λp hp=>I'.pin p (aG _ (aD _ (aD _ hp)));have hperm:p.toList.Perm (List.range ys.length):=by
  have:=(Array.perm_iff_toList_perm.mp hg);rw [lv];simpa using this
 have hlt:∀i∈p.toList,i<ys.length:=λi hi=>by
  have:=hperm.mem_iff.mp hi;simpa using this
 have hl2:(p.toList.map λi=>ys.getD i .non).length=ys.length:=by rw [aA,hperm.length_eq,cE]
 have hDn:H' D=none:=pa.2.1;have gfin:((s'.heap.update (D+2) (Obj.mapSeq λ_=>(#[]:Array Value))).update D (Obj.mapSeq λ_=>List.toArray (p.toList.map λi=>vs.getD i Value.none))).get? D=some (seqObj "list" (List.toArray (p.toList.map λi=>vs.getD i Value.none)) _) :=
  get?_update_seq (show (s'.heap.update (D+2) (Obj.mapSeq λ_=>(#[]:Array Value))).get? D=some (seqObj "list" #[] e1) by rw [cL _ _ _ _ nDD];exact pa.1) λ_=>List.toArray (p.toList.map λi=>vs.getD i Value.none)
 have kfin:∀b o,b≠D->b≠D+2->s'.heap.get? b=some o->((s'.heap.update (D+2) (Obj.mapSeq λ_=>(#[]:Array Value))).update D (Obj.mapSeq λ_=>List.toArray (p.toList.map λi=>vs.getD i Value.none))).get? b=some o:=λb o n1 n2 hb=>by
  rw [cL _ _ _ _ n1,cL _ _ _ _ n2];exact hb
 generalize (s'.heap.update (D+2) (Obj.mapSeq λ_=>(#[]:Array Value))).update D (Obj.mapSeq λ_=>List.toArray (p.toList.map λi=>vs.getD i Value.none))=h5 at gfin kfin ⊢;refine ⟨_,rfl,wpAny_pure ⟨_,rfl,?_⟩⟩;have nn:∀b u,H' b=some u->b≠D/\b≠D+2:=λb u hb=>⟨(λz=>by rw [z,hDn] at hb;exact nomatch hb),(λz=>by rw [z,pk.2.1] at hb;exact nomatch hb)⟩;have ncell:∀x c,X.env.cells.lookup x=some c->c≠D/\c≠D+2:=λx c hc=>by
  obtain ⟨v,o,ho,hd⟩:=Ip.cell x c hc;refine ⟨λz=>?_,λz=>?_⟩
  ·rw [z,pa.1] at ho;cases ho;exact pa.2.2.2.2 v hd
  ·rw [z,pk.1] at ho;cases ho;exact pk.2.2.2.2 v hd
 have mem2:∀b,b ∉ [D,D+2]->b≠D/\b≠D+2:=λb hb=>⟨λz=>hb (by simp [z]),λz=>hb (by simp [z])⟩;refine ⟨.ref D,upd H' D (.lst (p.toList.map λi=>ys.getD i .non)),Ip.step (g':=s'.gens) (d':=s'.drawn) (t':=s'.toks) (ch:=[D,D+2]) (λb hb=>?_) (λb o _ _ hc g _=>kfin b o (mem2 b hc).1 (mem2 b hc).2 g) (λb o _ _ hc g _=>⟨o.slots,kfin b o (mem2 b hc).1 (mem2 b hc).2 g⟩)
  (λb o hc g n=>by rw [bU (mem2 b hc).1];exact n) (λb o hc g=>⟨o,kfin b o (mem2 b hc).1 (mem2 b hc).2 g⟩) (λb xs g=>by rw [bU (nn b _ g).1];exact g) (λb o u g=>by rw [bU (nn b _ g).1];exact g) (λb ps g=>⟨#[],by rw [bU (nn b _ g).1,g];simp⟩)
  (λm hm=>?_) (λb u g=>?_) Ip.bare,rfl,?_⟩
 ·rcases aR.mp hb with rfl | hb
  ·exact ⟨.inr (bC sz00 dD),pa.2.2.1,λx c hc=>(ncell x c hc).1,λp hp=>bT (aZ (hpin p hp) dD)⟩
  ·rw [aP.mp hb];exact ⟨.inr (bC sz00 dD2),pk.2.2.1,λx c hc=>(ncell x c hc).2,λp hp=>bT (aZ (hpin p hp) dD2)⟩
 ·obtain ⟨o,es,ep,ho,r⟩:=hm;exact ⟨o,es,ep,kfin _ o (Ne.symm pa.2.2.1) (Ne.symm pk.2.2.1) ho,r⟩
 ·by_cases hbD:b=D
  ·subst hbD;rw [bL] at g;cases g;exact ⟨by rw [hl2];exact hzz,_,_,rX rv _ hlt,gfin⟩
  ·rw [bU hbD] at g;refine (Ip.hok b u g).stay (λc v hc r=>?_) (λc r=>by rw [bU (nn c _ r).1];exact r) λc xs r=>by rw [bU (nn c _ r).1];exact r
   have nc:c≠D/\c≠D+2:=by
    rcases hc with rfl | hc
    ·exact nn c u g
    ·exact nn c _ hc
   exact kfin c v nc.1 nc.2 r
 ·refine q D p.toList _ hperm (λnd=>?_) (I.hok.fresh dD) bL (λb o g=>?_)
  ·have:=kb.1;exact LX hg (ha (by have:=BL nd;rwa [kb.1,lv] at this))
  ·have g':=sH b o g;rw [bU (nn b o g').1];exact g'
def xO(H:Hp)(cs:List (List Int))(ys:List V):Prop:=ys.length=cs.length/\∀(i:Nat) (y:V) (c:List Int),ys[i]?=some y->cs[i]?=some c->∃b,y=.ref b/\H b=some (.tup (c.map V.int))
@[irreducible] def wM(sp:Sp)(x:V)(H:Hp)(Q:VK):Prop:=∃(d:Addr) (kvs:List (List dE × V)) (cs kz:List (List Int)),x=.ref d/\H d=some (.dT kvs)/\kvs.map (·.1)=cs.map MJ/\cs.length<64 /\
 ∀ys,xO H cs ys->CM sp H ys kz/\∀(D:Addr) (ix:List Nat) (H':Hp),ix.Perm (List.range ys.length)->(kz.Nodup->(ix.map λi=>kz.getD i []).Pairwise λa b=>eV a b=true)->H D=none->H' D=some (.lst (ix.map λi=>ys.getD i .non))->aX H H'->Q (.ref D) H'
theorem AX(hc:X.calm=true){k:Nat}{f:Addr}{fd:FuncData}{ps:List Str}{sp:Sp}{B:Heap}{of:Obj}(hpf:(f,of)∈pins)(hm:IA X.K X.mg B)(hB:∀b o,B.get? b=some o->X.base.get? b=some o\/b=f)(hfB:B.get? f=some of)(hz':B.objs.size<=f+1)(F:dP X.prog X.w X.K X.mg B dM k f fd ps sp)(hb:nK X.K fd ps [])(hr:gA (k+2) X.A){x:V}{u:Value}{Q:VK}(I:bY X pins σ H s)(rx:cW x u)(q:wM sp x H Q) :
  wpAny (model X.prog X.w) X.A (call (.builtin "sorted") [u] [(Str.ofString "key",.ref f)]) (EP X pins σ Q) X.xe s:=by
 unfold wM at q;obtain ⟨d,kvs,cs,kz,rfl,hq,hk,hz,q⟩:=q;cases (show u=Value.ref d from rx);refine AY (H:=H) hpf hm hB hfB hz' F hb hr λQc kc=>?_;obtain ⟨hmm,hnd,o,hod,hex,es,ep,hdd,hsz,hat⟩:=SE I hq;have lk:kvs.length=cs.length:=by have:=congrArg List.length hk;simpa using this
 refine rH (DX hmm hex hdd) (show X.A.in1.handled=none from I.ok.hd hc) hod (by rw [sizeLine_eq];omega) λh1 tk acc kp hacc=>?_;obtain ⟨la,hacc⟩:=hacc;have I1:bY X pins σ H { s with heap:=h1,toks:=tk }:=I.kept kp;have key:∀(n:Nat) (l:List Value),l.length=n->∀(m:List (List Int)),m.length=n->(∀(i:Nat) v c,l[i]?=some v->m[i]?=some c->∃b,v=.ref b/\H b=some (.tup (c.map V.int)))->∃ys:List V,cJ ys l/\xO H m ys:=by
  intro n
  induction n with
  | zero =>
   intro l hl m hm _;cases l with
   | nil=>cases m with
    | nil=>exact ⟨[],.nil,rfl,λi y c h=>by simp at h⟩
    | cons _ _=>simp at hm
   | cons _ _=>simp at hl
  | succ n ih =>
   intro l hl m hm hk;cases l with
   | nil=>simp at hl
   | cons v l=>cases m with
    | nil=>simp at hm
    | cons c m =>
     obtain ⟨b,rfl,hb⟩:=hk 0 v c rfl rfl;obtain ⟨ys,hv,hy⟩:=ih l (by simpa using hl) m (by simpa using hm) λi v p h1 h2=>hk (i+1) v p (by simpa using h1) (by simpa using h2);refine ⟨.ref b::ys,.cons rfl hv,by rw [bF,bF,hy.1],λi y c' h1 h2=>?_⟩;cases i with
     | zero =>
      cases (show V.ref b=y by simpa using h1);cases (show c=c' by simpa using h2);exact ⟨b,rfl,hb⟩
     | succ i=>exact hy.2 i y c' (by simpa using h1) (by simpa using h2)
 have lacc:acc.toList.length=cs.length:=by rw [Array.length_toList,la,hsz,lk]
 obtain ⟨ys,hv,hy⟩:=key cs.length acc.toList lacc cs rfl λi v c e1 e2=>by
  obtain ⟨hi,e⟩:=hacc i v (by rw [<-Array.getElem?_toList];exact e1);have hp:∃p,kvs[i]?=some p/\p.1=MJ c:=by
   have:(kvs.map (·.1))[i]?=some (MJ c):=by rw [hk,aS,e2];rfl
   rw [aS] at this;obtain ⟨p,h1,h2⟩:=dG.mp this;exact ⟨p,h1,h2⟩
  obtain ⟨p,hp1,hp2⟩:=hp;obtain ⟨b,k1,k2⟩:=hat i hi p hp1;rw [hp2,kyV] at k2;exact ⟨b,by rw [e,k1],k2⟩
 obtain ⟨kb,kq⟩:=q ys hy;exact kc _ _ ys kz I1 hv (by rw [hy.1];exact hz) kb kq
end
@[irreducible] def BE(P:Addr)(qn:Str)(pos:Pos)(N:List Str)(te:TE)(x:V)(H:Hp)(Q:VK):Prop:=∃(d:Addr) (kvs:List (List dE × V)) (cs kz:List (List Int)),x=.ref d/\H d=some (.dT kvs)/\kvs.map (·.1)=cs.map MJ/\cs.length<64/\eQ H P qn pos/\kz.length=cs.length/\(∀k∈kz,k≠[]) /\
 (∀(i:Nat) (b:Addr) (c k:List Int) (H':Hp),cs[i]?=some c->kz[i]?=some k->aT P H H'->H' b=some (.tup (c.map V.int))->te (start N [.ref b]) H' λv H''=>aX H' H''/\bR H'' (BU k) v) /\
 ∀(D:Addr) (ix:List Nat) (ys:List V) (H':Hp),xO H' cs ys->ix.Perm (List.range ys.length)->(kz.Nodup->(ix.map λi=>kz.getD i []).Pairwise λa b=>eV a b=true)->H D=none->H' D=some (.lst (ix.map λi=>ys.getD i .non))->aT P H H'->eQ H' P qn pos->Q (.ref D) H'
def SQ(P:Addr)(qn:Str)(pos:Pos)(N:List Str)(te ta:TE):TE:=λσ H Q=>ta σ H λx H1=>BE P qn pos N te x H1 Q
section
variable{X:Cx}
theorem IE{P c:Addr}{N:List Str}{z:Str}{params:Arguments}{body:Expr}{scope:Scope}{lpos:Pos}{te:TE}{k:Nat}{a:Expr}{ta:TE}{p pos kp:Pos}{qn:Str}(hcode:X.env.code=.ref c)(hh:GT X.K c P=true)(hbm:BM X.mg X.base)
  (S:bZ N [z] scope) (hbi:∀(pm ctv:Value) (c':Addr) (u:Value),bindArgs (kla_fn "<lambda>" (X.env.qual ++ "<lambda>") params body scope [] pm (.ref c') ctv) ⟨[u],[]⟩=pure [(z,u)])
  (hbody:∀(B:Heap) (f c':Addr) (A:Around) (outer:List Env) (s:Shared) (H:Hp) (E:XK),gA k (A.deeper (envOfC (X.env.qual ++ "<lambda>") scope s.heap.objs.size f (.ref c'))) ->
   fI (rN dM X.prog X.w X.K X.mg B N (X.env.qual ++ "<lambda>") scope f (.ref c') A outer s H E).nox body te)
  (hr:gA (k+1+2) X.A) (hg:Gl X "sorted") (hmg:X.mg "sorted" = none) (ha:fI X a ta) (hqn:X.env.qual ++ "<lambda>" = qn) (hcl:closureFor scope X.env=pure []:=by rfl) (hdef:defaultsOf params X.env=([],[]):=by rfl) (hcm:X.calm=true:=by rfl)
  (he:eval (.Call (.Name "sorted" p) [a] [⟨some "key",.Lambda params body scope lpos,kp⟩] pos) X.env=(do callWith pos (<-eval (.Name "sorted" p) X.env) [] (backTo pos (starEach [a] X.env)) (backToKw pos (keywordEach [⟨some "key",.Lambda params body scope lpos,kp⟩] X.env))):=by rfl)
  (hs:starEach [a] X.env=[(false,eval a X.env)]:=by first | exact gI | exact gJ | exact cZ | rfl) :
  fI X (.Call (.Name "sorted" p) [a] [⟨some "key",.Lambda params body scope lpos,kp⟩] pos) (SQ P qn lpos N te ta):=⟨by
 intro pins s σ H Q I h;rw [he];refine wpAny_bind (qB I hg hmg zU ?_);have hbk:backTo pos (starEach [a] X.env)=[(false,eval a X.env)]:=by rw [hs];rfl
 refine PyProof.Rows.callWith_kw ?_ (by rw [hbk];rfl) (by rw [hbk];rfl) rfl rfl;rw [hbk];refine Calls.spliced_cons (thn (ha.p pins s σ H _ I h) λu s1 ⟨x,H1,I1,rx,q1⟩=>Calls.spliced_nil ?_);unfold BE at q1;obtain ⟨d,kvs,cs,kz,rfl,hq,hk,hz,TO,kl,kn,kc,q⟩:=q1;subst hqn;obtain ⟨ps0,hP⟩:=TO.at_;refine kws_cons (VF I1 hcode hh hbm hcl hdef TO λf c' pm ctv H2 s2 T2 hc2 b2 sz I2=>?_);refine kws_nil ?_;have k2:∀b o,X.base.get? b=some o->s2.heap.get? b=some o:=I2.bk;have pf:=I2.pin (f,kla_obj "<lambda>" (X.env.qual ++ "<lambda>") params body scope [] pm c' ctv) (aG _ (aF ..));have hfB:=GO (base:=X.base) pf.1;have mB:IA X.K X.mg (GP X.base s2.heap f):=I2.mod.more λb o e=>KM k2 e;have FL:dP X.prog X.w X.K X.mg (GP X.base s2.heap f) dM (k+1) f (kla_fn "<lambda>" (X.env.qual ++ "<lambda>") params body scope [] pm (.ref c') ctv) [z] (spL N c' (X.env.qual ++ "<lambda>") te) :=
  VP hfB S (λvs H Q E h=>h.1) (λvs H Q E h=>h.2.1) λA outer s H vs Q E hr h=>⟨te,hbody _ f c' A outer s H E hr,h.2.2⟩
 have q2:wM (spL N c' (X.env.qual ++ "<lambda>") te) (.ref d) H2 Q:=by
  unfold wM;have nP:d≠P:=λz=>by rw [z,hP] at hq;cases hq
  refine ⟨d,kvs,cs,kz,rfl,b2.at nP hq,hk,hz,λys ky=>⟨⟨by rw [kl,ky.1],kn,λi y kk H' h1 h2 s'=>?_⟩,λD ix H' p1 p2 p3 p4 p5=>q D ix ys H' ?_ p1 p2 ?_ p4 (b2.same p5) (T2.same p5)⟩⟩
  ·obtain ⟨cc,hcc⟩:∃cc,cs[i]?=some cc:=⟨_,aN (by rw [<-kl];exact (bN.mp h2).1)⟩;obtain ⟨b,rfl,hb⟩:=ky.2 i y cc h1 hcc;exact ⟨rfl,s' _ _ hc2,kc i b cc kk H' hcc h2 (b2.same s') (s' _ _ hb)⟩
  ·exact ⟨ky.1,λi y cc h1 h2=>by
    obtain ⟨b,e,hb⟩:=ky.2 i y cc h1 h2;exact ⟨b,e,p5 _ _ hb⟩⟩
  cases e:H1 D with
  | none=>rfl
  | some o =>
   by_cases zz:D=P
   ·obtain ⟨ps2,hP2⟩:=T2.at_;rw [zz,hP2] at p3;cases p3
   ·rw [b2.at zz e] at p3;cases p3
 refine wpAny_mono (AX hcm (aF ..) mB (λb o e=>PL k2 e) hfB (Nat.le_of_eq (by unfold GP;rw [vH];exact sz)) FL (.all λus hl=>?_) hr I2 rx q2) (λv s' ⟨y,H',J,r1,r2⟩=>⟨y,H',J.pins_of λp hp=>J.pin p (aG _ (aD _ hp)),r1,r2⟩) λ_ _ e=>e;obtain ⟨u',rfl⟩:∃u',us=[u']:=by
  cases us with
  | nil=>simp at hl
  | cons u' r =>
   cases r with
   | nil=>exact ⟨u',rfl⟩
   | cons _ _=>simp at hl
 exact hbi pm ctv c' u'⟩
end
end L2
namespace HT
open PySem PySem.W PyProof.Rows
section
variable{prog:Program}{w:World}{A:Around}{E:Value->Shared->Prop}{s:Shared}
theorem zW{sl:Addr}{tk:Tok}{n:Nat}{Q:Int × Int × Nat->Shared->Prop}(hs:s.heap.IsSliceOf sl .none .none (.int (-1) tk))(h:Q ((n:Int)-1,-1,n) s):wpAny (model prog w) A (Builtin.Slice.sliceApplied (.ref sl) (pure (n:Int))) Q E s:=by
 obtain ⟨os,hos,hcs,hds⟩:=id hs;unfold Builtin.Slice.sliceApplied Builtin.Slice.sliceFields;refine wpAny_bind (wpAny_bind (wpAny_field hos hds (x:=.none) rfl (wpAny_bind (wpAny_field hos hds (x:=.none) rfl (wpAny_bind (wpAny_field hos hds (x:=.int (-1) tk) rfl (wpAny_pure ?_)))))));refine wpAny_bind (slicePart_int ?_);show wpAny _ _ (if ((-1:Int) == 0)=true then _ else _) _ _ s;rw [if_neg Dd];refine wpAny_bind (slicePart_none (wpAny_bind (slicePart_none (wpAny_bind (wpAny_pure ?_)))));show wpAny _ _ (pure ((n:Int)-1,(-1:Int),Builtin.Slice.slicePlaces ((n:Int)-1) (-1) (-1))) _ _ s;have e:Builtin.Slice.slicePlaces ((n:Int)-1) (-1) (-1)=n:=by
  unfold Builtin.Slice.slicePlaces;rw [if_neg Dd];by_cases z:(n:Int)-1 > -1
  ·rw [if_pos z,show (-(-1:Int))=1 from rfl,Int.ediv_one];omega
  ·rw [if_neg z];omega
 rw [e];exact wpAny_pure h
theorem KW{α β:Type}{f:α->Option β}{g:α->β}:∀{l:List α},(∀m∈l,f m=some (g m))->l.filterMap f=l.map g
 | [],_=>rfl
 | a::l,h=>by rw [List.filterMap_cons,h a (aF ..),aV,KW λm hm=>h m (aD _ hm)]
theorem JR(xs:Array Value):((List.range xs.size).filterMap λ(m:Nat)=>xs[(((xs.size:Int)-1)+(m:Int)*(-1)).toNat]?).toArray=xs.toList.reverse.toArray:=by
 congr 1;have e:∀m∈List.range xs.size,xs[(((xs.size:Int)-1)+(m:Int)*(-1)).toNat]?=some (xs.toList.reverse.getD m Value.none):=λm hm=>by
  have hm:=cU.mp hm;rw [show (((xs.size:Int)-1)+(m:Int)*(-1)).toNat=xs.size-1-m by omega,Array.getElem?_eq_getElem Oo,bJ,List.getElem?_reverse (by simpa using hm)];simp [Array.getElem?_eq_getElem (show xs.size-1-m<xs.size by omega)]
 rw [KW e];refine List.ext_getElem? λi=>?_;rw [aS];by_cases z:i<xs.size
 ·rw [eR z];show some (xs.toList.reverse.getD i Value.none)=_;rw [bJ,aN (by simpa using z)];rfl
 ·rw [dO (by rw [cE];omega),dO (by simp;omega)];rfl
theorem pA{t sl:Addr}{items:Array Value}{tk:Tok}{Q:Value->Shared->Prop}(ht:IsTup s.heap t items)(hs:s.heap.IsSliceOf sl .none .none (.int (-1) tk))
  (h:Q (.ref s.heap.objs.size) { s with heap:=s.heap.push { cls:=.type "tuple",data:=.seq items.toList.reverse.toArray } }) (hsz:items.size<=sizeLine):wpAny (model prog w) A (getItem (.ref t) (.ref sl)) Q E s:=by
 have htake:sizeOk (.seq items.toList.reverse.toArray):=by
  show items.toList.reverse.toArray.size<=sizeLine;simpa using hsz
 obtain ⟨os,hos,hcs,hds⟩:=id hs;have hTs:s.TypeIs (.ref sl) "slice" := ⟨os,hos,hcs⟩;unfold getItem
 try with_reducible refine wpAny_holding ?_
 first | refine wpAny_bind (wpAny_pure ?_) | skip
 refine wpAny_bind (wpAny_sequenceKey ht.typeIs Dd ?_);refine wpAny_bind (wpAny_callSpecial?_slot (name:=Str.ofString "__getitem__") ht.typeIs PyProof.Rows.slot_tuple_getitem
  (wpAny_call_entry PyProof.Rows.slot_tuple_getitem ht.typeIs entry_tuple_getitem ?_ (args_tuple_getitem _ _)))
 show wpAny _ _ (Builtin.Tuple.tupleItemsOf (.ref t) >>= _) _ _ s;refine wpAny_bind (tupleItemsOf_ ht ?_);refine wpAny_bind (wpAny_typeOf hTs ?_);rw [if_pos Dd];refine wpAny_bind (zW hs ?_);have hno:¬((((items.size:Int)-1) == 0&&(-1:Int) == 1&&items.size == items.size)=true):=by simp
 show wpAny _ _ (if ((((items.size:Int)-1) == 0&&(-1:Int) == 1&&items.size == items.size)=true) then _ else _) _ _ s;rw [if_neg hno,JR]
 first
  | exact wpAny_bind (m:=Builtin.Tuple.tupleExact _) (wpAny_newObj_type (wpAny_pure ⟨_,rfl,wpAny_pure h⟩) htake)
  | exact wpAny_bind (m:=Builtin.Tuple.tupleExact _) (wpAny_newObj_type (wpAny_bind (wpAny_pure (wpAny_pure ⟨_,rfl,wpAny_pure h⟩))) htake)
  | exact wpAny_bind (wpAny_bind (m:=Builtin.Tuple.tupleExact _) (wpAny_newObj_type (wpAny_pure (wpAny_pure ⟨_,rfl,wpAny_pure h⟩)) htake))
  | exact wpAny_bind (wpAny_bind (m:=Builtin.Tuple.tupleExact _) (wpAny_newObj_type (wpAny_pure ⟨_,rfl,wpAny_pure h⟩) htake))
end
end HT
namespace L2
open PySem PySem.Spec PyProof.Rows
@[irreducible] def DG(K:PySem.W.Frag)(x:V)(H:Hp)(Q:VK):Prop:=∃a xs,x=.ref a/\eI K H a xs/\∀p H',aX H H'->H p=none->H' p=some (.tup xs.reverse)->Q (.ref p) H'
theorem aAE{K:PySem.W.Frag}{H:Hp}{a:Addr}{xs:List V}{Q:VK}(h:H a=some (.tup xs))(q:∀p H',aX H H'->H p=none->H' p=some (.tup xs.reverse)->Q (.ref p) H'):DG K (.ref a) H Q:=by
 unfold DG;exact ⟨a,xs,rfl,eI.of h,q⟩
def XS(K:PySem.W.Frag)(te:TE):TE:=λσ H Q=>te σ H λx H1=>DG K x H1 Q
theorem cJ.rev{xs:List V}{us:List Value}(h:cJ xs us):cJ xs.reverse us.reverse:=by
 induction h with
 | nil=>exact .nil
 | cons r _ ih=>rw [List.reverse_cons,List.reverse_cons];exact ih.append (.cons r .nil)
section
variable{X:Cx}{e st:Expr}{te ts:TE}{pos p2:Pos}
theorem MR(K:PySem.W.Frag)(he:fI X e te)(hst:fI X st ts)(ht:∀σ H Q,ts σ H Q↔Q (.int (-1)) H)(hK:X.K=K:=by rfl):fI X (.Subscript e (.Slice none none (some st) p2) pos) (XS K te):=⟨by
 subst hK;intro pins s σ H Q I h;refine Subscript_ (thn (he.p pins s σ H _ I h) λv s1 ⟨x,H1,I1,r1,q1⟩=>?_);unfold DG at q1;obtain ⟨a,xs,rfl,hx,q⟩:=q1;cases r1;refine wpAny_Slice ?_;rw [evalPart_none];refine wpAny_pure (wpAny_pure ?_);rw [evalPart_some];refine thn (hst.p pins s1 σ H1 (λw H'=>w=.int (-1)/\H'=H1) I1 ((ht _ _ _).mpr ⟨rfl,rfl⟩)) λu3 s3 ⟨w3,H3,I3,rw3,ew,eH⟩=>?_;subst ew eH;obtain ⟨tk,rfl⟩:=rw3;have I4:bY X pins σ H3 { s3 with heap:=s3.heap.push { cls:=.type "slice",data:=.fields #[.none,.none,.int (-1) tk] } }:=I3.kept (t':=s3.toks) λb ob q=>aB _ q;obtain ⟨its,r,htu,hz⟩:=I4.tuple hx;have hlen:=r.length;show wpAny (model X.prog X.w) X.A (subscriptTail e (.Slice none none (some st) p2) (.ref a) (.ref s3.heap.objs.size)) (EP X pins σ Q) X.xe { s3 with heap:=s3.heap.push { cls:=.type "slice",data:=.fields #[.none,.none,.int (-1) tk] } };refine tail_any (ops:=[.ref a,.ref s3.heap.objs.size]) htu.typeIs PyProof.Rows.slot_tuple_getitem.lookup ?_ (by with_unfolding_all rfl);refine HT.pA htu (Heap.IsSliceOf.new ..) ?_ (by rw [aO];omega);have hn:=I4.hok.fresh (aK _);refine ⟨.ref _,_,I4.laid (t':=s3.toks) (o:=.tup xs.reverse) (λb ob q=>aB _ q) (aK _) ?_,rfl,q _ _ (aX.upd hn) hn bL⟩;exact ⟨⟨by rw [List.length_reverse];omega,_,bB _ rfl,rfl⟩,_,r.rev,IsTup.new _ _⟩⟩
end
end L2
namespace L2
open PySem PySem.W PySem.Spec PySem.Calls PyProof.Rows
section
variable{X:Cx}
@[irreducible] def OA:List V->Hp->VK->Prop:=λxs H Q=>∃(p:Addr) (bs:List Bool),xs=[.ref p]/\H p=some (.lst (bs.map V.bl))/\Q (.bl (bs.all id)) H
theorem rall{p:Addr}{bs:List Bool}{H:Hp}{Q:VK}(e:H p=some (.lst (bs.map V.bl)))(q:Q (.bl (bs.all id)) H):OA [.ref p] H Q:=by unfold OA;exact ⟨p,bs,rfl,e,q⟩
theorem LW{bs:List Bool}:∀{us:List Value},cJ (bs.map V.bl) us->LSm.BoolsAre us bs:=by
 induction bs with
 | nil=>intro us r;cases r;exact .nil
 | cons b bs ih =>
  intro us r;cases r with
  | cons r t=>cases (show _=Value.bool b from r);exact .cons b (ih t)
theorem CC(hc:X.calm=true):eW X (.builtin "all") OA:=by
 unfold OA;intro pins s σ H xs us Q I r h;obtain ⟨p,bs,rfl,e,q⟩:=h;obtain ⟨_,rfl,r1⟩:=iG r;cases r1;obtain ⟨z,its,n,rv,hl,eo⟩:=I.lstM e;have hL:s.heap.IsList p its.toArray:=⟨_,eo,rfl,n,rfl⟩;have hb:=LW rv;have hlt:p<s.heap.objs.size:=aY eo;refine call_all_walk (wpAny_pyIter_list hL ?_);refine ⟨s.heap.objs.size,[s.heap.objs.size,p],[s.heap.objs.size],its.toArray.size,_,_,λi=>(bs[i]?).getD true,rfl,Walks.list (A:=X.A.in1) (I.ok.hd hc) _ p (bT hlt) its.toArray,
  ⟨⟨_,bB _ rfl,rfl,rfl⟩,hL.push _⟩,λi v s' Q' E' hP hQ=>?_,λh' tk hk=>?_⟩
 ·obtain ⟨b,e,rfl⟩:=hb.get i v (by simpa using hP);simp only [e,Option.getD_some] at hQ;exact wpAny_truthy_bool hQ
 ·have e:((List.range its.toArray.size).all λi=>(bs[i]?).getD true)=bs.all id:=by
   rw [aO,hb.length];exact LSm.range_all bs
  rw [e];exact ⟨.bl _,H,I.kept (LSm.kept_iter hk),rfl,q⟩
end
end L2
namespace Kw
open PySem L2 Mf
def top(i:Nat):Stmt:=PySem.Challenge.pw_earlystop_k19_what_is_a_rule.main.body.getD i (.Pass ⟨0,0,0,0⟩)
structure Cl where
 ONE:Addr
 tok_LOOKS_ON:Tok
structure kR(K:PySem.W.Frag)(mg:Str->Option Value)(c:Cl):Prop where
 b_list:mg "list" = none
 b_len:mg "len" = none
 b_abs:mg "abs" = none
 b_repr:mg "repr" = none
 b_range:mg "range" = none
 b_sum:mg "sum" = none
 b_max:mg "max" = none
 b_int:mg "int" = none
 b_bool:mg "bool" = none
 b_sorted:mg "sorted" = none
 b_dict:mg "dict" = none
 b_isinstance:mg "isinstance" = none
 b_all:mg "all" = none
 b_tuple:mg "tuple" = none
 g_ONE:mg "ONE" = some (.ref c.ONE)
 g_LOOKS_ON:mg "LOOKS_ON" = some (.int 0 c.tok_LOOKS_ON)
 o_ONE:wX K c.ONE [1,1]=true
abbrev TU:Stmt:=(top 27)
theorem WM:bZ ["_law_script","_law_at","_law_cell"] ["_law_script","_law_at"] (bD TU):=⟨rfl,rfl,rfl,Kk,rfl,Kk,Kk⟩
abbrev sQ9:Stmt:=(top 28)
theorem ZQ:bZ ["_law_tape_here","_law_many","_law_turn","_law_found","_law_stirred"] ["_law_tape_here","_law_many"] (bD sQ9):=⟨rfl,rfl,rfl,Kk,rfl,Kk,Kk⟩
abbrev sQ3:Stmt:=(top 29)
theorem cQ3:bZ ["_law_n","_law_d","_law_one","_law_other"] ["_law_n","_law_d"] (bD sQ3):=⟨rfl,rfl,rfl,Kk,rfl,Kk,Kk⟩
abbrev JC:Stmt:=(top 32)
theorem WO:bZ ["_law_tape_here","_law_many","_law_parts"] ["_law_tape_here","_law_many"] (bD JC):=⟨rfl,rfl,rfl,Kk,rfl,Kk,Kk⟩
abbrev NL:Stmt:=(top 33)
theorem WP:bZ ["_law_tape_here","_law_ways","_law_stops","_law_plain","_law_place"] ["_law_tape_here","_law_ways","_law_stops","_law_plain"] (bD NL):=⟨rfl,rfl,rfl,Kk,rfl,Kk,Kk⟩
abbrev sQ8:Stmt:=(top 34)
theorem cQ8:bZ ["_law_counts","_law_says_here"] ["_law_counts","_law_says_here"] (bD sQ8):=⟨rfl,rfl,rfl,Kk,rfl,Kk,Kk⟩
abbrev NM:Stmt:=(top 35)
theorem CF:bZ ["_law_tape_here","_law_faces","_law_ways","_law_most","_law_plain","_law_found","_law_level","_law_later","_law_counts","_law_says_here"] ["_law_tape_here","_law_faces","_law_ways","_law_most","_law_plain"] (bD NM):=⟨rfl,rfl,rfl,Kk,rfl,Kk,Kk⟩
abbrev TV:Stmt:=(top 36)
theorem WN:bZ ["_law_tape_here","_law_faces","_law_most"] ["_law_tape_here"] (bD TV):=⟨rfl,rfl,rfl,Kk,rfl,Kk,Kk⟩
abbrev NI:Stmt:=(top 46)
theorem zT:bZ ["_law_script","_law_k","_law_tape_here","_law_faces","_law_ways","_law_most","_law_rule_here","_law_turn"] ["_law_script"] (bD NI):=⟨rfl,rfl,rfl,Kk,rfl,Kk,Kk⟩
abbrev tpD(c l t:Int):List (dE × V):=[(.inr "cell",.int c),(.inr "left",.int l),(.inr "turn",.int t)]
structure bP(H:Hp)(p:Addr)(n:Nat):Prop where
 ex:∃c l t:Int,H p=some (.dK (tpD c l t))/\0<=l/\0<=t/\t+n<=1000000000000
theorem bP.ne{H:Hp}{p q:Addr}{n:Nat}(F:bP H p n)(hq:H q=none):q≠p:=λe=>by
 subst e;obtain ⟨c,l,t,h,_⟩:=F.ex;rw [h] at hq;cases hq
theorem bP.there{H:Hp}{p:Addr}{n:Nat}(F:bP H p n):∃o,H p=some o:=by obtain ⟨c,l,t,h,_⟩:=F.ex;exact ⟨_,h⟩
theorem bP.neL{H:Hp}{p q:Addr}{n:Nat}{xs:List V}(F:bP H p n)(hq:H q=some (.lst xs)):q≠p:=λe=>by
 subst e;obtain ⟨c,l,t,h,_⟩:=F.ex;rw [h] at hq;cases hq
theorem bP.neT{H:Hp}{p q:Addr}{n:Nat}{xs:List V}(F:bP H p n)(hq:H q=some (.tup xs)):q≠p:=λe=>by
 subst e;obtain ⟨c,l,t,h,_⟩:=F.ex;rw [h] at hq;cases hq
theorem bP.same{H H':Hp}{p:Addr}{n:Nat}(F:bP H p n)(s:aX H H'):bP H' p n:=by
 obtain ⟨c,l,t,h,r⟩:=F.ex;exact ⟨c,l,t,s _ _ h,r⟩
theorem bP.but{H H':Hp}{p D:Addr}{n:Nat}(F:bP H p n)(s:aT D H H')(n1:D≠p):bP H' p n:=by
 obtain ⟨c,l,t,h,r⟩:=F.ex;exact ⟨c,l,t,s.at (Ne.symm n1) h,r⟩
theorem bP.less{H:Hp}{p:Addr}{n m:Nat}(F:bP H p n)(h:m<=n):bP H p m:=by
 obtain ⟨c,l,t,e,l0,t0,r⟩:=F.ex;exact ⟨c,l,t,e,l0,t0,Oo⟩
theorem bP.t{H H':Hp}{p:Addr}{n:Nat}(F:bP H p n)(s:aT p H H'):eY H H':=by
 obtain ⟨c,l,t,h,_⟩:=F.ex;exact s.tD h
theorem bP.like{p:Addr}{n:Nat}(f:Nat->Nat):mL p (λi H=>bP H p (f i)) :=
 ⟨λ_ D H1 H2 n1 s F=>F.but s n1,λ_ H1 H2 s F=>F.same s,λ_ H' F=>by obtain ⟨c,l,t,h,_⟩:=F.ex;exact ⟨_,h⟩⟩
@[irreducible] def oI(K:PySem.W.Frag):Sp:=λvs H Q _=>∃(a:Addr) (ns:List Int) (k:Int),vs=[.ref a,.int k]/\gG K H a (ns.map V.int)/\ns.length<=63/\0<=k/\∀p H',bP H' p 1000000000000->aX H H'->H p=none->Q (.ref p) H'
theorem FP{K:PySem.W.Frag}{H:Hp}{Q:VK}{E:XK}{a:Addr}{ns:List Int}{k:Int}(h:gG K H a (ns.map V.int))(hl:ns.length<=63)(hk:0<=k)(q:∀p H',bP H' p 1000000000000->aX H H'->H p=none->Q (.ref p) H'):oI K [.ref a,.int k] H Q E:=by
 unfold oI;exact ⟨a,ns,k,rfl,h,hl,hk,q⟩
@[irreducible] def gT:Sp:=λvs H Q _=>∃(p:Addr) (n:Nat) (m:Int),vs=[.ref p,.int m]/\bP H p (n+1)/\0<m/\bits m<=64/\∀x H',0<=x->x<m->bP H' p n->aT p H H'->Q (.int x) H'
theorem cQ{H:Hp}{Q:VK}{E:XK}{p:Addr}{n:Nat}{m:Int}(F:bP H p (n+1))(h:0<m)(hb:bits m<=64)(k:∀x H',0<=x->x<m->bP H' p n->aT p H H'->Q (.int x) H'):gT [.ref p,.int m] H Q E:=by
 unfold gT;exact ⟨p,n,m,rfl,F,h,hb,k⟩
theorem bitsle{i:Int}{n:Nat}(h:i.natAbs<2^n):bits i<=n:=PySem.intBits_le_iff.mpr h
theorem rlQ{K:PySem.W.Frag}{H:Hp}{p:Addr}{xs:List V}{Q:VK}(h:gG K H p xs)(q:Q (.int xs.length) H):uI K [V.ref p] H Q:=by unfold uI;exact ⟨_,_,rfl,.inl ⟨xs,h,rfl⟩,q⟩
section
theorem aA6(F:iK K "_law_tape" "_law_tape" TU f fd)(T:kR K mg c):dP P w K mg base dM 1 f fd ["_law_script","_law_at"] (oI K):=by
 refine F.oky WM λvs H Q E h=>?_;unfold oI at h;obtain ⟨a,ns,i,rfl,hS,hl,hi,k⟩:=h;refine ⟨rfl,λcdv A outer s hr=>?_⟩;refine ⟨_,(aW (cC (i:=2) WM.nd rfl (Or.inl rfl) (aJ 1))
  (aW (AD (eP (dH sV (cS fS (by rfl) T.b_len Kk (aH (aJ 0) aC)) aE (nomark _)) (bG (cC (i:=2) WM.nd rfl (Or.inl rfl) (bS dU (cK cG (aJ 0) (bS mI (aJ 1) (cS fS (by rfl) T.b_len Kk (aH (aJ 0) aC))) (λ_ _=>rfl)) (bS gE (aJ 1) (cS fS (by rfl) T.b_len Kk (aH (aJ 0) aC)))))) cR))
  (bG (bV (MS (sI iM (aJ 2) (sI iM (cS (HG rfl) (by rfl) T.b_max Kk (aH aE (aH (bS pY (aJ 2) (bS JZ aE aE)) aC))) (sI iM aE MQ)))))))),?_⟩
 refine ⟨_,rfl,?_⟩;refine ⟨λσ H3=>∃c:Int,σ=[some (.ref a),some (.int i),some (.int c)]/\H3=H,?_,?_⟩
 ·rintro σ H3 ⟨c,rfl,rfl⟩;intro p hp;refine ⟨_,rfl,?_⟩;refine ⟨_,rfl,_,_,rfl,rfl,⟨Dd,Dd,Dd⟩,_,_,rfl,rfl,_,_,rfl,?_⟩;refine ⟨bL,tpD c (if c-10^18 > 0 then c-10^18 else 0) 0,rfl,by show 3<=15;decide,?_⟩;refine k p _ ⟨c,(if c-10^18 > 0 then c-10^18 else 0),0,?_,by split <;> omega,Dd,Dd⟩ ?_ hp
  ·rw [bL];rfl
  ·intro b o h;have nb:b≠p:=λe=>by subst e;rw [hp] at h;cases h
   rw [L2.bU nb,L2.bU nb];exact h
 ·refine ⟨_,rfl,?_⟩;refine rlQ hS ?_;refine ⟨_,_,rfl,rfl,_,rfl,?_⟩;rw [aA];refine lP (λe1=>?_) (λe1=>?_)
  ·refine ⟨_,rfl,_,rfl,_,rfl,?_⟩;refine rlQ hS ?_;rw [aA];refine ⟨_,_,rfl,rfl,e1,?_⟩;have g0:=Int.emod_nonneg i (b:=(ns.length:Int)) Oo;have g1:=Int.emod_lt_of_pos i e1;have hj:∃z,ns[(i % (ns.length:Int)).toNat]?=some z:=⟨_,aN Oo⟩;obtain ⟨z,hz⟩:=hj;have hat:AC (ns.map V.int) (i % (ns.length:Int))=some (.int z):=by
    have:=fK (xs:=ns.map V.int) (j:=(i % (ns.length:Int)).toNat) (v:=V.int z) (by rw [aS,hz];rfl)
    rwa [Int.toNat_of_nonneg g0] at this
   refine .inl ⟨a,_,_,_,rfl,rfl,hS,hat,?_⟩;refine ⟨_,rfl,_,rfl,?_⟩;refine rlQ hS ?_;rw [aA];refine ⟨_,_,rfl,rfl,⟨e1,bitsle (by have:((ns.length:Int)).natAbs<=63:=Oo;exact bI this (aZ (show 63<2^6 by decide) (fM Dd Dd)))⟩,?_⟩;refine ⟨_,_,rfl,rfl,?_⟩;exact ⟨_,rfl,rfl⟩
  ·exact ⟨_,rfl,rfl⟩
theorem oQ9(F:iK K "_law_pick" "_law_pick" sQ9 f fd)(T:kR K mg c):dP P w K mg base dM 1 f fd ["_law_tape_here","_law_many"] gT:=by
 refine F.oky ZQ λvs H Q E h=>?_;unfold gT at h;obtain ⟨p,n,m,rfl,F,hm,hb,k⟩:=h;refine ⟨rfl,λcdv A outer s hr=>?_⟩;obtain ⟨c,l,t,hp,h0,h1,h2⟩:=F.ex;refine ⟨_,(aW (cC (i:=2) ZQ.nd rfl (Or.inl rfl) (bS dU (kX hr.u1 (aJ 0) iM) aE))
  (aW (oC hr.u1 (aJ 0) iM (aJ 2))
  (aW (eP (dH sV (kX hr.u1 (aJ 0) iM) aE (nomark _)) (aW (cC (i:=3) ZQ.nd rfl (Or.inl rfl) (bS mI (kX hr.u1 (aJ 0) iM) (aJ 1)))
  (aW (oC hr.u1 (aJ 0) iM (bS gE (kX hr.u1 (aJ 0) iM) (aJ 1)))
  (bG (bV (aJ 3))))) cR)
  (aW (cC (i:=4) ZQ.nd rfl (Or.inl rfl) (bS gX (bS dU (bS dU (bS mI (kX hr.u1 (aJ 0) iM) aE) (bS gX (bS gX aE (aJ 2)) (aJ 2))) aE) aE))
  (aW (cC (i:=4) ZQ.nd rfl (Or.inl rfl) (bS gX (bS dU (bS mI (aJ 4) aE) (bS gX aE (aJ 2))) aE))
  (bG (bV (bS mI (bS gE (bS mI (aJ 4) aE) aE) (aJ 1))))))))),?_⟩
 refine ⟨_,rfl,?_⟩;refine ZP hp rfl ?_;refine ⟨_,_,rfl,rfl,?_⟩;refine ⟨_,rfl,_,rfl,?_⟩;refine dpS (kvs2:=tpD c l (t+1)) hp (by show 3<=64;decide) rfl λH1 hp1 s1=>?_;refine ⟨_,rfl,?_⟩;refine ZP hp1 rfl ?_;refine ⟨_,_,rfl,rfl,_,rfl,?_⟩;refine lP (λe0=>?_) (λe0=>?_)
 ·refine ⟨_,rfl,?_⟩;refine ZP hp1 rfl ?_;refine ⟨_,rfl,_,_,rfl,rfl,hm,?_⟩;refine ⟨_,rfl,?_⟩;refine ZP hp1 rfl ?_;refine ⟨_,rfl,_,_,rfl,rfl,⟨hm,bC hb Dd⟩,?_⟩;refine ⟨_,rfl,?_⟩;refine dpS (kvs2:=tpD c (l/m) (t+1)) hp1 (by show 3<=64;decide) rfl λH2 hp2 s2=>?_;refine ⟨_,rfl,?_⟩;exact k _ H2 (Int.emod_nonneg _ Oo) (Int.emod_lt_of_pos _ hm) ⟨c,l/m,t+1,hp2,Int.ediv_nonneg h0 Oo,Oo,Oo⟩ (s1.trans s2)
 ·have bt:bits (t+1)<=64:=PySem.intBits_le_64 Oo Oo;refine ⟨_,rfl,?_⟩;refine ZP hp1 rfl ?_;have c0:=Int.emod_nonneg c (b:=2147483647) Dd;have c1:=Int.emod_lt_of_pos c (b:=2147483647) Dd;refine ⟨_,_,rfl,rfl,(by show (0:Int)<2147483647;decide),?_⟩;refine ⟨_,rfl,_,_,rfl,rfl,IntMulOk.of_left Kk,_,rfl,_,_,rfl,rfl,IntMulOk.of_right bt,_,_,rfl,rfl,_,_,rfl,rfl,_,_,rfl,rfl,IntMulOk.of_right Kk,?_⟩;generalize hz:(c % 2147483647+31*(t+1)*(t+1)+1)*48271=z;refine ⟨_,rfl,_,_,rfl,rfl,(by show (0:Int)<2147483629;decide),_,rfl,_,_,rfl,rfl,IntMulOk.of_left Kk,_,_,rfl,rfl,_,_,rfl,rfl,IntMulOk.of_right Kk,?_⟩;generalize hy:(z % 2147483629+7*(t+1))*69621=y;refine ⟨_,rfl,_,_,rfl,rfl,(by show (0:Int)<2147483587;decide),_,_,rfl,rfl,⟨Dd,Kk⟩,_,rfl,_,_,rfl,rfl,hm,?_⟩;exact k _ H1 (Int.emod_nonneg _ Oo) (Int.emod_lt_of_pos _ hm) ⟨c,l,t+1,hp1,h0,Oo,Oo⟩ s1
end
abbrev iJ(f:Fr):PyData:=.tuple [.int f.1,.int f.2]
theorem WD{H:Hp}{f:Fr}{v:V}(h:bR H (iJ f) v):∃a,v=.ref a/\H a=some (.tup [.int f.1,.int f.2]):=by
 unfold bR aL aL aL at h;obtain ⟨a,_,rfl,h1,x,_,rfl,r1,y,_,rfl,r2,rfl⟩:=h;cases (show x=V.int f.1 from r1);cases (show y=V.int f.2 from r2);exact ⟨a,rfl,h1⟩
theorem jM{H:Hp}{f:Fr}{a:Addr}(h:H a=some (.tup [.int f.1,.int f.2])):bR H (iJ f) (.ref a):=bR.tup h (aL.cons (bR.int _) (aL.cons (bR.int _) aL.nil))
theorem zD(f:Fr):fR (iJ f)=true:=rfl
def HU(K:PySem.W.Frag)(H:Hp)(f:Fr)(x:V):Prop:=∃a,x=.ref a/\eI K H a [.int f.1,.int f.2]
theorem HU.of{K:PySem.W.Frag}{H:Hp}{f:Fr}{x:V}(h:bR H (iJ f) x):HU K H f x:=by
 obtain ⟨a,e,h⟩:=WD h;exact ⟨a,e,eI.of h⟩
def HN(k:Nat)(f:Fr):Prop:=f.1.natAbs<2^k/\f.2.natAbs<2^k
@[irreducible] def uS:Sp:=λvs H Q _=>∃n d:Int,vs=[.int n,.int d]/\0<d/\Q (.int (Int.gcd n d)) H
theorem wG{H:Hp}{Q:VK}{E:XK}{n d:Int}(h:0<d)(q:Q (.int (Int.gcd n d)) H):uS [.int n,.int d] H Q E:=by unfold uS;exact ⟨n,d,rfl,h,q⟩
def HR(H:Hp)(Q:VK)(f:Fr):Prop:=∀q H',H q=none->H' q=some (.tup [.int f.1,.int f.2])->aX H H'->Q (.ref q) H'
@[irreducible] def oM(K:PySem.W.Frag):Sp:=λvs H Q _=>∃x y f g,vs=[x,y]/\HU K H f x/\HU K H g y/\iV f/\iV g/\HN 4000 f/\HN 4000 g/\HR H Q (rQ f g)
theorem FS{K:PySem.W.Frag}{H:Hp}{Q:VK}{E:XK}{x y:V}{f g:Fr}(h1:HU K H f x)(h2:HU K H g y)(l1:iV f)(l2:iV g)(z1:HN 4000 f)(z2:HN 4000 g)(q:HR H Q (rQ f g)):oM K [x,y] H Q E:=by unfold oM;exact ⟨x,y,f,g,rfl,h1,h2,l1,l2,z1,z2,q⟩
theorem WA{n d:Int}(h:0<d):(Int.gcd n d:Int)<=d:=Int.le_of_dvd h (Int.gcd_dvd_right n d)
theorem BX{n d:Int}{k:Nat}(h:0<d)(z:d.natAbs<2^k):(Int.gcd n d:Int).natAbs<2^k:=by
 have:=WA (n:=n) h;have:=jU (n:=n) h;omega
theorem zI{n d:Int}(h:0<d)(z:d.natAbs<2^9000):MF n d:=⟨h,xI z⟩
theorem oG{i:Int}{n m:Nat}(h:i.natAbs<2^n)(k:n<=m:=by decide):i.natAbs<2^m:=aZ h (fM Dd k)
theorem AN{i j:Int}{n:Nat}(h:i.natAbs<2^n)(hj:0<j):(i/j).natAbs<2^n:=bI (by
 have:=Int.natAbs_ediv_le_natAbs i j;exact this) h
theorem AM{i j:Int}{n m:Nat}(h1:i.natAbs<2^n)(h2:j.natAbs<2^m):(i*j).natAbs<2^(n+m):=by
 rw [Int.natAbs_mul,Nat.pow_add];exact Nat.mul_lt_mul'' h1 h2
abbrev lO(fs:List Fr):PyData:=.tuple (fs.map iJ)
theorem pC:∀fs:List Fr,fZ (fs.map iJ)=true
 | []=>rfl
 | f::fs=>by show (fR (iJ f)&&fZ (fs.map iJ))=true;rw [pC fs];rfl
theorem mG(fs:List Fr):fR (lO fs)=true:=pC fs
structure kB(n:Nat)(fs:List Fr):Prop where
 ex:∃ns:List Int,ns.length=n/\(∀x∈ns,0<=x/\x<=7)/\0<ns.sum/\fs=ns.map λx=>lw x ns.sum
theorem oH:∀{ns:List Int},(∀x∈ns,0<=x/\x<=7)->0<=ns.sum/\ns.sum<=7*(ns.length:Int)
 | [],_=>by simp
 | n::ns,h=>by
  have h1:=oH (ns:=ns) λx hx=>h x (aD _ hx);have h2:=h n (aF ..);rw [List.sum_cons,bF];omega
theorem MX{ns:List Int}(h:∀x∈ns,0<=x/\x<=7){n:Int}(hn:n∈ns)(p:0<n):0<ns.sum:=by
 induction ns with
 | nil=>cases hn
 | cons a r ih =>
  have h1:=oH (ns:=r) λx hx=>h x (aD _ hx);have h2:=h a (aF ..);rw [List.sum_cons];rcases aR.mp hn with rfl | hr
  ·omega
  ·have:=ih (λx hx=>h x (aD _ hx)) hr;omega
theorem kB.len{n:Nat}{fs:List Fr}(h:kB n fs):fs.length=n:=by
 obtain ⟨ns,h1,_,_,rfl⟩:=h.ex;rw [aA,h1]
theorem kB.zero{n:Nat}{fs:List Fr}(h:kB n fs):kB (1+n) ((0,1)::fs):=by
 obtain ⟨ns,h1,h2,h3,rfl⟩:=h.ex;refine ⟨0::ns,by rw [bF];omega,λx hx=>?_,by rw [List.sum_cons];omega,?_⟩
 ·rcases aR.mp hx with rfl | hx
  ·omega
  ·exact h2 x hx
 ·rw [List.sum_cons,aV,Int.zero_add];have:lw 0 ns.sum=(0,1):=by
   unfold lw;rw [Int.gcd_zero_left];have hn:((ns.sum.natAbs:Nat):Int)=ns.sum:=Oo;rw [hn,Int.zero_ediv,Int.ediv_self Oo]
  rw [this]
def ind(p:Nat)(n:Nat):List Int:=(List.range n).map λk:Nat=>if (k:Int)=(p:Int) then 1 else 0
theorem EC(p n:Nat):(ind p n).length=n:=by unfold ind;rw [aA,cE]
theorem PU{p n:Nat}:∀x∈ind p n,0<=x/\x<=1:=λx hx=>by
 unfold ind at hx;obtain ⟨k,_,rfl⟩:=aU.mp hx;split <;> omega
theorem EB(p:Nat):∀n:Nat,(ind p n).sum=if p<n then 1 else 0
 | 0=>by simp [ind]
 | n+1=>by
  have ih:=EB p n;have e:ind p (n+1)=ind p n++[if (n:Int)=(p:Int) then 1 else 0]:=by
   unfold ind;rw [List.range_succ,bM];rfl
  rw [e,List.sum_append,ih,List.sum_singleton];by_cases h:p<n
  ·rw [if_pos h,if_neg Oo,if_pos Oo];rfl
  ·rw [if_neg h];by_cases h2:p=n
   ·subst h2;rw [if_pos rfl,if_pos Oo];rfl
   ·rw [if_neg Oo,if_neg Oo];rfl
theorem aBe(x:Int):lw x 1=(x,1):=by
 unfold lw;rw [Int.gcd_one_right];simp
theorem kB.one{p n:Nat}(h:p<n):kB n ((ind p n).map λx=>(x,1)):=by
 have e:=EB p n;rw [if_pos h] at e;refine ⟨ind p n,EC p n,λx hx=>?_,Oo,?_⟩
 ·have:=PU x hx;omega
 ·rw [e];exact List.map_congr_left λx _=>(aBe x).symm
@[irreducible] def jE:Sp:=λvs H Q _=>∃n d:Int,vs=[.int n,.int d]/\0<d/\d.natAbs<2^9000/\HR H Q (lw n d)
theorem nQ{H:Hp}{Q:VK}{E:XK}{n d:Int}(h:0<d)(z:d.natAbs<2^9000)(q:HR H Q (lw n d)):jE [.int n,.int d] H Q E:=by unfold jE;exact ⟨n,d,rfl,h,z,q⟩
@[irreducible] def iW:Sp:=λvs H Q _=>∃(p:Addr) (n m:Nat),vs=[.ref p,.int (m:Int)]/\bP H p (n+8)/\0<m/\m<=5/\∀v fs H',bP H' p n->aT p H H'->bR H' (lO fs) v->kB m fs->Q v H'
theorem qU{H:Hp}{Q:VK}{E:XK}{p:Addr}{n m:Nat}(F:bP H p (n+8))(m0:0<m)(m5:m<=5)(k:∀v fs H',bP H' p n->aT p H H'->bR H' (lO fs) v->kB m fs->Q v H'):iW [.ref p,.int (m:Int)] H Q E:=by
 unfold iW;exact ⟨p,n,m,rfl,F,m0,m5,k⟩
theorem aAF{H:Hp}{Q:VK}{l:Addr}{z:V}{k:Nat}(h:H l=some (.lst [z]))(hk:k<=64)(q:∀c H',H c=none->H' c=some (.lst (List.replicate k z))->aX H H'->Q (.ref c) H'):YM (.ref l) (.int (k:Int)) H Q:=by
 refine ⟨l,k,[z],rfl,rfl,h,Oo,Oo,?_,λp hp=>?_⟩
 ·show 1*((k:Int)).toNat<=sizeLine;rw [Nat.one_mul,Int.toNat_natCast];exact oR hk
 ·rw [Int.toNat_natCast];have e:∀k:Nat,(List.replicate k [z]).flatten=List.replicate k z:=λk=>by
   induction k with
   | zero=>rfl
   | succ k ih=>rw [List.replicate_succ,List.flatten_cons,ih,List.replicate_succ];rfl
  rw [e];exact q p _ hp bL (aX.upd hp)
theorem KI{k:Nat}{b:Nat}(hb:b<k):(∀x∈(List.replicate k (0:Int)).set b 1,0<=x/\x<=7)/\0<((List.replicate k (0:Int)).set b 1).sum:=by
 have h1:∀x∈(List.replicate k (0:Int)).set b 1,0<=x/\x<=7:=λx hx=>by
  rcases List.mem_or_eq_of_mem_set hx with h | rfl
  ·have:=List.eq_of_mem_replicate h;omega
  ·omega
 exact ⟨h1,MX h1 (n:=1) (List.mem_iff_getElem?.mpr ⟨b,by rw [List.getElem?_set_self (by simpa using hb)]⟩) Dd⟩
section
theorem oQ3(F:iK K "_law_frac" "_law_frac" sQ3 f fd)(T:kR K mg c):dP P w K mg base dM 1 f fd ["_law_n","_law_d"] jE:=by
 refine F.oky cQ3 λvs H Q E h=>?_;unfold jE at h;obtain ⟨n,d,rfl,hd,hz,q⟩:=h;refine ⟨rfl,λcdv A outer s hr=>?_⟩;refine ⟨_,(aW (cC (i:=2) cQ3.nd rfl (Or.inl rfl) (cS WK (by rfl) T.b_abs Kk (aH (aJ 0) aC)))
  (aW (cC (i:=3) cQ3.nd rfl (Or.inl rfl) (aJ 1))
  (aW (oB PassesOwn.never (dH sV (aJ 3) aE (nomark _)) (bG (SK (i:=2) (j:=3) rfl cQ3.nd rfl rfl Dd rfl rfl (aH (aJ 3) (aH (bS mI (aJ 2) (aJ 3)) aC)) rfl)))
  (bG (bV (cH (aH (bS gE (aJ 0) (aJ 2)) (aH (bS gE (aJ 1) (aJ 2)) aC)))))))),?_⟩
 refine ⟨_,rfl,?_⟩;refine raI ?_;refine ⟨_,rfl,?_⟩;refine rV (λm σ H'=>∃(u v:Int),σ=[some (.int n),some (.int d),some (.int u),some (.int v)]/\0<=v/\Int.gcd u v=Int.gcd n d/\(v=0->0<u)/\H'=H/\m=v.toNat)
  (λσ H'=>σ=[some (.int n),some (.int d),some (.int (Int.gcd n d)),some (.int 0)]/\H'=H)
  _ ⟨(n.natAbs:Int),d,rfl,Oo,by rw [Int.gcd_eq_natAbs_gcd_natAbs,Int.gcd_eq_natAbs_gcd_natAbs,Int.natAbs_natCast],Oo,rfl,rfl⟩ ?_ ?_
 ·rintro m σ H2 ⟨u,v,rfl,hb,hg,h0,rfl,rfl⟩;refine ⟨_,rfl,_,_,rfl,rfl,_,rfl,?_⟩;refine lP (λe=>?_) (λe=>?_)
  ·refine ⟨_,rfl,_,rfl,_,rfl,_,_,rfl,rfl,e,_,_,rfl,?_⟩;have e1:=Int.emod_lt_of_pos u e;have e2:=Int.emod_nonneg u (b:=v) Oo;exact ⟨_,Oo,v,u % v,rfl,e2,by rw [zC,hg],λ_=>e,rfl,rfl⟩
  ·have hb0:v=0:=Oo;subst hb0;have hu:=h0 rfl;have e1:=EE hu;rw [hg] at e1;rw [e1];exact ⟨rfl,rfl⟩
 ·rintro σ H2 ⟨rfl,rfl⟩;have hg:=jU (n:=n) hd;have zg:MF n (Int.gcd n d:Int):=zI hg (BX hd hz);refine ⟨_,rfl,_,rfl,_,_,rfl,rfl,zg,?_⟩;refine ⟨_,rfl,_,rfl,_,_,rfl,rfl,zg,?_⟩;refine mS (by show 2<=64;decide) λp H3 hp e3 s3=>?_;exact q p H3 hp e3 s3
theorem aA8(F:iK K "_law_shares" "_law_shares" JC f fd)(T:kR K mg c)
  (FQ9:hU dM P w K mg base 1 "_law_pick" ["_law_tape_here","_law_many"] gT) (FQ3:hU dM P w K mg base 1 "_law_frac" ["_law_n","_law_d"] jE):dP P w K mg base dM 2 f fd ["_law_tape_here","_law_many"] iW:=by
 refine F.oky WO λvs H Q E h=>?_;unfold iW at h;obtain ⟨p,n,m,rfl,F,m0,m5,k⟩:=h;refine ⟨rfl,λcdv A outer s hr=>?_⟩;refine ⟨_,(aW (cC (i:=2) WO.nd rfl (Or.inr rfl) (eZ (eA.of (psc:=bD JC) (N:=["_law_tape_here","_law_many","_law_parts"]) (N':=["_law_k","_law_tape_here"]) (js:=[0]) Kk rfl rfl rfl) (hV rfl T.b_range (aH (aJ 1) aC)) (λ_ _ _ _=>gH) (λ_ _ _ _=>(cK (oZ K) (dS (aH aE (aH aE (aH aE (aH aE (aH aE (aH aE aC))))))) (cF FQ9 (hr.mono Dd) (aH (aJ 1) (aH aE aC))) (λ_ _=>rfl)))))
  (aW (AD (eP (iS (oA (jQ (dH jI (cS (LN rfl) (by rfl) T.b_sum Kk (aH (aJ 2) aC)) aE (nomark _)) (iL (dH jI (cF FQ9 (hr.mono Dd) (aH (aJ 0) (aH aE aC))) aE (nomark _)))))) (aW (cC (i:=2) WO.nd rfl (Or.inr rfl) (bS UX (dS (aH aE aC)) (aJ 1)))
  (bG (AE aE (SM (aJ 2) (cF FQ9 (hr.mono Dd) (aH (aJ 0) (aH (aJ 1) aC))) JA)))) cR))
  (bG (bV (kC gF (by rfl) T.b_tuple Kk (aH (eZ (eA.of (psc:=bD JC) (N:=["_law_tape_here","_law_many","_law_parts"]) (N':=["_law_part","_law_parts"]) (js:=[2]) Kk rfl rfl rfl) (kU (aJ 2)) (λ_ _ _ _=>gH) (λ_ _ _ _=>(cF FQ3 (hr.mono Dd) (aH (aJ 0) (aH (cS (QG K rfl) (by rfl) T.b_sum Kk (aH (aJ 1) aC)) aC))))) aC)))))),?_⟩
 refine ⟨_,rfl,_,rfl,Oo,Oo,?_⟩;refine LM (bP.like (n:=n) λi=>n+8-i) F (λ_ y _=>∃x,y=.int x/\0<=x/\x<=7) (λ_ _ _ _ _ h=>h) Oo (λi H' Q' hi F' s' k'=>?_) (λD ys H1 hD hD1 F1 s1 hy hr1=>?_)
 ·refine rJ (by show 6<=64;decide) λq1 H2 hq1 e1 s1=>?_;refine ⟨_,rfl,?_⟩;refine cQ (n:=n+8-(i+1)) ((F'.same s1).less Oo) Dd Kk λx H3 x0 x1 F3 s3=>?_;obtain ⟨v,hat,hmem,_⟩:=jV (xs:=[V.int 0,V.int 1,V.int 1,V.int 2,V.int 3,V.int 7]) x0 x1;refine xR (s3.at (F'.ne hq1) e1) hat ?_;refine k' _ H3 F3 (s1.but.trans s3) ?_;simp only [aR,List.not_mem_nil,or_false] at hmem;rcases hmem with rfl | rfl | rfl | rfl | rfl | rfl <;> exact ⟨_,rfl,Dd,Dd⟩
 ·obtain ⟨ns,rfl,hn⟩:=wV (P:=λ_ x=>0<=x/\x<=7) hr1;rw [aA] at hy;have npD:=F.ne hD;have hn':∀x∈ns,0<=x/\x<=7:=λx hx=>by
   obtain ⟨i,hi⟩:=List.mem_iff_getElem?.mp hx;exact hn i x hi
  refine ⟨λσ H3=>∃(D:Addr) (ns:List Int),σ=[some (.ref p),some (.int (m:Int)),some (.ref D)]/\H3 D=some (.lst (ns.map V.int))/\ns.length=m/\(∀x∈ns,0<=x/\x<=7)/\0<ns.sum/\bP H3 p n/\aT p H H3,?_,?_⟩
  ·clear hD hD1 hr1 hn hn' hy npD F1 s1;rintro σ H3 ⟨D,ns,rfl,hD3,hl,hn,hS,F3,s3⟩;refine ⟨_,rfl,D,rfl,⟨_,gG.of hD3⟩,?_⟩;have h35:=oH hn;refine vN (λi y H'=>∃n,ns[i]?=some n/\bR H' (iJ (lw n ns.sum)) y) (λi y H1 H2 s ⟨n,h1,h2⟩=>⟨n,h1,h2.flat s (zD _)⟩) (by rw [aA];omega) hD3 (λi x H' Q' hx s' k'=>?_) (λD3 ys H8 hD3' hD8 s8 hy8 hr8=>?_)
   ·rw [aS] at hx;obtain ⟨n',hn',rfl⟩:=(show ∃n,ns[i]?=some n/\V.int n=x by
     cases q:ns[i]? with
     | none=>rw [q] at hx;cases hx
     | some n=>rw [q] at hx;cases hx;exact ⟨n,rfl,rfl⟩)
    refine ⟨_,rfl,_,rfl,?_⟩;refine rsI (gG.of (s' _ _ hD3)) ?_;refine nQ hS (aZ (show ns.sum.natAbs<2^10 by show ns.sum.natAbs<1024;omega) (fM Dd Dd)) ?_;intro q9 H9 hq9 e9 s9;exact k' _ H9 s9 ⟨n',hn',jM e9⟩
   ·refine ⟨D3,ys,rfl,.inl ⟨gG.of hD8,λl hl'=>?_⟩⟩;have sl:=aX.upd (o:=.tup ys) hl';have el:(upd H8 l (.tup ys)) l=some (.tup ys):=bL;generalize upd H8 l (.tup ys)=H9 at sl el;refine k _ (ns.map λn=>lw n ns.sum) H9 ((F3.same s8).same sl) (s3.trans (s8.trans sl).but) (bR.tup el ?_) ⟨ns,hl,hn,hS,rfl⟩;refine aL.ofIdx (by rw [hy8,aA,aA,aA]) λi y hi=>?_;obtain ⟨n,h1,h2⟩:=hr8 i y hi;exact ⟨iJ (lw n ns.sum),by rw [aS,aS,h1];rfl,h2.same sl⟩
  ·refine ⟨λb H4=>bP H4 p (n+1)/\aT p H H4/\H4 D=some (.lst (ns.map V.int))/\(b=false->0<ns.sum),?_,?_⟩
   ·refine ⟨_,rfl,?_⟩;refine rsI (gG.of hD1) ?_;refine ⟨rfl,_,rfl,?_⟩;refine lP (λe0=>?_) (λe0=>?_)
    ·exact ⟨F1.less Oo,s1,hD1,λh=>by cases h⟩
    ·refine ⟨_,rfl,?_⟩;refine cQ (n:=n+1) (F1.less Oo) Dd Kk λx H2 x0 x1 F2 s2=>?_;refine ⟨rfl,_,rfl,F2,s1.trans s2,s2.at npD hD1,λ_=>?_⟩;have:=(oH hn').1;have:ns.sum≠0:=λh=>e0 (congrArg V.int h);omega
   ·rintro b H2 ⟨F2,s2,hD2,hS⟩;cases b with
    | false=>exact fB ⟨D,ns,rfl,hD2,Oo,hn',hS rfl,F2.less Oo,s2⟩
    | true =>
     refine eX ?_;refine rJ (by show 1<=64;decide) λq1 H3 hq1 e1 s3=>?_;refine ⟨_,rfl,?_⟩;refine aAF e1 Oo λq2 H4 hq2 e2 s4=>?_;have F4:=(F2.same s3).same s4;have n2:q2≠p:=(F2.same s3).ne hq2;refine ⟨_,rfl,_,rfl,_,rfl,?_⟩;refine cQ F4 Oo (bitsle (bI (show ((m:Int)).natAbs<=5 by omega) Dd)) λx H5 x0 x1 F5 s5=>?_;obtain ⟨b,rfl⟩:∃b:Nat,x=(b:Int):=⟨x.toNat,Oo⟩;have hD5:=s5.at n2 e2;have hj:KO (List.replicate m (V.int 0)).length (b:Int)=some b:=by
      unfold KO;rw [if_pos x0,if_pos (by rw [bX];omega)];rfl
     refine stG hD5 hj λH6 e6 s6=>?_;have e7:(List.replicate m (V.int 0)).set b (V.int 1)=(((List.replicate m (0:Int)).set b 1).map V.int):=by
      rw [List.map_set,List.map_replicate]
     have hm:=KI (k:=m) (b:=b) Oo;have h2:H q2=none:=aT.free s2 F2.there (s3.free hq2);exact ⟨q2,(List.replicate m (0:Int)).set b 1,rfl,by rw [e6,e7],by rw [List.length_set,bX],hm.1,hm.2,F5.but s6 n2,
      aT.thru h2 ((s2.trans (s3.trans s4).but).trans s5) s6⟩
end
@[irreducible] def oJ:Sp:=λvs H Q _=>∃(p:Addr) (n W:Nat) (st pl:Bool),vs=[.ref p,.int (W:Int),.bl st,.bl pl]/\bP H p (n+16)/\2<=W/\W<=4/\∀v fs H',bP H' p n->aT p H H'->bR H' (lO fs) v->kB (1+W) fs->(st=true->fs.head?=some (0,1))->Q v H'
theorem FQ{H:Hp}{Q:VK}{E:XK}{p:Addr}{n W:Nat}{st pl:Bool}(F:bP H p (n+16))(h2:2<=W)(h4:W<=4)(k:∀v fs H',bP H' p n->aT p H H'->bR H' (lO fs) v->kB (1+W) fs->(st=true->fs.head?=some (0,1))->Q v H'):oJ [.ref p,.int (W:Int),.bl st,.bl pl] H Q E:=by
 unfold oJ;exact ⟨p,n,W,st,pl,rfl,F,h2,h4,k⟩
theorem KQ{p n:Nat}(hp:0<p):((ind p (1+n)).map λx=>((x,1):Fr)).head?=some (0,1):=by
 unfold ind;rw [Nat.add_comm,List.range_succ_eq_map,aV,aV,List.head?_cons,if_neg Oo]
theorem VZ{p n i:Nat}(h:i<n):(ind p n)[i]?=some (if (i:Int)=(p:Int) then 1 else 0):=by
 unfold ind;rw [aS,eR h];rfl
abbrev dX(cs:List Int):PyData:=.tuple (cs.map .int)
theorem vG:∀fs:List Int,fZ (fs.map PyData.int)=true
 | []=>rfl
 | f::fs=>by show (fR (.int f)&&fZ (fs.map PyData.int))=true;rw [vG fs];rfl
theorem jN(cs:List Int):fR (dX cs)=true:=vG cs
theorem vT{H:Hp}:∀{ns:List Int}{vs:List V},aL H (ns.map PyData.int) vs->vs=ns.map V.int
 | [],vs,h=>by unfold aL at h;exact h
 | n::ns,vs,h=>by
  unfold aL at h;obtain ⟨x,xs,rfl,h1,h2⟩:=h;cases (show x=V.int n from h1);rw [vT h2];rfl
theorem iO{H:Hp}{cs:List Int}{v:V}(h:bR H (dX cs) v):∃a,v=.ref a/\H a=some (.tup (cs.map V.int)):=by
 unfold bR at h;obtain ⟨a,xs,rfl,h1,h2⟩:=h;cases vT h2;exact ⟨a,rfl,h1⟩
theorem aL.ofInts{H:Hp}:∀ns:List Int,aL H (ns.map PyData.int) (ns.map V.int)
 | []=>aL.nil
 | n::ns=>aL.cons (bR.int _) (aL.ofInts ns)
theorem iE{H:Hp}{cs:List Int}{a:Addr}(h:H a=some (.tup (cs.map V.int))):bR H (dX cs) (.ref a):=bR.tup h (aL.ofInts cs)
structure jO(F W M:Nat):Prop where
 w:2<=W/\W<=4
 f:F=2/\M<=4\/F=3/\M<=3\/F=4/\M<=2
@[irreducible] def lU:Sp:=λvs H Q _=>∃(p:Addr) (n:Nat),vs=[.ref p]/\bP H p (n+3)/\∀q F W M H',jO F W M->bP H' p n->aT p H H'->H' q=some (.tup [.int (F:Nat),.int (W:Nat),.int (M:Nat)])->Q (.ref q) H'
theorem AO{H:Hp}{Q:VK}{E:XK}{p:Addr}{n:Nat}(F:bP H p (n+3))(k:∀q F W M H',jO F W M->bP H' p n->aT p H H'->H' q=some (.tup [.int (F:Nat),.int (W:Nat),.int (M:Nat)])->Q (.ref q) H'):lU [.ref p] H Q E:=by
 unfold lU;exact ⟨p,n,rfl,F,k⟩
section
theorem aA9(F:iK K "_law_says" "_law_says" NL f fd)(T:kR K mg c)
  (FQ9:hU dM P w K mg base 1 "_law_pick" ["_law_tape_here","_law_many"] gT) (FQ14:hU dM P w K mg base 2 "_law_shares" ["_law_tape_here","_law_many"] iW):dP P w K mg base dM 3 f fd ["_law_tape_here","_law_ways","_law_stops","_law_plain"] oJ:=by
 refine F.oky WP λvs H Q E h=>?_;unfold oJ at h;obtain ⟨p,n,W,st,pl,rfl,F,W2,W4,k⟩:=h;refine ⟨rfl,λcdv A outer s hr=>?_⟩;refine ⟨_,(aW (eP (iS (oA (jQ (eE (aJ 3)) (iL (dH jI (cF FQ9 (hr.mono Dd) (aH (aJ 0) (aH aE aC))) aE (nomark _)))))) (aW (cC (i:=4) WP.nd rfl (Or.inr rfl) (bS dU aE (cF FQ9 (hr.mono Dd) (aH (aJ 0) (aH (aJ 1) aC)))))
  (aW (AD (eP (iS (oA (IC (eT (eE (aJ 2))) (CP (dH sV (cF FQ9 (hr.mono Dd) (aH (aJ 0) (aH aE aC))) aE (nomark _)))))) (bG (cC (i:=4) WP.nd rfl (Or.inr rfl) aE)) cR))
  (bG (bV (kC gF (by rfl) T.b_tuple Kk (aH (eZ (eA.of (psc:=bD NL) (N:=["_law_tape_here","_law_ways","_law_stops","_law_plain","_law_place"]) (N':=["_law_k","_law_place"]) (js:=[4]) Kk rfl rfl rfl) (hV rfl T.b_range (aH (bS dU aE (aJ 1)) aC)) (λ_ _ _ _=>gH) (λ_ _ _ _=>(cH (aH (kC HH (by rfl) T.b_int Kk (aH (fG jI (aJ 0) (aJ 1) (nomark _)) aC)) (aH aE aC))))) aC)))))) cR)
  (aW (eP (eE (aJ 2)) (bG (bV (bS (dA K) (cH (aH (cH (aH aE (aH aE aC))) aC)) (cF FQ14 (hr.mono Dd) (aH (aJ 0) (aH (aJ 1) aC)))))) cR)
  (bG (bV (cF FQ14 (hr.mono Dd) (aH (aJ 0) (aH (bS dU aE (aJ 1)) aC))))))),?_⟩
 refine ⟨λb H1=>bP H1 p (n+15)/\aT p H H1,?_,?_⟩
 ·refine ⟨_,rfl,_,rfl,?_⟩;cases pl with
  | true=>exact eX ⟨F.less Oo,(aX.refl _).but⟩
  | false =>
   refine fB ?_;refine ⟨_,rfl,?_⟩;refine cQ (n:=n+15) F Dd Kk λx H2 x0 x1 F2 s2=>?_;exact ⟨rfl,_,rfl,F2,s2⟩
 ·rintro b H1 ⟨F1,s1⟩;cases b with
  | true =>
   refine eX ?_;refine ⟨_,rfl,_,rfl,?_⟩;refine cQ (n:=n+14) F1 Oo (bitsle (bI (show ((W:Int)).natAbs<=5 by omega) Dd)) λx H2 x0 x1 F2 s2=>?_;refine ⟨_,_,rfl,rfl,?_⟩;refine ⟨λσ H3=>∃a:Nat,σ=[some (.ref p),some (.int (W:Int)),some (.bl st),some (.bl pl),some (.int (a:Int))]/\a<1+W/\(st=true->0<a)/\bP H3 p n/\aT p H H3,?_,?_⟩
   ·rintro σ H3 ⟨a,rfl,ha,hs,F3,s3⟩;refine ⟨_,rfl,_,_,rfl,rfl,_,rfl,Oo,Oo,?_⟩;refine mV (λi y H'=>∃z,(ind a (1+W))[i]?=some z/\bR H' (iJ (z,1)) y) (λi y H1 H2 s ⟨z,h1,h2⟩=>⟨z,h1,h2.flat s (zD _)⟩) Oo (λi H' Q' hi s' k'=>?_) (λD ys H4 hD hD4 s4 hy4 hr4=>?_)
    ·refine ⟨_,rfl,_,rfl,rfl,?_⟩;refine .inr ⟨_,rfl,?_⟩;refine mS (by show 2<=64;decide) λq5 H5 hq5 e5 s5=>?_;refine k' _ H5 s5 ⟨_,VZ Oo,?_⟩;refine jM (f:=(if (i:Int)=(a:Int) then 1 else 0,1)) ?_;rw [e5,Int.zero_add];by_cases h:(i:Int)=(a:Int)
     ·rw [if_pos h,if_pos (aM (congrArg V.int h))]
     ·rw [if_neg h,if_neg (by rw [decide_eq_true_eq];exact λz=>h (by injection z))]
    ·refine ⟨D,ys,rfl,.inl ⟨gG.of hD4,λl hl=>?_⟩⟩;have sl:=aX.upd (o:=.tup ys) hl;have el:(upd H4 l (.tup ys)) l=some (.tup ys):=bL;generalize upd H4 l (.tup ys)=H5 at sl el;refine k _ ((ind a (1+W)).map λx=>(x,1)) H5 ((F3.same s4).same sl) (s3.trans (s4.trans sl).but) (bR.tup el ?_) (kB.one ha) (λh=>KQ (hs h));refine aL.ofIdx (by rw [hy4,aA,aA,EC];omega) λi y hi=>?_;obtain ⟨n,h1,h2⟩:=hr4 i y hi;exact ⟨iJ (n,1),by rw [aS,aS,h1];rfl,h2.same sl⟩
   ·refine ⟨λb H3=>bP H3 p n/\aT p H H3/\(b=true->st=false),?_,?_⟩
    ·refine ⟨_,rfl,_,rfl,?_⟩;cases st with
     | true=>exact fB ⟨F2.less Oo,s1.trans s2,λh=>by cases h⟩
     | false =>
      refine eX ?_;refine ⟨_,rfl,?_⟩;refine cQ (n:=n) (F2.less Oo) Dd Kk λy H3 y0 y1 F3 s3=>?_;exact ⟨_,_,rfl,rfl,_,rfl,F3,(s1.trans s2).trans s3,λ_=>rfl⟩
    ·rintro b H3 ⟨F3,s3,hb⟩;cases b with
     | true =>
      refine eX ?_;exact ⟨0,rfl,Oo,(λh=>by rw [hb rfl] at h;cases h),F3,s3⟩
     | false =>
      refine fB ?_;exact ⟨(1+x).toNat,by rw [show (((1+x).toNat:Nat):Int)=1+x by omega];rfl,Oo,λ_=>Oo,F3,s3⟩
  | false =>
   refine fB ?_;refine ⟨_,rfl,_,rfl,?_⟩;cases st with
   | true =>
    refine eX ?_;refine mS (by show 2<=64;decide) λq2 H2 hq2 e2 s2=>?_;refine mS (by show 1<=64;decide) λq3 H3 hq3 e3 s3=>?_;refine ⟨_,rfl,_,rfl,?_⟩;have n3:q3≠p:=(F1.same s2).ne hq3;have n2:q2≠p:=F1.ne hq2;refine qU (n:=n) (m:=W) (((F1.same s2).same s3).less Oo) Oo Oo λv fs H4 F4 s4 r4 ok4=>?_;obtain ⟨a,xs,rfl,ha,rxs⟩:=(by unfold bR at r4;exact r4);have e4:=s4.at n3 e3;have e5:=s4.at n2 (s3 _ _ e2);refine iP e4 ha (by rw [show ([V.ref q2]:List V).length=1 from rfl,rxs.len,aA,ok4.len];omega) λc H5 s5 e6=>?_;refine k _ ((0,1)::fs) H5 (F4.same s5) (((s1.trans (s2.trans s3).but).trans s4).trans s5.but) (bR.tup e6 (aL.cons (jM (f:=(0,1)) (s5 _ _ e5)) (rxs.same s5))) ok4.zero (λ_=>rfl)
   | false =>
    refine fB ?_;refine ⟨_,rfl,_,rfl,_,_,rfl,rfl,?_⟩;have e1:(1+(W:Int))=((1+W:Nat):Int):=Oo;show iW [.ref p,.int (1+(W:Int))] _ _ _;rw [e1];refine qU (n:=n) (m:=1+W) (F1.less Oo) Oo Oo λv fs H4 F4 s4 r4 ok4=>?_;exact k v fs H4 F4 (s1.trans s4) r4 ok4 (λh=>by cases h)
theorem aA7(F:iK K "_law_sizes" "_law_sizes" TV f fd)(T:kR K mg c)
  (FQ9:hU dM P w K mg base 1 "_law_pick" ["_law_tape_here","_law_many"] gT):dP P w K mg base dM 2 f fd ["_law_tape_here"] lU:=by
 refine F.oky WN λvs H Q E h=>?_;unfold lU at h;obtain ⟨p,n,rfl,F,k⟩:=h;refine ⟨rfl,λcdv A outer s hr=>?_⟩;refine ⟨_,(aW (cC (i:=1) WN.nd rfl (Or.inl rfl) (cK cG (dS (aH aE (aH aE (aH aE (aH aE (aH aE (aH aE aC))))))) (cF FQ9 (hr.mono Dd) (aH (aJ 0) (aH aE aC))) (λ_ _=>rfl)))
  (aW (cC (i:=2) WN.nd rfl (Or.inl rfl) (cK cG (cK cG (dS (aH (dS (aH aE (aH aE (aH aE (aH aE (aH aE (aH aE aC))))))) (aH (dS (aH aE (aH aE (aH aE (aH aE (aH aE (aH aE aC))))))) (aH (dS (aH aE (aH aE (aH aE (aH aE (aH aE (aH aE aC))))))) aC)))) (bS pY (aJ 1) aE) (λ_ _=>rfl)) (cF FQ9 (hr.mono Dd) (aH (aJ 0) (aH aE aC))) (λ_ _=>rfl)))
  (bG (bV (cH (aH (aJ 1) (aH (cK cG (dS (aH aE (aH aE (aH aE (aH aE aC))))) (cF FQ9 (hr.mono Dd) (aH (aJ 0) (aH aE aC))) (λ_ _=>rfl)) (aH (aJ 2) aC)))))))),?_⟩
 refine rJ (by show 6<=64;decide) λq1 H1 hq1 e1 s1=>?_;refine ⟨_,rfl,?_⟩;refine cQ (n:=n+2) (F.same s1) Dd Kk λx H2 x0 x1 F2 s2=>?_;obtain ⟨v,hat,hmem,_⟩:=jV (xs:=[V.int 2,V.int 2,V.int 2,V.int 3,V.int 3,V.int 4]) x0 x1;refine xR (s2.at (F.ne hq1) e1) hat ?_;have S2:aT p H H2:=s1.but.trans s2;have hv:∃nF:Nat,v=.int (nF:Int)/\(nF=2\/nF=3\/nF=4):=by
  simp only [aR,List.not_mem_nil,or_false] at hmem;rcases hmem with rfl | rfl | rfl | rfl | rfl | rfl
  ·exact ⟨2,rfl,Dd⟩
  ·exact ⟨2,rfl,Dd⟩
  ·exact ⟨2,rfl,Dd⟩
  ·exact ⟨3,rfl,Dd⟩
  ·exact ⟨3,rfl,Dd⟩
  ·exact ⟨4,rfl,Dd⟩
 obtain ⟨nF,rfl,hF⟩:=hv;clear hat hmem e1 hq1 s1 s2;refine rJ (by show 6<=64;decide) λq2 H3 hq2 e2 s3=>?_;refine rJ (by show 6<=64;decide) λq3 H4 hq3 e3 s4=>?_;refine rJ (by show 6<=64;decide) λq4 H5 hq4 e4 s5=>?_;refine rJ (by show 3<=64;decide) λq5 H6 hq5 e5 s6=>?_;refine ⟨_,rfl,_,_,rfl,rfl,?_⟩;have F6:=(((F2.same s3).same s4).same s5).same s6;have S6:aT p H H6:=S2.trans (((s3.trans s4).trans s5).trans s6).but;have g2:=s6 _ _ (s5 _ _ (s4 _ _ e2));have g3:=s6 _ _ (s5 _ _ e3);have g4:=s6 _ _ e4;have hrow:∃(qq:Addr) (ms:List Int),AC [V.ref q2,V.ref q3,V.ref q4] ((nF:Int)-2)=some (.ref qq)/\H6 qq=some (.lst (ms.map V.int))/\ms.length=6/\∀m∈ms,∃M:Nat,m=(M:Int)/\(nF=2/\M<=4\/nF=3/\M<=3\/nF=4/\M<=2):=by
  rcases hF with rfl | rfl | rfl
  ·refine ⟨q2,[1,2,3,4,0,3],rfl,g2,rfl,λm hm=>⟨m.toNat,?_⟩⟩;simp only [aR,List.not_mem_nil,or_false] at hm;omega
  ·refine ⟨q3,[1,2,3,2,0,2],rfl,g3,rfl,λm hm=>⟨m.toNat,?_⟩⟩;simp only [aR,List.not_mem_nil,or_false] at hm;omega
  ·refine ⟨q4,[1,2,2,1,0,2],rfl,g4,rfl,λm hm=>⟨m.toNat,?_⟩⟩;simp only [aR,List.not_mem_nil,or_false] at hm;omega
 obtain ⟨qq,ms,hat,hqq,hms,hall⟩:=hrow;refine xR e5 hat ?_;refine ⟨_,rfl,?_⟩;refine cQ (n:=n+1) F6 Dd Kk λy H7 y0 y1 F7 s7=>?_;obtain ⟨m,hm⟩:∃m,ms[y.toNat]?=some m:=⟨_,aN Oo⟩;have hat2:AC (ms.map V.int) y=some (.int m):=by
  have:=fK (xs:=ms.map V.int) (j:=y.toNat) (v:=V.int m) (by rw [aS,hm];rfl)
  rwa [Int.toNat_of_nonneg y0] at this
 obtain ⟨M,rfl,hM⟩:=hall m (List.mem_iff_getElem?.mpr ⟨_,hm⟩);refine xR (s7.at (F6.neL hqq) hqq) hat2 ?_;refine ⟨_,rfl,?_⟩;refine rJ (by show 4<=64;decide) λq8 H8 hq8 e8 s8=>?_;refine ⟨_,rfl,?_⟩;refine cQ (n:=n) (F7.same s8) Dd Kk λz H9 z0 z1 F9 s9=>?_;obtain ⟨v,hat3,hmem3,_⟩:=jV (xs:=[V.int 2,V.int 2,V.int 3,V.int 4]) z0 z1;refine xR (s9.at (F7.ne hq8) e8) hat3 ?_;have hv:∃nW:Nat,v=.int (nW:Int)/\(2<=nW/\nW<=4):=by
  simp only [aR,List.not_mem_nil,or_false] at hmem3;rcases hmem3 with rfl | rfl | rfl | rfl
  ·exact ⟨2,rfl,Dd⟩
  ·exact ⟨2,rfl,Dd⟩
  ·exact ⟨3,rfl,Dd⟩
  ·exact ⟨4,rfl,Dd⟩
 obtain ⟨nW,rfl,hW⟩:=hv;refine ⟨_,rfl,?_⟩;refine mS (by show 3<=64;decide) λq10 H10 hq10 e10 s10=>?_;exact k q10 nF nW M H10 ⟨hW,hM⟩ (F9.same s10) ((((S6.trans s7).trans s8.but).trans s9).trans s10.but) e10
end
def bump(cs:List Int)(i:Nat):List Int:=cs.take i++[cs.getD i 0+1]++cs.drop (i+1)
def nexts(cs:List Int)(f:Fr):List (List Int):=if f=(0,1) then [] else (List.range cs.length).map (bump cs)
theorem aL.atX{H:Hp}{α:Type}{g:α->PyData}{as:List α}{xs:List V}(r:aL H (as.map g) xs){i:Nat}{a:α}(h:as[i]?=some a):∃x,xs[i]?=some x/\bR H (g a) x:=by
 induction as generalizing xs i with
 | nil=>simp at h
 | cons b as ih =>
  rw [aV] at r;unfold aL at r;obtain ⟨x,xs',rfl,r1,r2⟩:=r;cases i with
  | zero=>cases (show b=a by simpa using h);exact ⟨x,rfl,r1⟩
  | succ i=>exact ih r2 (by simpa using h)
theorem IZ{H:Hp}{fs:List Fr}{v:V}(h:bR H (lO fs) v):∃a xs,v=.ref a/\H a=some (.tup xs)/\aL H (fs.map iJ) xs:=by
 unfold bR at h;exact h
theorem iF{K:PySem.W.Frag}{H:Hp}{a:Addr}{xs:List V}{k:Nat}{z:Int}{Q:VK}(hz:z=(k:Int))(h:H a=some (.tup xs))(q:∀c H',aX H H'->H' c=some (.tup (xs.drop k))->Q (.ref c) H'):sR K (.ref a) (some z) none H Q:=by
 subst hz;exact IX h q
@[irreducible] def mO:Sp:=λvs H Q _=>∃(x y:V) (cs:List Int) (f:Fr) (fs:List Fr),vs=[x,y]/\bR H (dX cs) x/\bR H (lO (f::fs)) y/\cs.length<=4/\fs.length<=4 /\
 ∀D ys H',H D=none->H' D=some (.lst ys)->aL H' ((nexts cs f).map dX) ys->aX H H'->Q (.ref D) H'
theorem uR{H:Hp}{Q:VK}{E:XK}{x y:V}{cs:List Int}{f:Fr}{fs:List Fr}(h1:bR H (dX cs) x)(h2:bR H (lO (f::fs)) y)(h3:cs.length<=4)(h4:fs.length<=4)
  (k:∀D ys H',H D=none->H' D=some (.lst ys)->aL H' ((nexts cs f).map dX) ys->aX H H'->Q (.ref D) H'):mO [x,y] H Q E:=by
 unfold mO;exact ⟨x,y,cs,f,fs,rfl,h1,h2,h3,h4,k⟩
theorem PX(x y:Int):PyData.eqv (.int x) (.int y)=decide (x=y):=by
 show (x == y)=_;rw [Bool.beq_eq_decide_eq]
theorem zE:∀a b:List Int,PyData.eqvAll (a.map PyData.int) (b.map PyData.int)=decide (a=b)
 | [],[]=>by simp [PyData.eqvAll]
 | [],_::_=>by simp [PyData.eqvAll]
 | _::_,[]=>by simp [PyData.eqvAll]
 | x::a,y::b=>by
  have ih:=zE a b;rw [aV,aV];show (PyData.eqv (.int x) (.int y)&&PyData.eqvAll _ _)=_;rw [ih,PX];by_cases h:x=y <;> by_cases h':a=b <;> simp [h,h']
theorem WG(a b:List Int):PyData.eqv (dX a) (dX b)=decide (a=b):=zE a b
theorem xA(f g:Fr):PyData.eqv (iJ f) (iJ g)=decide (f=g):=by
 have h:=WG [f.1,f.2] [g.1,g.2];refine (show PyData.eqv (iJ f) (iJ g)=_ from h).trans ?_;obtain ⟨f1,f2⟩:=f;obtain ⟨g1,g2⟩:=g;simp
section
theorem oQ8(F:iK K "_law_next" "_law_next" sQ8 f fd)(T:kR K mg c):dP P w K mg base dM 1 f fd ["_law_counts","_law_says_here"] mO:=by
 refine F.oky cQ8 λvs H Q E h=>?_;unfold mO at h;obtain ⟨x,y,cs,g,fs,rfl,rx,ry,h4,h5,k⟩:=h;refine ⟨rfl,λcdv A outer s hr=>?_⟩;obtain ⟨a,rfl,ha⟩:=iO rx;obtain ⟨b,xs,rfl,hb,rxs⟩:=IZ ry;obtain ⟨z,hz,rz⟩:=aL.atX (as:=g::fs) rxs (i:=0) (a:=g) rfl;refine ⟨_,(aW (eP (dH (nR hr.units) (cK cG (aJ 1) aE (λ_ _=>rfl)) (cH (aH aE (aH aE aC))) (nomark _)) (bG (bV (dS aC))) cR)
  (bG (bV (eZ (eA.of (psc:=bD sQ8) (N:=["_law_counts","_law_says_here"]) (N':=["_law_face","_law_counts"]) (js:=[0]) Kk rfl rfl rfl) (hV rfl T.b_range (aH (cS fS (by rfl) T.b_len Kk (aH (aJ 0) aC)) aC)) (λ_ _ _ _=>gH) (λ_ _ _ _=>(bS (dA K) (bS (dA K) (cM (cY K) (aJ 1) cX (cT (aJ 0))) (cH (aH (bS dU (cK (oZ K) (aJ 1) (aJ 0) (λ_ _=>rfl)) aE) aC))) (cM (cY K) (aJ 1) (cT (bS dU (aJ 0) aE)) cX))))))),?_⟩
 refine ⟨_,rfl,?_⟩;refine xQ hb (v:=z) (by
  have:=fK (xs:=xs) (j:=0) (v:=z) hz;exact this) ?_
 refine mS (by show 2<=64;decide) λq1 H1 hq1 e1 s1=>?_;have r1:bR H1 (iJ (0,1)) (.ref q1):=jM e1;refine NQ (rz.same s1) r1 rfl rfl ?_;rw [xA];refine ⟨_,rfl,?_⟩;rw [Bool.true_beq];refine lP (λeg=>?_) (λeg=>?_)
 ·refine rJ (by show 0<=64;decide) λq2 H2 hq2 e2 s2=>?_;refine k q2 [] H2 (s1.free hq2) e2 ?_ (s1.trans s2);unfold nexts;rw [if_pos eg];exact aL.nil
 ·refine ⟨_,rfl,?_⟩;refine NP (s1 _ _ ha) ?_;rw [aA];refine ⟨_,rfl,Oo,Oo,?_⟩;refine mV (λi y H'=>i<cs.length/\bR H' (dX (bump cs i)) y) (λi y H1 H2 s ⟨h1,h2⟩=>⟨h1,h2.flat s (jN _)⟩) Oo (λi H' Q' hi s' k'=>?_) (λD ys H4 hD hD4 s4 hy4 hr4=>?_)
  ·rw [Int.zero_add];have hi':i<cs.length:=Oo;have ha':=s' _ _ (s1 _ _ ha);refine ⟨_,rfl,_,rfl,_,rfl,?_⟩;refine jH ha' λc2 H2 s2 e2=>?_;refine ⟨_,rfl,_,rfl,?_⟩;have hat:AC (cs.map V.int) (i:Int)=some (.int (cs.getD i 0)):=fK (by rw [aS,bJ,aN hi'];rfl);refine xQ (s2 _ _ ha') hat ?_;refine ⟨_,_,rfl,rfl,?_⟩;refine mS (by show 1<=64;decide) λc3 H3 hc3 e3 s3=>?_;refine iP (s3 _ _ e2) e3 (by rw [bA,aA];show min i cs.length+1<=1000;omega) λc4 H4 s4 e4=>?_;refine ⟨_,rfl,_,rfl,_,_,rfl,rfl,?_⟩;refine ⟨_,rfl,?_⟩;refine iF (k:=i+1) Oo (s4 _ _ (s3 _ _ (s2 _ _ ha'))) λc5 H5 s5 e5=>?_;refine iP (s5 _ _ e4) e5 (by rw [aI,bA,List.length_drop,aA];show min i cs.length+1+(cs.length-(i+1))<=1000;omega) λc6 H6 s6 e6=>?_;refine k' _ H6 ((((s2.trans s3).trans s4).trans s5).trans s6) ⟨hi',iE ?_⟩;rw [e6];unfold bump;rw [bM,bM,List.map_take,List.map_drop]
   rfl
  ·refine k D ys H4 (s1.free hD) hD4 ?_ (s1.trans s4);unfold nexts;rw [if_neg eg];refine aL.ofIdx (by rw [hy4,aA,aA,cE];omega) λi y hi=>?_;obtain ⟨h1,h2⟩:=hr4 i y hi;exact ⟨dX (bump cs i),by rw [aS,aS,eR h1];rfl,h2⟩
end
theorem eJ{α:Type}[DecidableEq α]:∀{l m:List α},l.Nodup->(∀x∈l,x∈m)->l.length<=m.length
 | [],m,_,_=>cB _
 | x::l,m,h,hs=>by
  rw [List.nodup_cons] at h;have hx:=hs x (aF ..);have h1:=eJ (l:=l) (m:=m.erase x) h.2 λy hy=>(List.mem_erase_of_ne (λe=>by subst e;exact h.1 hy)).mpr (hs y (aD _ hy));rw [List.length_erase_of_mem hx] at h1;have:0<m.length:=List.length_pos_of_mem hx;rw [bF];omega
def CH:Nat->Nat->List (List Int)
 | 0,m=>if m=0 then [[]] else []
 | F+1,m=>(List.range (m+1)).flatMap λk=>(CH F (m-k)).map λc=>((k:Nat):Int)::c
theorem jY:∀{c:List Int},(∀x∈c,0<=x)->0<=c.sum
 | [],_=>by simp
 | x::c,h=>by
  have h1:=jY (c:=c) λy hy=>h y (aD _ hy);have h2:=h x (aF ..);rw [List.sum_cons];omega
theorem zX:∀{F m:Nat}{c:List Int},c.length=F->(∀x∈c,0<=x)->c.sum=(m:Int)->c∈CH F m
 | 0,m,c,hl,_,hs=>by
  cases c with
  | nil =>
   rw [List.sum_nil] at hs;unfold CH;rw [if_pos Oo];exact aF ..
  | cons _ _=>simp at hl
 | F+1,m,c,hl,hn,hs=>by
  cases c with
  | nil=>simp at hl
  | cons x c =>
   have h2:=hn x (aF ..);have hn':∀y∈c,0<=y:=λy hy=>hn y (aD _ hy);have h1:=jY hn';rw [List.sum_cons] at hs;unfold CH;refine List.mem_flatMap.mpr ⟨x.toNat,cU.mpr Oo,aU.mpr ⟨c,zX (by simpa using hl) hn' Oo,?_⟩⟩;rw [show ((x.toNat:Nat):Int)=x by omega]
structure HV(F:Nat)(j:Nat)(c:List Int):Prop where
 len:c.length=F
 nn:∀x∈c,0<=x
 sum:c.sum=(j:Int)
structure pN(F:Nat)(j:Nat)(cs:List (List Int)):Prop where
 nd:cs.Nodup
 each:∀c∈cs,HV F j c
theorem PH:(∀m≤4,(CH 2 m).length<64)/\(∀m≤3,(CH 3 m).length<64)/\(∀m≤2,(CH 4 m).length<64):=Dd
theorem pN.few{F W M j:Nat}{cs:List (List Int)}(h:pN F j cs)(z:jO F W M)(hj:j<=M):cs.length<64:=by
 have h1:=eJ h.nd λc hc=>zX (h.each c hc).len (h.each c hc).nn (h.each c hc).sum;obtain ⟨l2,l3,l4⟩:=PH;rcases z.f with ⟨rfl,hM⟩ | ⟨rfl,hM⟩ | ⟨rfl,hM⟩
 ·exact bI h1 (l2 j Oo)
 ·exact bI h1 (l3 j Oo)
 ·exact bI h1 (l4 j Oo)
theorem pI{cs:List Int}{i:Nat}(h:i<cs.length):bump cs i=cs.set i (cs.getD i 0+1):=by
 unfold bump;rw [List.set_eq_take_append_cons_drop,if_pos h,List.append_assoc];rfl
theorem QM{F j:Nat}{c:List Int}(h:HV F j c){i:Nat}(hi:i<c.length):HV F (j+1) (bump c i):=by
 have hg:c.getD i 0∈c:=by
  rw [bJ,aN hi];exact List.getElem_mem hi
 refine ⟨by rw [pI hi,List.length_set];exact h.len,λx hx=>?_,?_⟩
 ·rw [pI hi] at hx;rcases List.mem_or_eq_of_mem_set hx with hx | rfl
  ·exact h.nn x hx
  ·have:=h.nn _ hg;omega
 ·have e:c=c.take i++[c.getD i 0]++c.drop (i+1):=by
   have e1:c.getD i 0=c[i]:=by rw [bJ,aN hi];rfl
   rw [e1,List.append_assoc,List.singleton_append,<-List.drop_eq_getElem_cons hi,List.take_append_drop]
  have hs:=h.sum;have e2:c.sum=(c.take i).sum+c.getD i 0+(c.drop (i+1)).sum:=by
   conv=>lhs;rw [e]
   rw [List.sum_append,List.sum_append,List.sum_singleton]
  unfold bump;rw [List.sum_append,List.sum_append,List.sum_singleton];omega
theorem LT{c:List Int}{i k:Nat}(hi:i<c.length)(hk:k<c.length)(e:bump c i=bump c k):i=k:=by
 by_cases h:i=k
 ·exact h
 ·rw [pI hi,pI hk] at e;have e1:=congrArg (λl=>l[i]?) e;rw [List.getElem?_set_self (by simpa using hi),List.getElem?_set_ne (Ne.symm h),aN hi,bJ,aN hi] at e1;injection e1 with e1;exact absurd e1 (by show ¬(c[i]+1=c[i]);omega)
theorem oU{α β:Type}{f:α->β}:∀{l:List α},l.Nodup->(∀x∈l,∀y∈l,f x=f y->x=y)->(l.map f).Nodup
 | [],_,_=>List.nodup_nil
 | x::l,h,k=>by
  rw [List.nodup_cons] at h;rw [aV,List.nodup_cons];refine ⟨λhm=>?_,oU h.2 λa ha b hb=>k a (aD _ ha) b (aD _ hb)⟩;obtain ⟨y,hy,e⟩:=aU.mp hm;have:=k y (aD _ hy) x (aF ..) e;subst this;exact h.1 hy
theorem yP{F j:Nat}{c:List Int}(h:HV F j c)(f:Fr):pN F (j+1) (nexts c f):=by
 unfold nexts;split
 ·exact ⟨List.nodup_nil,λc hc=>by cases hc⟩
 ·refine ⟨oU List.nodup_range λx hx y hy e=>LT (by simpa using hx) (by simpa using hy) e,λd hd=>?_⟩;obtain ⟨i,hi,rfl⟩:=aU.mp hd;exact QM h (by simpa using hi)
theorem pN.more{F j:Nat}{ls ms:List (List Int)}(h1:pN F j ls)(h2:pN F j ms):pN F j (ls++ms.filter λc=>!decide (c∈ls)):=by
 refine ⟨List.nodup_append.mpr ⟨h1.nd,h2.nd.filter _,λa ha b hb e=>?_⟩,λc hc=>?_⟩
 ·subst e;have:=(dC.mp hb).2;simp [ha] at this
 ·rcases bE.mp hc with hc | hc
  ·exact h1.each c hc
  ·exact h2.each c (dC.mp hc).1
theorem pN.perm{F j:Nat}{ls ms:List (List Int)}(h:pN F j ls)(p:ms.Perm ls):pN F j ms:=⟨p.nodup_iff.mpr h.nd,λc hc=>h.each c (p.mem_iff.mp hc)⟩
theorem DN{α:Type}(d:α){cs:List α}{ix:List Nat}(h:ix.Perm (List.range cs.length)):(ix.map λi=>cs.getD i d).Perm cs:=by
 have h1:=h.map λi=>cs.getD i d;have e:(List.range cs.length).map (λi=>cs.getD i d)=cs:=by
  apply List.ext_getElem?;intro i;rw [aS];by_cases hi:i<cs.length
  ·rw [eR hi,aN hi,Option.map_some,bJ,aN hi];rfl
  ·rw [dO (by simpa using hi),dO Oo];rfl
 rwa [e] at h1
abbrev dB:=List Int × List Fr
abbrev jZ(e:dB):PyData:=.tuple [dX e.1,lO e.2]
abbrev CZ(es:List dB):PyData:=.tuple (es.map jZ)
theorem tX(e:dB):fR (jZ e)=true:=by
 show (fR (dX e.1)&&(fR (lO e.2)&&true))=true;rw [jN,mG];rfl
def hd(fs:List Fr):Fr:=fs.headD (0,1)
structure XH(F:Nat)(es:List dB)(cs:List (List Int)):Prop where
 fwd:∀e∈es,∀c∈nexts e.1 (hd e.2),c∈es.map (·.1)\/c∈cs
 bwd:∀c,c∈es.map (·.1)\/c∈cs->c=List.replicate F 0\/∃e∈es,c∈nexts e.1 (hd e.2)
 zero:List.replicate F 0∈es.map (·.1)\/List.replicate F 0∈cs
def qR(ls:List (List Int))(ne:List dB):Prop:=∀c,c∈ls ↔ ∃e∈ne,c∈nexts e.1 (hd e.2)
theorem qR.more{ls:List (List Int)}{ne:List dB}{e:dB}(h:qR ls ne):qR (ls++(nexts e.1 (hd e.2)).filter λc=>!decide (c∈ls)) (ne++[e]):=λc=>by
 rw [bE,dC];constructor
 ·rintro (hl | ⟨hc,_⟩)
  ·obtain ⟨a,ha,hc⟩:=(h c).mp hl;exact ⟨a,bO _ ha,hc⟩
  ·exact ⟨e,aG _ (aP.mpr rfl),hc⟩
 ·rintro ⟨a,ha,hc⟩;rcases bE.mp ha with ha | ha
  ·exact .inl ((h c).mpr ⟨a,ha,hc⟩)
  ·rw [aP] at ha;subst ha;by_cases hl:c∈ls
   ·exact .inl hl
   ·exact .inr ⟨hc,by simp [hl]⟩
theorem XH.step{F:Nat}{es ne:List dB}{cs cs2 ls:List (List Int)}(h:XH F es cs)(hp:cs2.Perm cs)(hm:ne.map (·.1)=cs2)(hl:qR ls ne):XH F (es++ne) ls:=by
 have hk:∀c,c∈(es++ne).map (·.1)↔c∈es.map (·.1)\/c∈cs:=λc=>by rw [bM,bE,hm,hp.mem_iff]
 refine ⟨λe he c hc=>?_,λc hc=>?_,.inl ((hk _).mpr h.zero)⟩
 ·rcases bE.mp he with he | he
  ·exact .inl ((hk c).mpr (h.fwd e he c hc))
  ·exact .inr ((hl c).mpr ⟨e,he,hc⟩)
 ·rcases hc with hc | hc
  ·rcases h.bwd c ((hk c).mp hc) with h0 | ⟨e,he,h1⟩
   ·exact .inl h0
   ·exact .inr ⟨e,bO _ he,h1⟩
  ·obtain ⟨e,he,h1⟩:=(hl c).mp hc;exact .inr ⟨e,aG _ he,h1⟩
def rk(a b:List Int):Prop:=a.sum<b.sum\/a.sum=b.sum/\eV a b=true
structure iU(F W M:Nat)(es:List dB):Prop where
 ne:es≠[]
 nd:(es.map (·.1)).Nodup
 each:∀e∈es,e.1.length=F/\(∀x∈e.1,0<=x)/\e.1.sum<=(M:Int)/\kB (1+W) e.2
 asc:(es.map λe=>e.1.sum).Pairwise (· <= ·)
 len:es.length<=320
 clo:XH F es []
 rise:(es.map (·.1)).Pairwise rk
structure MA(F W M j:Nat)(es:List dB):Prop where
 nd:(es.map (·.1)).Nodup
 each:∀e∈es,e.1.length=F/\(∀x∈e.1,0<=x)/\e.1.sum<(j:Int)/\e.1.sum<=(M:Int)/\kB (1+W) e.2
 asc:(es.map λe=>e.1.sum).Pairwise (· <= ·)
 len:es.length<=64*j
 rise:(es.map (·.1)).Pairwise rk
structure zY(F W M j:Nat)(es0 es:List dB)(cs:List (List Int)):Prop where
 ex:∃ne:List dB,es=es0++ne/\ne.map (·.1)=cs/\∀e∈ne,kB (1+W) e.2
theorem zY.done{F W M j:Nat}{es0 es:List dB}{cs:List (List Int)}(h0:MA F W M j es0)(h:zY F W M j es0 es cs)(l:pN F j cs)(hj:j<=M)(hl:cs.length<=64)(hx:cs.Pairwise λa b=>eV a b=true):MA F W M (j+1) es:=by
 obtain ⟨ne,rfl,hm,hs⟩:=h.ex;have hin:∀e∈ne,HV F j e.1:=λe he=>l.each e.1 (hm ▸ List.mem_map_of_mem he);refine ⟨?_,λe he=>?_,?_,?_,?_⟩
 ·rw [bM];refine List.nodup_append.mpr ⟨h0.nd,hm ▸ l.nd,λa ha b hb e=>?_⟩;subst e;obtain ⟨e1,m1,rfl⟩:=aU.mp ha;have:=(h0.each e1 m1).2.2.1;rw [hm] at hb;have:=(l.each _ hb).sum;omega
 ·rcases bE.mp he with he | he
  ·obtain ⟨a1,a2,a3,a4,a5⟩:=h0.each e he;exact ⟨a1,a2,Oo,a4,a5⟩
  ·have c:=hin e he;have:=c.sum;exact ⟨c.len,c.nn,Oo,Oo,hs e he⟩
 ·rw [bM];refine List.pairwise_append.mpr ⟨h0.asc,?_,λa ha b hb=>?_⟩
  ·have:∀x∈ne.map (λe=>e.1.sum),x=(j:Int):=λx hx=>by
    obtain ⟨e,he,rfl⟩:=aU.mp hx;exact (hin e he).sum
   exact List.pairwise_of_forall_mem_list λa ha b hb=>by rw [this a ha,this b hb];exact Int.le_refl _
  ·obtain ⟨e1,m1,rfl⟩:=aU.mp ha;obtain ⟨e2,m2,rfl⟩:=aU.mp hb;have:=(h0.each e1 m1).2.2.1;have:=(hin e2 m2).sum;omega
 ·have hne:ne.length=cs.length:=by rw [<-hm,aA]
  have:=h0.len;rw [aI];omega
 ·rw [bM,hm];refine List.pairwise_append.mpr ⟨h0.rise,hx.imp_of_mem λha hb h=>.inr ⟨((l.each _ ha).sum).trans ((l.each _ hb).sum).symm,h⟩,λa ha b hb=>?_⟩;obtain ⟨e1,m1,rfl⟩:=aU.mp ha;have:=(h0.each e1 m1).2.2.1;have:=(l.each b hb).sum;exact .inl Oo
theorem MA.rule{F W M j:Nat}{es:List dB}(h:MA F W M j es)(hj:j<=5)(hne:es≠[])(cl:XH F es []):iU F W M es :=
 ⟨hne,h.nd,λe he=>⟨(h.each e he).1,(h.each e he).2.1,(h.each e he).2.2.2.1,(h.each e he).2.2.2.2⟩,h.asc,by have:=h.len;omega,cl,h.rise⟩
@[irreducible] def oK:Sp:=λvs H Q _=>∃(p:Addr) (n F W M:Nat) (pl:Bool),vs=[.ref p,.int (F:Int),.int (W:Int),.int (M:Int),.bl pl]/\bP H p (n+8192)/\jO F W M/\∀v es H',bP H' p n->aT p H H'->bR H' (CZ es) v->iU F W M es->Q v H'
theorem FR{H:Hp}{Q:VK}{E:XK}{p:Addr}{n F W M:Nat}{pl:Bool}(T:bP H p (n+8192))(z:jO F W M)(k:∀v es H',bP H' p n->aT p H H'->bR H' (CZ es) v->iU F W M es->Q v H'):oK [.ref p,.int (F:Int),.int (W:Int),.int (M:Int),.bl pl] H Q E:=by
 unfold oK;exact ⟨p,n,F,W,M,pl,rfl,T,z,k⟩
theorem kL(cs:List (List Int)):SeqAt.shaped (.list (cs.map dX))=true:=by
 have hl:∀cs:List (List Int),PyData.canLayAll0 (cs.map dX)=true:=λcs=>by
  induction cs with
  | nil=>rfl
  | cons c cs ih =>
   show (PyData.canLay0 (dX c)&&PyData.canLayAll0 (cs.map dX))=true;rw [ih,show PyData.canLay0 (dX c)=PyData.canLayAll0 (c.map .int) from rfl,oY];rfl
 have hd:∀cs:List (List Int),PyData.depthAll (cs.map dX)<=2:=λcs=>by
  induction cs with
  | nil=>show 0<=2;omega
  | cons c cs ih =>
   show max (PyData.depth (dX c)) (PyData.depthAll (cs.map dX))<=2;have:=vL c;have:PyData.depth (dX c)<=2:=by simp only [PyData.depth];omega
   omega
 unfold SeqAt.shaped;rw [show PyData.canLay0 (.list (cs.map dX))=PyData.canLayAll0 (cs.map dX) from rfl,hl,Bool.true_and,decide_eq_true_eq];have:=hd cs;simp only [PyData.depth];omega
theorem PV(cs:List (List Int)):PyData.eqv (.list (cs.map dX)) (.list [])=decide (cs=[]):=by
 cases cs with
 | nil=>rfl
 | cons c cs=>show PyData.eqvAll (dX c::cs.map dX) []=_;simp [PyData.eqvAll]
theorem fE:∀cs:List (List Int),fZ (cs.map dX)=true
 | []=>rfl
 | c::cs=>by show (fR (dX c)&&fZ (cs.map dX))=true;rw [jN,fE cs];rfl
theorem fD:∀es:List dB,fZ (es.map jZ)=true
 | []=>rfl
 | e::es=>by show (fR (jZ e)&&fZ (es.map jZ))=true;rw [tX,fD es];rfl
theorem DD{H:Hp}{cs:List (List Int)}{ws:List V}(r:aL H (cs.map dX) ws):∀ix:List Nat,(∀i∈ix,i<cs.length)->aL H ((ix.map λi=>cs.getD i []).map dX) (ix.map λi=>ws.getD i .non)
 | [],_=>aL.nil
 | i::ix,h=>by
  have hi:=h i (aF ..);obtain ⟨x,hx,rx⟩:=aL.atX r (i:=i) (a:=cs[i]) (by simp [hi]);have e1:cs.getD i []=cs[i]:=by simp [hi]
  have e2:ws.getD i .non=x:=by rw [bJ,hx];rfl
  refine aL.cons ?_ (DD r ix λj hj=>h j (aD _ hj));show bR H (dX (cs.getD i [])) (ws.getD i .non);rw [e1,e2];exact rx
theorem zY.snoc{F W M j:Nat}{es0 es:List dB}{cs:List (List Int)}{c:List Int}{fs:List Fr}(h:zY F W M j es0 es cs)(ok:kB (1+W) fs):zY F W M j es0 (es++[(c,fs)]) (cs++[c]):=by
 obtain ⟨ne,rfl,hm,hs⟩:=h.ex;refine ⟨ne++[(c,fs)],by rw [List.append_assoc],by rw [bM,hm];rfl,λe he=>?_⟩;rcases bE.mp he with he | he
 ·exact hs e he
 ·rw [aP] at he;subst he;exact ok
theorem zY.len{F W M j:Nat}{es0 es:List dB}{cs:List (List Int)}(h:zY F W M j es0 es cs):es.length=es0.length+cs.length:=by
 obtain ⟨ne,rfl,hm,hs⟩:=h.ex;rw [aI,<-hm,aA]
section
theorem aBa(F:iK K "_law_rule" "_law_rule" NM f fd)(T:kR K mg c)
  (FQ13:hU dM P w K mg base 3 "_law_says" ["_law_tape_here","_law_ways","_law_stops","_law_plain"] oJ) (FQ8:hU dM P w K mg base 1 "_law_next" ["_law_counts","_law_says_here"] mO):dP P w K mg base dM 4 f fd ["_law_tape_here","_law_faces","_law_ways","_law_most","_law_plain"] oK:=by
 refine F.oky CF λvs H Q E h=>?_;unfold oK at h;obtain ⟨p,n,F,W,M,pl,rfl,TP,Z,k⟩:=h;refine ⟨rfl,λcdv A outer s hr=>?_⟩;refine ⟨_,(aW (cC (i:=5) CF.nd rfl (Or.inl rfl) (dS aC))
  (aW (cC (i:=6) CF.nd rfl (Or.inl rfl) (dS (aH (bS wQ (cH (aH aE aC)) (aJ 1)) aC)))
  (aW (oB PassesOwn.never (dH (KA hr.units) (aJ 6) (dS aC) (nomark _)) (aW (cC (i:=7) CF.nd rfl (Or.inr rfl) (dS aC))
  (aW (jW PassesOwn.never rfl (kU (cS (WJ K) (by rfl) T.b_sorted Kk (aH (aJ 6) aC))) (eK (i:=8) CF.nd rfl (Or.inl rfl)) (aW (cC (i:=9) CF.nd rfl (Or.inl rfl) (cF FQ13 (hr.mono Dd) (aH (aJ 0) (aH (aJ 2) (aH (fG jI (cS (xG K rfl) (by rfl) T.b_sum Kk (aH (aJ 8) aC)) (aJ 3) (nomark _)) (aH (aJ 4) aC))))))
  (aW (vU (II PySem.F.plainAttrs_list PySem.F.slot_list_append PySem.F.type_list_append VE (aJ 5) (aH (cH (aH (aJ 8) (aH (aJ 9) aC))) aC)))
  (bG (vU (II PySem.F.plainAttrs_list PySem.F.slot_list_extend PySem.F.type_list_extend KH (aJ 7) (aH (eZ (eA.of (psc:=bD NM) (N:=["_law_tape_here","_law_faces","_law_ways","_law_most","_law_plain","_law_found","_law_level","_law_later","_law_counts","_law_says_here"]) (N':=["_law_one","_law_later"]) (js:=[7]) Kk rfl rfl rfl) (kU (cF FQ8 (hr.mono Dd) (aH (aJ 8) (aH (aJ 9) aC)))) (λ_ _ _ _=>rS (dH (GI K hr.units) (aJ 0) (aJ 1) (by with_unfolding_all rfl))) (λ_ _ _ _=>(aJ 0))) aC)))))))
  (bG (cC (i:=6) CF.nd rfl (Or.inl rfl) (aJ 7))))))
  (bG (bV (kC gF (by rfl) T.b_tuple Kk (aH (aJ 5) aC))))))),?_⟩
 refine rJ (by show 0<=64;decide) λfo H1 hfo e1 s1=>?_;refine mS (by show 1<=64;decide) λq2 H2 hq2 e2 s2=>?_;refine ⟨_,rfl,?_⟩;have hF:2<=F/\F<=4:=by have:=Z.f;omega
 refine VD e2 hF.1 Oo λq3 H3 s3 e3=>?_;refine rJ (by show 1<=64;decide) λle H4 hle e4 s4=>?_;have nlf:fo≠p:=TP.ne hfo;have F4:=(((TP.same s1).same s2).same s3).same s4;have S4:aT p H H4:=((((s1.trans s2).trans s3).trans s4)).but;have rz:bR H4 (dX (List.replicate F 0)) (.ref q3):=iE (by rw [s4 _ _ e3,List.map_replicate]);have ok0:HV F 0 (List.replicate F 0):=⟨bX,λx hx=>by have:=List.eq_of_mem_replicate hx;omega,by
  have:∀k:Nat,(List.replicate k (0:Int)).sum=0:=λk=>by
   induction k with
   | zero=>rfl
   | succ k ih=>rw [List.replicate_succ,List.sum_cons,ih];rfl
  rw [this];rfl⟩
 have e1':=s4 _ _ (s3 _ _ (s2 _ _ e1));have hle0:H le=none:=((s1.trans s2).trans s3).free hle;have nlp:le≠p:=TP.ne hle0;have nfl:le≠fo:=λe=>by subst e;rw [s3 _ _ (s2 _ _ e1)] at hle;cases hle
 refine rV (λm σ H'=>∃(j:Nat) (le:Addr) (o7 o8 o9:Option V) (vs ws:List V) (es:List dB) (cs:List (List Int)),σ=[some (.ref p),some (.int (F:Int)),some (.int (W:Int)),some (.int (M:Int)),some (.bl pl),some (.ref fo),some (.ref le),o7,o8,o9] /\
   m=6-j/\j<=M+1/\(j<=M\/cs=[])/\(j=0->cs≠[])/\(0<j->es≠[])/\bP H' p (n+1024*(6-j))/\aT p H H'/\H' fo=some (.lst vs)/\aL H' (es.map jZ) vs/\H' le=some (.lst ws)/\aL H' (cs.map dX) ws/\H le=none/\le≠fo/\pN F j cs/\MA F W M j es/\XH F es cs)
  (λσ H'=>∃(le:Addr) (o7 o8 o9:Option V) (vs:List V) (es:List dB),σ=[some (.ref p),some (.int (F:Int)),some (.int (W:Int)),some (.int (M:Int)),some (.bl pl),some (.ref fo),some (.ref le),o7,o8,o9]/\bP H' p n/\aT p H H'/\H' fo=some (.lst vs)/\aL H' (es.map jZ) vs/\iU F W M es)
  6 ⟨0,le,none,none,none,[],_,[],[List.replicate F 0],rfl,rfl,Oo,.inl Oo,λ_ h=>by (cases h),λh=>Oo,F4.less Oo,S4,e1',aL.nil,e4,aL.cons rz aL.nil,hle0,nfl,⟨by simp,λc hc=>by (rw [aP] at hc;subst hc;exact ok0)⟩,⟨List.nodup_nil,λe he=>by (cases he),List.Pairwise.nil,cB _,List.Pairwise.nil⟩,⟨λe he=>by (cases he),λc hc=>.inl (by simpa using hc),.inr (by simp)⟩⟩ ?_ ?_
 ·clear e1 e2 e3 e4 s1 s2 s3 s4 F4 S4 rz ok0 e1' hle0 nlp nfl hle hq2;rintro m σ H1 ⟨j,le,o7,o8,o9,vs,ws,es,cs,rfl,rfl,hj,hjc,hj0,hes,F1,S1,hfo1,rfo,hle1,rle,hle0,nfl,LV,RT,CL⟩;have nlp:le≠p:=TP.ne hle0;refine ⟨_,rfl,?_⟩;refine rJ (by show 0<=64;decide) λq5 H5 hq5 e5 s5=>?_;refine NQ (bR.lst (s5 _ _ hle1) (rle.same s5)) (bR.lst e5 aL.nil) (kL cs) rfl ?_;rw [PV];refine ⟨_,rfl,?_⟩;have hM:M<=4:=by have:=Z.f;omega
  by_cases hc:cs=[]
  ·rw [aM hc];refine fB ⟨le,o7,o8,o9,vs,es,rfl,(F1.same s5).less Oo,S1.trans s5.but,s5 _ _ hfo1,rfo.same s5,RT.rule Oo (hes ?_) (hc ▸ CL)⟩;have:j≠0:=λe=>hj0 e hc;omega
  ·rw [bH hc];refine eX ?_;have hjM:j<=M:=by
    rcases hjc with h | h
    ·exact h
    ·exact absurd h hc
   have few:=LV.few Z hjM;have lw':ws.length=cs.length:=by rw [rle.len,aA]
   refine rJ (by show 0<=64;decide) λla H6 hla e6 s6=>?_;refine ⟨_,rfl,?_⟩;have s16:=s5.trans s6;refine rsrt (cs:=cs) (gG.of (s16 _ _ hle1)) (rle.same s16) (λc hc' h=>by have:=(LV.each c hc').len;rw [h] at this;simp at this;omega) Oo λso ix H7 hix hlx hso e7 s7=>?_;rw [lw'] at hix;have hixl:∀i∈ix,i<cs.length:=λi hi=>by have:=hix.mem_iff.mp hi;simpa using this
   have lix:ix.length=cs.length:=by rw [hix.length_eq,cE]
   have LV2:pN F j (ix.map λi=>cs.getD i []):=LV.perm (DN [] hix);have hpm:=DN [] hix;have hsx:=hlx LV.nd;have s17:=s16.trans s7;have rso:aL H7 ((ix.map λi=>cs.getD i []).map dX) (ix.map λi=>ws.getD i .non):=DD (rle.same s17) ix hixl;have lcs:(ix.map λi=>cs.getD i []).length=cs.length:=by rw [aA,lix]
   generalize hcs2:(ix.map λi=>cs.getD i [])=cs2 at *;generalize hys2:(ix.map λi=>ws.getD i V.non)=ys2 at *;have lys:ys2.length=cs2.length:=by rw [rso.len,aA]
   have hla0:H la=none:=aT.free S1 F1.there (s5.free hla);have hso0:H so=none:=aT.free S1 F1.there (s16.free hso);have nla:la≠p:=TP.ne hla0;have nso:so≠p:=TP.ne hso0;have nlf':la≠fo:=λe=>by subst e;rw [s5 _ _ hfo1] at hla;cases hla
   have nsf:so≠fo:=λe=>by subst e;rw [s16 _ _ hfo1] at hso;cases hso
   have nsl:so≠la:=λe=>by subst e;rw [e6] at hso;cases hso
   refine ⟨so,rfl,⟨_,gG.of e7⟩,?_⟩;refine pD (xs:=ys2) (λi σ H'=>∃(o8 o9:Option V) (vs2 us:List V) (es2:List dB) (ls:List (List Int)),σ=[some (.ref p),some (.int (F:Int)),some (.int (W:Int)),some (.int (M:Int)),some (.bl pl),some (.ref fo),some (.ref le),some (.ref la),o8,o9] /\
     bP H' p (n+1024*(6-j)-16*i)/\aT p H H'/\H' so=some (.lst ys2)/\H' fo=some (.lst vs2)/\aL H' (es2.map jZ) vs2/\H' la=some (.lst us)/\aL H' (ls.map dX) us/\zY F W M j es es2 (cs2.take i)/\pN F (j+1) ls/\(j=M->ls=[])/\aL H' (cs2.map dX) ys2/\qR ls (es2.drop es.length))
    ⟨_,_,vs,[],es,[],rfl,(F1.same s17).less Oo,S1.trans s17.but,e7,s17 _ _ hfo1,rfo.same s17,s7 _ _ e6,aL.nil,⟨[],by rw [List.append_nil],rfl,λe he=>by cases he⟩,⟨List.nodup_nil,λc hc=>by cases hc⟩,λ_=>rfl,rso,λc=>⟨(λh=>by cases h),(λ⟨e,he,_⟩=>by rw [List.drop_length] at he;cases he)⟩⟩ (λi σ H' _ q=>?_) ?_ ?_
   ·obtain ⟨_,_,_,_,_,_,_,_,_,h,_⟩:=q;exact gG.of h
   ·rintro i x σ H' hx ⟨o8,o9,vs2,us,es2,ls,rfl,F',S',hso',hfo',rfo',hla',rla',RI,LS,hjm,rso',LF⟩;obtain ⟨c,hci,rx⟩:=rso'.atI hx;have hi:i<cs2.length:=(bN.mp hci).1;have okc:=LV2.each c (bK hci);obtain ⟨ax,rfl,hax⟩:=iO rx;refine ⟨_,rfl,_,rfl,_,rfl,?_⟩;refine rsT (eI.of hax) ?_;refine ⟨_,rfl,rfl,_,rfl,?_⟩;refine FQ (n:=n+1024*(6-j)-16*(i+1)) (F'.less Oo) Z.w.1 Z.w.2 λv fs H8 F8 s8 r8 ok8 st8=>?_;have t8:=F'.t s8;have hso8:=s8.at nso hso';have hfo8:=s8.at nlf hfo';have hla8:=s8.at nla hla';have rfo8:=rfo'.flat t8 (fD _);have rla8:=rla'.flat t8 (fE _);have rso8:=rso'.flat t8 (fE _);have rx8:=rx.flat t8 (jN _);have hlen:vs2.length<=500:=by
     rw [rfo8.len,aA,RI.len,bA];have:=RT.len;have:64*j<=64*5:=Nat.mul_le_mul_left _ Oo;omega
    refine ⟨_,rfl,tyL hfo8,_,rfl,_,rfl,?_⟩;refine mS (by show 2<=64;decide) λq9 H9 hq9 e9 s9=>?_;refine aBF (s9 _ _ hfo8) Oo λH10 e10 s10=>?_;have t10:=s10.t (s9 _ _ hfo8);have t910:=s9.t.trans t10;have hso10:=s10.at nsf (s9 _ _ hso8);have hla10:=s10.at nlf' (s9 _ _ hla8);have rx10:=rx8.flat t910 (jN _);have r10:=r8.flat t910 (mG _);have ren:bR H10 (jZ (c,fs)) (.ref q9):=bR.tup (t10 _ _ e9) (aL.cons rx10 (aL.cons r10 aL.nil));have rfo10:aL H10 ((es2++[(c,fs)]).map jZ) (vs2++[.ref q9]):=by
     rw [bM];exact aL.append (aL.cons ren aL.nil) (rfo8.flat t910 (fD _))
    have F10:=(F8.same s9).but s10 nlf;have S10:aT p H H10:=aT.thru hfo ((S'.trans s8).trans s9.but) s10;obtain ⟨f0,fr,rfl⟩:∃f0 fr,fs=f0::fr:=by
     cases fs with
     | nil=>exact absurd (ok8.len) (by rw [List.length_nil];omega)
     | cons f0 fr=>exact ⟨f0,fr,rfl⟩
    have lfr:fr.length<=4:=by have:=ok8.len;rw [bF] at this;have:=Z.w;omega
    refine ⟨_,rfl,tyL hla10,_,rfl,_,rfl,?_⟩;refine uR rx10 r10 (by rw [okc.len];omega) lfr λD ys H11 hD hD11 rD s11=>?_;refine ⟨D,rfl,⟨_,gG.of hD11⟩,?_⟩;have NX:=yP okc f0;have lnx:(nexts c f0).length<=4:=by
     unfold nexts;split
     ·exact cB _
     ·rw [aA,cE,okc.len];omega
    have rla11:=(rla8.flat t910 (fE _)).same s11;have llen:ls.length<64:=by
     by_cases h:j=M
     ·rw [hjm h];decide
     ·exact LS.few Z Oo
    refine HB rD (λd=>!decide (d∈ls)) (by rw [rD.len,aA];omega) hD11 (λx' d H' Q' hd rx' s' k'=>?_) (λx' H' Q' q=>⟨_,rfl,q⟩) (λD2 ys2 H12 hD2 e12 s12 r12=>?_)
    ·refine ⟨_,rfl,_,rfl,?_⟩;refine riT (.inl (gG.of (s' _ _ (s11 _ _ hla10)))) (rla11.same s') rx'.k ?_;exact ⟨_,rfl,k' H' (aX.refl _)⟩
    ·have s1112:=s11.trans s12;refine ZO (s1112 _ _ hla10) e12 (by rw [rla8.len,r12.len,aA,aA];have:=List.length_filter_le (λd=>!decide (d∈ls)) (nexts c f0);omega) λH13 e13 s13=>?_;have t13:=s13.t (s1112 _ _ hla10);have tt:=s1112.t.trans t13;refine ⟨_,_,vs2++[.ref q9],us++ys2,es2++[(c,f0::fr)],ls++(nexts c f0).filter (λd=>!decide (d∈ls)),rfl,(F10.same s1112).but s13 nla,aT.thru hla0 (S10.trans s1112.but) s13,s13.at nsl (s1112 _ _ hso10),s13.at (Ne.symm nlf') (s1112 _ _ e10),rfo10.flat tt (fD _),e13,?_,?_,LS.more NX,λh=>?_,(rso8.flat t910 (fE _)).flat tt (fE _),?_⟩
     ·rw [bM];exact aL.append (r12.flat t13 (fE _)) ((rla11.same s12).flat t13 (fE _))
     ·rw [List.take_succ,hci];exact RI.snoc ok8
     ·have hsum:=okc.sum;have:=st8 (aM (by rw [hsum,h]));cases (show f0=(0,1) by simpa using this);rw [hjm h]
      rfl
     ·have hle2:es.length<=es2.length:=by rw [RI.len];omega
      rw [List.drop_append_of_le_length hle2];exact qR.more (e:=(c,f0::fr)) LF
   ·rintro σ H8 ⟨o8,o9,vs2,us,es2,ls,rfl,F8,S8,hso8,hfo8,rfo8,hla8,rla8,RI,LS,hjm,_,LF⟩;rw [lys,dW] at RI;have RT2:=RI.done RT LV2 hjM Oo hsx;have CL2:XH F es2 ls:=by
     obtain ⟨ne,e1,e2,_⟩:=RI.ex;subst e1;rw [List.drop_left] at LF;exact CL.step hpm e2 LF
    refine ⟨_,rfl,6-(j+1),Oo,j+1,la,_,_,_,vs2,us,es2,ls,rfl,rfl,Oo,?_,λh=>Oo,λ_ h=>?_,F8.less (by rw [lys];omega),S8,hfo8,rfo8,hla8,rla8,hla0,nlf',LS,RT2,CL2⟩
    ·by_cases h:j=M
     ·exact .inr (hjm h)
     ·exact .inl Oo
    ·have:=RI.len;rw [h] at this;have h0:cs.length≠0:=λe=>hc (List.length_eq_zero_iff.mp e);simp at this;omega
 ·rintro σ H1 ⟨le,o7,o8,o9,vs,es,rfl,F1,S1,hfo1,rfo,RO⟩;refine ⟨_,rfl,fo,vs,rfl,.inl ⟨gG.of hfo1,λl hl=>?_⟩⟩;have sl:=aX.upd (o:=.tup vs) hl;have el:(upd H1 l (.tup vs)) l=some (.tup vs):=bL;generalize upd H1 l (.tup vs)=H2 at sl el;exact k _ es H2 (F1.same sl) (S1.trans sl.but) (bR.tup el (rfo.same sl)) RO
end
abbrev TB:Stmt:=(top 1)
theorem aBt:bZ ["thing"] ["thing"] (bD TB):=⟨rfl,rfl,rfl,Kk,rfl,Kk,Kk⟩
abbrev TL:Stmt:=(top 2)
theorem HJ:bZ ["number","above_nought","divided","divisor","rest"] ["number","above_nought"] (bD TL):=⟨rfl,rfl,rfl,Kk,rfl,Kk,Kk⟩
abbrev TF:Stmt:=(top 4)
theorem aBx:bZ ["thing"] ["thing"] (bD TF):=⟨rfl,rfl,rfl,Kk,rfl,Kk,Kk⟩
abbrev TD:Stmt:=(top 5)
theorem aBv:bZ ["thing"] ["thing"] (bD TD):=⟨rfl,rfl,rfl,Kk,rfl,Kk,Kk⟩
abbrev SX:Stmt:=(top 6)
theorem HI:bZ ["one","other","common","one_part","other_part","upper","left"] ["one","other"] (bD SX):=⟨rfl,rfl,rfl,Kk,rfl,Kk,Kk⟩
abbrev SW:Stmt:=(top 7)
theorem QI:bZ ["some","whole","one"] ["some"] (bD SW):=⟨rfl,rfl,rfl,Kk,rfl,Kk,Kk⟩
abbrev TC:Stmt:=(top 10)
theorem aBu:bZ ["thing","many"] ["thing","many"] (bD TC):=⟨rfl,rfl,rfl,Kk,rfl,Kk,Kk⟩
abbrev NK:Stmt:=(top 11)
theorem aBA:bZ ["thing","many"] ["thing","many"] (bD NK):=⟨rfl,rfl,rfl,Kk,rfl,Kk,Kk⟩
abbrev TN:Stmt:=(top 12)
theorem aBC:bZ ["thing","many"] ["thing","many"] (bD TN):=⟨rfl,rfl,rfl,Kk,rfl,Kk,Kk⟩
abbrev NJ:Stmt:=(top 14)
theorem aBz:bZ ["faces","thing"] ["faces","thing"] (bD NJ):=⟨rfl,rfl,rfl,Kk,rfl,Kk,Kk⟩
abbrev TM:Stmt:=(top 20)
theorem aBB:bZ ["ways","thing"] ["ways","thing"] (bD TM):=⟨rfl,rfl,rfl,Kk,rfl,Kk,Kk⟩
section
theorem aA0(F:iK K "common_divisor" "common_divisor" TL f fd)(T:kR K mg c):dP P w K mg base dM 1 f fd ["number","above_nought"] uS:=by
 refine F.oky HJ λvs H Q E h=>?_;unfold uS at h;obtain ⟨n,d,rfl,hd,q⟩:=h;refine ⟨rfl,λcdv A outer s hr=>?_⟩;refine ⟨_,(aW (cC (i:=2) HJ.nd rfl (Or.inl rfl) (aJ 0))
  (aW (cC (i:=3) HJ.nd rfl (Or.inl rfl) (aJ 1))
  (aW (oB PassesOwn.never (dH uZ (aJ 3) aE (nomark _)) (aW (cC (i:=4) HJ.nd rfl (Or.inl rfl) (bS mI (aJ 2) (aJ 3)))
  (aW (cC (i:=2) HJ.nd rfl (Or.inl rfl) (aJ 3))
  (bG (cC (i:=3) HJ.nd rfl (Or.inl rfl) (aJ 4))))))
  (bG (bV (aJ 2)))))),?_⟩
 refine ⟨_,rfl,_,rfl,?_⟩;refine rV (λm σ H'=>∃(a b:Int) (c:Option V),σ=[some (.int n),some (.int d),some (.int a),some (.int b),c]/\0<=b/\Int.gcd a b=Int.gcd n d/\(b=0->0<a)/\H'=H/\m=b.toNat)
  (λσ H'=>∃(c:Option V),σ=[some (.int n),some (.int d),some (.int (Int.gcd n d)),some (.int 0),c]/\H'=H)
  _ ⟨n,d,none,rfl,Oo,rfl,Oo,rfl,rfl⟩ ?_ ?_
 ·rintro m σ H2 ⟨a,b,c,rfl,hb,hg,h0,rfl,rfl⟩;refine ⟨_,rfl,rfl,_,rfl,?_⟩;refine RU (λe=>?_) (λe=>?_)
  ·have hb':0<b:=by
    rcases Int.lt_or_eq_of_le hb with h | h
    ·exact h
    ·exact absurd (congrArg V.int h.symm) e
   refine ⟨_,rfl,_,rfl,_,_,rfl,rfl,hb',_,rfl,_,rfl,?_⟩;have e1:=Int.emod_lt_of_pos a hb';have e2:=Int.emod_nonneg a (b:=b) Oo;exact ⟨_,Oo,b,a % b,_,rfl,e2,by rw [zC,hg],λ_=>hb',rfl,rfl⟩
  ·have hb0:b=0:=by injection e
   subst hb0;have ha:=h0 rfl;have e1:=EE ha;rw [hg] at e1;rw [e1];exact ⟨c,rfl,rfl⟩
 ·rintro σ H2 ⟨c,rfl,rfl⟩;exact ⟨_,rfl,q⟩
theorem aAL(F:iK K "plus" "plus" SX f fd)(T:kR K mg c)
  (FQ22:hU dM P w K mg base 1 "common_divisor" ["number","above_nought"] uS):dP P w K mg base dM 2 f fd ["one","other"] (oM K):=by
 refine F.oky HI λvs H Q E h=>?_;unfold oM at h;obtain ⟨x,y,⟨a,b⟩,⟨c,d⟩,rfl,h1,h2,l1,l2,z1,z2,q⟩:=h;refine ⟨rfl,λcdv A outer s hr=>?_⟩;obtain ⟨p1,rfl,e1⟩:=h1;obtain ⟨p2,rfl,e2⟩:=h2;have pb:0<b:=l1.pos;have pd:0<d:=l2.pos;obtain ⟨za,zb⟩:=z1;obtain ⟨zc,zd⟩:=z2;dsimp only at za zb zc zd e1 e2;have hG:=jU (n:=b) pd;have zG:=BX (n:=b) pd zd;have zb':=AN zb hG;have zd':=AN zd hG;have u1:=AM za zd';have u2:=AM zc zb';have hL:=jU (n:=a*(d/(Int.gcd b d:Int))+c*(b/(Int.gcd b d:Int))) hG;have zL:=BX (n:=a*(d/(Int.gcd b d:Int))+c*(b/(Int.gcd b d:Int))) hG zG;have eq:rQ (a,b) (c,d)=_:=OJ l1 l2;refine ⟨_,(aW (cC (i:=2) HI.nd rfl (Or.inl rfl) (cF FQ22 (hr.mono Dd) (aH (cK cG (aJ 0) aE (λ_ _=>rfl)) (aH (cK cG (aJ 1) aE (λ_ _=>rfl)) aC))))
  (aW (cC (i:=3) HI.nd rfl (Or.inl rfl) (bS gE (cK cG (aJ 0) aE (λ_ _=>rfl)) (aJ 2)))
  (aW (cC (i:=4) HI.nd rfl (Or.inl rfl) (bS gE (cK cG (aJ 1) aE (λ_ _=>rfl)) (aJ 2)))
  (aW (cC (i:=5) HI.nd rfl (Or.inl rfl) (bS dU (bS gX (cK cG (aJ 0) aE (λ_ _=>rfl)) (aJ 4)) (bS gX (cK cG (aJ 1) aE (λ_ _=>rfl)) (aJ 3))))
  (aW (cC (i:=6) HI.nd rfl (Or.inl rfl) (cF FQ22 (hr.mono Dd) (aH (aJ 5) (aH (aJ 2) aC))))
  (bG (bV (cH (aH (bS gE (aJ 5) (aJ 6)) (aH (bS gX (aJ 3) (bS gE (cK cG (aJ 1) aE (λ_ _=>rfl)) (aJ 6))) aC)))))))))),?_⟩
 refine ⟨_,rfl,?_⟩;refine sE e1 rfl ?_;refine ⟨_,rfl,?_⟩;refine sE e2 rfl ?_;refine wG pd ?_;refine ⟨_,rfl,?_⟩;refine sE e1 rfl ?_;refine ⟨_,rfl,_,_,rfl,rfl,zI hG (oG zG),?_⟩;refine ⟨_,rfl,?_⟩;refine sE e2 rfl ?_;refine ⟨_,rfl,_,_,rfl,rfl,zI hG (oG zG),?_⟩;refine ⟨_,rfl,?_⟩;refine sE e1 rfl ?_;refine ⟨_,rfl,_,_,rfl,rfl,GK za zd',?_⟩;refine ⟨_,rfl,?_⟩;refine sE e2 rfl ?_;refine ⟨_,rfl,_,_,rfl,rfl,GK zc zb',_,_,rfl,rfl,?_⟩;refine ⟨_,rfl,_,rfl,?_⟩;refine wG hG ?_;refine ⟨_,rfl,_,rfl,_,_,rfl,rfl,zI hL (oG zL),?_⟩;refine ⟨_,rfl,_,rfl,?_⟩;refine sE e2 rfl ?_;refine ⟨_,rfl,_,_,rfl,rfl,zI hL (oG zL),_,_,rfl,rfl,GK zb' (AN zd hL),?_⟩;refine mS (by show 2<=64;decide) λp H3 hp e3 s3=>?_;refine q p H3 hp ?_ s3;rw [eq];exact e3
end
def eU(es:List dB)(c:List Int):Option (List Fr):=(es.find? λe=>decide (e.1=c)).map (·.2)
theorem UB{H:Hp}{es:List dB}{v:V}(h:bR H (CZ es) v):∃a xs,v=.ref a/\H a=some (.tup xs)/\aL H (es.map jZ) xs:=by
 unfold bR at h;exact h
theorem qI{H:Hp}{e:dB}{v:V}(h:bR H (jZ e) v):∃a x y,v=.ref a/\H a=some (.tup [x,y])/\bR H (dX e.1) x/\bR H (lO e.2) y:=by
 unfold bR aL aL aL at h;obtain ⟨a,_,rfl,h1,x,_,rfl,r1,y,_,rfl,r2,rfl⟩:=h;exact ⟨a,x,y,rfl,h1,r1,r2⟩
structure MO(B:Nat)(fs:List Fr):Prop where
 low:∀f∈fs,iV f
 up:∀f∈fs,f.1.natAbs<=2^B
 dn:∀f∈fs,f.2<=2^B
 sz:B*fs.length+B+fs.length<=3900
theorem MO.take{B:Nat}{fs:List Fr}(h:MO B fs)(n:Nat):MO B (fs.take n) :=
 ⟨λf hf=>h.low f (List.mem_of_mem_take hf),λf hf=>h.up f (List.mem_of_mem_take hf),λf hf=>h.dn f (List.mem_of_mem_take hf),by
  have h1:=h.sz;have h2:(fs.take n).length<=fs.length:=by rw [bA];omega
  have h3:=Nat.mul_le_mul_left B h2;omega⟩
theorem MO.tot{B:Nat}{fs:List Fr}(h:MO B fs):HN (B*fs.length+B+fs.length+1) (fY fs):=by
 rw [<-MT fs h.low];have hw:=mN fs h.low;obtain ⟨h1,h2⟩:=ZE (n:=lS fs (Mf.whole fs)) hw;have h3:=(lC (n:=lS fs (Mf.whole fs)) hw).pos;have h4:=ID fs (k:=B) λf hf=>⟨h.low f hf,h.dn f hf⟩;have h5:=CW hw (k:=B) fs λf hf=>⟨h.low f hf,h.up f hf⟩;have e5:(2:Int)^(B*fs.length)=((2^(B*fs.length):Nat):Int):=by rw [Int.natCast_pow];rfl
 rw [e5] at h4;have h6:(Mf.whole fs).natAbs<=2^(B*fs.length):=Oo;have h7:fs.length<=2^fs.length:=Nat.le_of_lt Nat.lt_two_pow_self;have h8:fs.length*(2^B*(Mf.whole fs).natAbs)<=2^fs.length*(2^B*2^(B*fs.length)):=Nat.mul_le_mul h7 (Nat.mul_le_mul_left _ h6);have e8:2^fs.length*(2^B*2^(B*fs.length))=2^(B*fs.length+B+fs.length):=by rw [<-Nat.pow_add,<-Nat.pow_add];congr 1;omega
 refine ⟨bI (bC h2 (bC h5 (bC h8 (Nat.le_of_eq e8)))) (Nat.pow_lt_pow_right Dd Oo),?_⟩;have h9:2^(B*fs.length)<=2^(B*fs.length+B+fs.length):=fM Dd Oo;have h10:2^(B*fs.length+B+fs.length)<2^(B*fs.length+B+fs.length+1):=Nat.pow_lt_pow_right Dd Oo;omega
theorem HN.mono{k m:Nat}{f:Fr}(h:HN k f)(hk:k<=m):HN m f:=⟨aZ h.1 (fM Dd hk),aZ h.2 (fM Dd hk)⟩
theorem MO.szf{B:Nat}{fs:List Fr}(h:MO B fs){f:Fr}(hf:f∈fs):HN 4000 f:=by
 have h1:=h.up f hf;have h2:=h.dn f hf;have h3:=(h.low f hf).pos;have e5:(2:Int)^B=((2^B:Nat):Int):=by rw [Int.natCast_pow];rfl
 rw [e5] at h2;have e:(2:Nat)^B<2^4000:=Nat.pow_lt_pow_right Dd (by have:=h.sz;omega);exact ⟨bI h1 e,Oo⟩
def iN:PyData->Bool
 | .tuple [.int n,.int k]=>decide (1<=k)&&decide (Int.gcd n k=1)
 | _=>false
def cI:PyData->Bool
 | .tuple [.int n,.int k]=>(decide (1<=k)&&decide (Int.gcd n k=1))&&(decide (0<=n)&&decide (n<=k))
 | _=>false
def lG(n:Int):PyData->Bool
 | .tuple ds=>decide ((ds.length:Int)=n)
 | _=>false
def iI:PyData->Fr
 | .tuple [.int n,.int k]=>(n,k)
 | _=>(0,1)
def pJ(n:Int):PyData->Bool
 | .tuple ds=>decide ((ds.length:Int)=n)&&ds.all cI
 | _=>false
def dJ(n:Int):PyData->Bool
 | .tuple ds=>(decide ((ds.length:Int)=n)&&ds.all cI)&&decide (fY (ds.map iI)=(1,1))
 | _=>false
def fQ:PyData->Bool
 | .int n=>decide (0<=n)
 | _=>false
def fC(n:Int):PyData->Bool
 | .tuple ds=>decide ((ds.length:Int)=n)&&ds.all fQ
 | _=>false
def XJ:PyData->Prop
 | .tuple ds=>∀e∈ds,cI e=true->(iI e).2<=2^200
 | _=>True
@[irreducible] def kF(K:PySem.W.Frag):Sp:=λvs H Q _=>∃x d,vs=[x]/\cO K H d x/\Q (.bl (xE d)) H
theorem nN{K:PySem.W.Frag}{H:Hp}{Q:VK}{E:XK}{x:V}{d:PyData}(r:cO K H d x)(q:Q (.bl (xE d)) H):kF K [x] H Q E:=by unfold kF;exact ⟨x,d,rfl,r,q⟩
@[irreducible] def oN(K:PySem.W.Frag):Sp:=λvs H Q _=>∃x d,vs=[x]/\cO K H d x/\Q (.bl (iN d)) H
theorem FU{K:PySem.W.Frag}{H:Hp}{Q:VK}{E:XK}{x:V}{d:PyData}(r:cO K H d x)(q:Q (.bl (iN d)) H):oN K [x] H Q E:=by unfold oN;exact ⟨x,d,rfl,r,q⟩
@[irreducible] def lV(K:PySem.W.Frag):Sp:=λvs H Q _=>∃x d,vs=[x]/\cO K H d x/\Q (.bl (cI d)) H
theorem AQ{K:PySem.W.Frag}{H:Hp}{Q:VK}{E:XK}{x:V}{d:PyData}(r:cO K H d x)(q:Q (.bl (cI d)) H):lV K [x] H Q E:=by unfold lV;exact ⟨x,d,rfl,r,q⟩
@[irreducible] def jB(K:PySem.W.Frag):Sp:=λvs H Q _=>∃x d n,vs=[x,.int n]/\cO K H d x/\Q (.bl (lG n d)) H
theorem nO{K:PySem.W.Frag}{H:Hp}{Q:VK}{E:XK}{x:V}{d:PyData}{n:Int}(r:cO K H d x)(q:Q (.bl (lG n d)) H):jB K [x,.int n] H Q E:=by unfold jB;exact ⟨x,d,n,rfl,r,q⟩
@[irreducible] def mE(K:PySem.W.Frag):Sp:=λvs H Q _=>∃x d n,vs=[x,.int n]/\cO K H d x/\n<=64/\∀H',aX H H'->Q (.bl (pJ n d)) H'
theorem AV{K:PySem.W.Frag}{H:Hp}{Q:VK}{E:XK}{x:V}{d:PyData}{n:Int}(r:cO K H d x)(h:n<=64)(q:∀H',aX H H'->Q (.bl (pJ n d)) H'):mE K [x,.int n] H Q E:=by unfold mE;exact ⟨x,d,n,rfl,r,h,q⟩
@[irreducible] def jR(K:PySem.W.Frag):Sp:=λvs H Q _=>∃x fs,∃B:Nat,vs=[x]/\cO K H (.tuple (fs.map iJ)) x/\MO B fs/\∀v H',aX H H'->bR H' (iJ (fY fs)) v->Q v H'
theorem uQ{K:PySem.W.Frag}{H:Hp}{Q:VK}{E:XK}{x:V}{fs:List Fr}{B:Nat}(r:cO K H (.tuple (fs.map iJ)) x)(h:MO B fs)(q:∀v H',aX H H'->bR H' (iJ (fY fs)) v->Q v H'):jR K [x] H Q E:=by unfold jR;exact ⟨x,fs,B,rfl,r,h,q⟩
@[irreducible] def lW(K:PySem.W.Frag):Sp:=λvs H Q _=>∃x d n,vs=[x,.int n]/\cO K H d x/\n<=6/\XJ d/\∀H',aX H H'->Q (.bl (dJ n d)) H'
theorem AR{K:PySem.W.Frag}{H:Hp}{Q:VK}{E:XK}{x:V}{d:PyData}{n:Int}(r:cO K H d x)(h:n<=6)(sm:XJ d)(q:∀H',aX H H'->Q (.bl (dJ n d)) H'):lW K [x,.int n] H Q E:=by unfold lW;exact ⟨x,d,n,rfl,r,h,sm,q⟩
@[irreducible] def jG(K:PySem.W.Frag):Sp:=λvs H Q _=>∃x d,∃W:Nat,vs=[.int (W:Int),x]/\cO K H d x/\W<=4/\XJ d/\∀H',aX H H'->Q (.bl (dJ (1+(W:Int)) d)) H'
theorem wH{K:PySem.W.Frag}{H:Hp}{Q:VK}{E:XK}{x:V}{d:PyData}{W:Nat}(r:cO K H d x)(h:W<=4)(sm:XJ d)(q:∀H',aX H H'->Q (.bl (dJ (1+(W:Int)) d)) H'):jG K [.int (W:Int),x] H Q E:=by unfold jG;exact ⟨x,d,W,rfl,r,h,sm,q⟩
@[irreducible] def mC(K:PySem.W.Frag):Sp:=λvs H Q _=>∃x d,∃F:Nat,vs=[.int (F:Int),x]/\cO K H d x/\F<=64/\∀H',aX H H'->Q (.bl (fC (F:Int) d)) H'
theorem AT{K:PySem.W.Frag}{H:Hp}{Q:VK}{E:XK}{x:V}{d:PyData}{F:Nat}(r:cO K H d x)(h:F<=64)(q:∀H',aX H H'->Q (.bl (fC (F:Int) d)) H'):mC K [.int (F:Int),x] H Q E:=by unfold mC;exact ⟨x,d,F,rfl,r,h,q⟩
theorem yZ{d:PyData}(h:iN d=true):∃n k:Int,d=.tuple [.int n,.int k]/\1<=k/\Int.gcd n k=1:=by
 unfold iN at h;split at h
 ·rename_i n k
  rw [aQ] at h;exact ⟨n,k,rfl,of_decide_eq_true h.1,of_decide_eq_true h.2⟩
 ·cases h
theorem uM{d:PyData}(h:iN d=false):cI d=false:=by
 unfold cI;split
 ·rename_i n k
  have h':(decide (1<=k)&&decide (Int.gcd n k=1))=false:=h;rw [h',Bool.false_and]
 ·rfl
theorem gZ{d:PyData}(h:cI d=true):d=iJ (iI d)/\iV (iI d)/\0<=(iI d).1/\(iI d).1<=(iI d).2:=by
 unfold cI at h;split at h
 ·rename_i n k
  rw [aQ,aQ,aQ] at h;obtain ⟨⟨h1,h2⟩,h3,h4⟩:=h;exact ⟨rfl,⟨by have:=of_decide_eq_true h1;show 0<k;omega,of_decide_eq_true h2⟩,of_decide_eq_true h3,of_decide_eq_true h4⟩
 ·cases h
theorem kY:∀{ds:List PyData},ds.all cI=true->ds=(ds.map iI).map iJ
 | [],_=>rfl
 | d::ds,h=>by
  rw [List.all_cons,aQ] at h;rw [aV,aV,<-kY h.2,<-(gZ h.1).1]
theorem BC{K:PySem.W.Frag}{H:Hp}{f:Fr}{v:V}(h:cO K H (iJ f) v):HU K H f v:=by
 unfold cO at h;obtain ⟨a,xs,rfl,h1,r⟩:=h;unfold cV cV cV at r;obtain ⟨x,_,rfl,r1,y,_,rfl,r2,rfl⟩:=r;cases (show x=V.int f.1 from r1);cases (show y=V.int f.2 from r2);exact ⟨a,rfl,h1⟩
theorem QY{α:Type}{l:List α}{i:Nat}{a:α}(h:l[i]?=some a):l.take (i+1)=l.take i++[a]:=by rw [fN,h];rfl
theorem DB{K:PySem.W.Frag}{H:Hp}{a:Addr}{xs:List V}{ds:List PyData}(r:cV K H ds xs)(h:ds.length=2):∃d0 d1 x0 x1,ds=[d0,d1]/\xs=[x0,x1]/\cO K H d0 x0/\cO K H d1 x1:=by
 match ds,h with
 | [d0,d1],_ =>
  unfold cV cV cV at r;obtain ⟨x0,_,rfl,r0,x1,_,rfl,r1,rfl⟩:=r;exact ⟨d0,d1,x0,x1,rfl,rfl,r0,r1⟩
theorem nC{b:Bool}{A B:Prop}(h:b=true)(k:A):if b=true then A else B:=by rw [h,if_pos rfl];exact k
theorem vE{b:Bool}{A B:Prop}(h:b=false)(k:B):if b=true then A else B:=by rw [h,if_neg Dd];exact k
theorem sO{ds:List PyData}(h:ds.all cI=true)(hl:ds.length<=6)(sm:∀e∈ds,cI e=true->(iI e).2<=2^200):MO 200 (ds.map iI):=by
 have hh:∀f∈ds.map iI,iV f/\0<=f.1/\f.1<=f.2/\f.2<=2^200:=λf hf=>by
  obtain ⟨d,hd,rfl⟩:=aU.mp hf;have hs:=List.all_eq_true.mp h d hd;have:=gZ hs;exact ⟨this.2.1,this.2.2.1,this.2.2.2,sm d hd hs⟩
 refine ⟨λf hf=>(hh f hf).1,λf hf=>?_,λf hf=>(hh f hf).2.2.2,?_⟩
 ·obtain ⟨_,a,b,c⟩:=hh f hf;have:f.1<=2^200:=Int.le_trans b c;omega
 ·rw [aA];omega
section
theorem aAR(F:iK K "is_whole" "is_whole" TB f fd)(T:kR K mg c):dP P w K mg base dM 1 f fd ["thing"] (kF K):=by
 refine F.oky aBt λvs H Q E h=>?_;unfold kF at h;obtain ⟨x,d,rfl,r,q⟩:=h;refine ⟨rfl,λcdv A outer s hr=>?_⟩;refine ⟨_,(bG (bV (fX (cS (kN K) (by rfl) T.b_isinstance Kk (aH (aJ 0) (aH (fU (v:=.ty "int") (u:=.type "int") rfl T.b_int Kk rfl) aC))) (hZ (IF (cS (kN K) (by rfl) T.b_isinstance Kk (aH (aJ 0) (aH (fU (v:=.ty "bool") (u:=.type "bool") rfl T.b_bool Kk rfl) aC)))))))),?_⟩;refine ⟨_,rfl,?_⟩;refine YI r ?_;refine ⟨_,rfl,?_⟩;cases d
 case int i=>exact eX ⟨_,rfl,wK r ⟨_,rfl,q⟩⟩
 case bool i=>exact eX ⟨_,rfl,wK r ⟨_,rfl,q⟩⟩
 all_goals exact fB q
theorem aAV(F:iK K "is_fraction" "is_fraction" TF f fd)(T:kR K mg c)(FQ31:hU dM P w K mg base 1 "is_whole" ["thing"] (kF K))(FQ22:hU dM P w K mg base 1 "common_divisor" ["number","above_nought"] uS):dP P w K mg base dM 2 f fd ["thing"] (oN K):=by
 refine F.oky aBx λvs H Q E h=>?_;unfold oN at h;obtain ⟨x,d,rfl,r,q⟩:=h;refine ⟨rfl,λcdv A outer s hr=>?_⟩;refine ⟨_,(aW (eP (oA (jQ (eT (eE (cS (kN K) (by rfl) T.b_isinstance Kk (aH (aJ 0) (aH (fU (v:=.ty "tuple") (u:=.type "tuple") rfl T.b_tuple Kk rfl) aC))))) (iL (dH uZ (cS fS (by rfl) T.b_len Kk (aH (aJ 0) aC)) aE (nomark _))))) (bG (bV fW)) cR)
  (aW (eP (oA (jQ (eT (eE (cF FQ31 (hr.mono Dd) (aH (cK cG (aJ 0) aE (λ_ _=>rfl)) aC)))) (iL (eT (eE (cF FQ31 (hr.mono Dd) (aH (cK cG (aJ 0) aE (λ_ _=>rfl)) aC))))))) (bG (bV fW)) cR)
  (bG (bV (fX (fG RN (cK cG (aJ 0) aE (λ_ _=>rfl)) aE (nomark _)) (hZ (fG jI (cF FQ22 (hr.mono Dd) (aH (cK cG (aJ 0) aE (λ_ _=>rfl)) (aH (cK cG (aJ 0) aE (λ_ _=>rfl)) aC))) aE (nomark _)))))))),?_⟩
 refine ⟨_,rfl,?_⟩;refine JF r ?_;refine ⟨_,rfl,?_⟩;by_cases ht:rM d=true
 ·rw [ht];refine fB ?_;cases d with
  | tuple ds =>
   unfold cO at r;obtain ⟨a,xs,rfl,ha,rl⟩:=r;have hlen:=rl.len;refine ⟨_,rfl,?_⟩;refine rlK ha ?_;refine ⟨rfl,_,rfl,?_⟩;refine RU (λe=>?_) (λe=>?_)
   ·have e2:iN (.tuple ds)=false:=by
     unfold iN;split
     ·rename_i n k z
      injection z with z;subst z;exact absurd (congrArg V.int (by rw [hlen];rfl)) e
     ·rfl
    rw [e2] at q;exact q
   ·have e1:ds.length=2:=by injection e with e;omega
    obtain ⟨d0,d1,x0,x1,rfl,rfl,r0',r1'⟩:=DB (a:=a) rl e1;refine ⟨_,rfl,?_⟩;refine sE ha rfl ?_;refine nN r0' ?_;refine ⟨_,rfl,?_⟩;cases d0
    case int n =>
     refine fB ?_;refine ⟨_,rfl,?_⟩;refine sE ha rfl ?_;refine nN r1' ?_;refine ⟨_,rfl,?_⟩;cases d1
     case int k =>
      refine fB ?_;cases (show x0=V.int n from r0');cases (show x1=V.int k from r1');refine ⟨_,rfl,?_⟩;refine sE ha rfl ?_;refine ⟨_,_,rfl,rfl,_,rfl,?_⟩;refine lP (λe3=>?_) (λe3=>?_)
      ·refine ⟨_,rfl,?_⟩;refine sE ha rfl ?_;refine ⟨_,rfl,?_⟩;refine sE ha rfl ?_;refine wG Oo ?_;refine ⟨rfl,?_⟩;have e4:iN (.tuple [.int n,.int k])=decide (V.int (Int.gcd n k:Int)=V.int 1):=by
        show (decide (1<=k)&&decide (Int.gcd n k=1))=_;rw [aM e3,Bool.true_and];by_cases g:Int.gcd n k=1
        ·rw [aM g,g];rfl
        ·rw [bH g,bH];intro z;injection z with z;omega
       rw [e4] at q;exact q
      ·have e4:iN (.tuple [.int n,.int k])=false:=by
        show (decide (1<=k)&&decide (Int.gcd n k=1))=_;rw [bH e3,Bool.false_and]
       rw [e4] at q;exact q
     all_goals exact eX q
    all_goals exact eX (eX q)
  | _=>cases ht
 ·have ht':rM d=false:=by simpa using ht
  rw [ht'];refine eX ?_;refine eX ?_;have e2:iN d=false:=by cases d <;> first | rfl | cases ht'
  rw [e2] at q;exact q
theorem aAT(F:iK K "is_share" "is_share" TD f fd)(T:kR K mg c)(FQ27:hU dM P w K mg base 2 "is_fraction" ["thing"] (oN K)):dP P w K mg base dM 3 f fd ["thing"] (lV K):=by
 refine F.oky aBv λvs H Q E h=>?_;unfold lV at h;obtain ⟨x,d,rfl,r,q⟩:=h;refine ⟨rfl,λcdv A outer s hr=>?_⟩;refine ⟨_,(bG (bV (fX (cF FQ27 (hr.mono Dd) (aH (aJ 0) aC)) (hZ (xT DO DO aE (cK cG (aJ 0) aE (λ_ _=>rfl)) (cK cG (aJ 0) aE (λ_ _=>rfl))))))),?_⟩;refine ⟨_,rfl,?_⟩;refine FU r ?_;refine ⟨_,rfl,?_⟩;by_cases hf:iN d=true
 ·obtain ⟨n,k,rfl,h1,h2⟩:=yZ hf;rw [hf];refine eX ?_;unfold cO at r;obtain ⟨a,xs,rfl,ha,rl⟩:=r;obtain ⟨d0,d1,x0,x1,e,rfl,r0,r1⟩:=DB (a:=a) rl rfl;injection e with e0 e;injection e with e1 _;subst e0 e1;cases (show x0=V.int n from r0);cases (show x1=V.int k from r1);have e4:cI (.tuple [.int n,.int k])=(decide (0<=n)&&decide (n<=k)):=by
   show ((decide (1<=k)&&decide (Int.gcd n k=1))&&(decide (0<=n)&&decide (n<=k)))=_;rw [aM h1,aM h2,Bool.true_and,Bool.true_and]
  rw [e4] at q;refine ⟨_,rfl,?_⟩;refine sE ha rfl ?_;refine ⟨_,_,rfl,rfl,_,rfl,?_⟩;refine lP (λe=>?_) (λe=>?_)
  ·rw [aM e,Bool.true_and] at q;refine ⟨_,rfl,?_⟩;refine sE ha rfl ?_;exact ⟨_,_,rfl,rfl,q⟩
  ·rw [bH e,Bool.false_and] at q;exact q
 ·have hf':iN d=false:=by simpa using hf
  rw [uM hf'] at q;rw [hf'];exact fB q
theorem aAS(F:iK K "is_tuple_of" "is_tuple_of" TC f fd)(T:kR K mg c):dP P w K mg base dM 1 f fd ["thing","many"] (jB K):=by
 refine F.oky aBu λvs H Q E h=>?_;unfold jB at h;obtain ⟨x,d,n,rfl,r,q⟩:=h;refine ⟨rfl,λcdv A outer s hr=>?_⟩;refine ⟨_,(bG (bV (fX (cS (kN K) (by rfl) T.b_isinstance Kk (aH (aJ 0) (aH (fU (v:=.ty "tuple") (u:=.type "tuple") rfl T.b_tuple Kk rfl) aC))) (hZ (fG jI (cS fS (by rfl) T.b_len Kk (aH (aJ 0) aC)) (aJ 1) (nomark _)))))),?_⟩;refine ⟨_,rfl,?_⟩;refine JF r ?_;refine ⟨_,rfl,?_⟩;cases d with
 | tuple ds =>
  refine eX ?_;unfold cO at r;obtain ⟨a,xs,rfl,ha,rl⟩:=r;refine ⟨_,rfl,?_⟩;refine rlK ha ?_;refine ⟨_,rfl,rfl,?_⟩;have e:decide (V.int (xs.length:Int)=V.int n)=lG n (.tuple ds):=by
   show _=decide ((ds.length:Int)=n);rw [rl.len];exact decide_eq_decide.mpr ⟨λz=>by injection z,λz=>by rw [z]⟩
  rw [e];exact q
 | _=>exact fB q
theorem aA1(F:iK K "are_shares" "are_shares" NK f fd)(T:kR K mg c)(FQ30:hU dM P w K mg base 1 "is_tuple_of" ["thing","many"] (jB K))(FQ29:hU dM P w K mg base 3 "is_share" ["thing"] (lV K)):dP P w K mg base dM 4 f fd ["thing","many"] (mE K):=by
 refine F.oky aBA λvs H Q E h=>?_;unfold mE at h;obtain ⟨x,d,n,rfl,r,hn,q⟩:=h;refine ⟨rfl,λcdv A outer s hr=>?_⟩;refine ⟨_,(bG (bV (fX (cF FQ30 (hr.mono Dd) (aH (aJ 0) (aH (aJ 1) aC))) (hZ (cS (CC rfl) (by rfl) T.b_all Kk (aH (eZ (eA.of (psc:=bD NK) (N:=["thing","many"]) (N':=["one"]) (js:=[]) Kk rfl rfl rfl) (jA (aJ 0)) (λ_ _ _ _=>gH) (λ_ _ _ _=>(cF FQ29 (hr.mono Dd) (aH (aJ 0) aC)))) aC)))))),?_⟩;refine ⟨_,rfl,_,rfl,?_⟩;refine nO r ?_;refine ⟨_,rfl,?_⟩;by_cases ht:lG n d=true
 ·cases d with
  | tuple ds =>
   have hl:(ds.length:Int)=n:=of_decide_eq_true ht;refine nC ht ?_;unfold cO at r;obtain ⟨a,xs,rfl,ha,rl⟩:=r;refine ⟨_,rfl,a,rfl,⟨_,ha⟩,?_⟩;refine nX cI Oo ha rl (λx d H' Q' hd rd s' k'=>?_) (λD H1 hD e1 s1=>?_)
   ·refine ⟨_,rfl,?_⟩;exact AQ rd (k' H' (aX.refl _))
   ·refine rall e1 ?_;have:=q H1 s1;rw [show pJ n (.tuple ds)=((ds.map cI).all id) by show (decide ((ds.length:Int)=n)&&ds.all cI)=_;rw [aM hl,Bool.true_and,List.all_map];rfl] at this;exact this
  | _=>cases ht
 ·have ht':lG n d=false:=by simpa using ht
  refine vE ht' ?_;have e:pJ n d=false:=by
   cases d with
   | tuple ds=>show (decide ((ds.length:Int)=n)&&ds.all cI)=false;rw [show decide ((ds.length:Int)=n)=false from ht',Bool.false_and]
   | _=>rfl
  have:=q H (aX.refl _);rw [e] at this;exact this
theorem aAK(F:iK K "total" "total" SW f fd)(T:kR K mg c)(FQ37:hU dM P w K mg base 2 "plus" ["one","other"] (oM K)):dP P w K mg base dM 3 f fd ["some"] (jR K):=by
 refine F.oky QI λvs H Q E h=>?_;unfold jR at h;obtain ⟨x,fs,B,rfl,r,ok,q⟩:=h;refine ⟨rfl,λcdv A outer s hr=>?_⟩;unfold cO at r;obtain ⟨a,xs,rfl,ha,rl⟩:=r;have hlen:xs.length=fs.length:=by rw [rl.len,aA]
 refine ⟨_,(aW (cC (i:=1) QI.nd rfl (Or.inl rfl) (cH (aH aE (aH aE aC))))
  (aW (jW PassesOwn.never rfl (jA (aJ 0)) (eK (i:=2) QI.nd rfl (Or.inl rfl)) (bG (cC (i:=1) QI.nd rfl (Or.inl rfl) (cF FQ37 (hr.mono Dd) (aH (aJ 1) (aH (aJ 2) aC))))))
  (bG (bV (aJ 1))))),?_⟩
 refine mS (by show 2<=64;decide) λp0 H0 hp0 e0 s0=>?_;refine ⟨_,rfl,a,rfl,⟨_,ha.keep s0⟩,?_⟩;refine sF (xs:=xs) (λi σ H'=>∃w o2,σ=[some (.ref a),some w,o2]/\aX H H'/\bR H' (iJ (fY (fs.take i))) w) ⟨_,_,rfl,s0,jM e0⟩ (λi σ H' _ p=>?_) ?_ ?_
 ·obtain ⟨w,o2,rfl,s1,_⟩:=p;exact ha.keep s1
 ·rintro i x σ H1 hx ⟨w,o2,rfl,s1,r1⟩;obtain ⟨d,hd,rd⟩:=rl.at hx;rw [aS] at hd;obtain ⟨g,hg,rfl⟩:=dG.mp hd;have okt:=ok.take i;have hm:=bK hg;refine ⟨_,rfl,_,rfl,?_⟩;have zt:=okt.tot;have zsz:=okt.sz;refine FS (HU.of r1) (BC (rd.keep s1)) (oE _ okt.low) (ok.low _ hm) (zt.mono Oo) (ok.szf hm) ?_;intro p2 H2 hp2 e2 s2;refine ⟨_,_,rfl,s1.trans s2,?_⟩;rw [QY hg,kE];exact jM e2
 ·rintro σ H1 ⟨w,o2,rfl,s1,r1⟩;refine ⟨_,rfl,?_⟩;rw [hlen,dW] at r1;exact q _ H1 s1 r1
theorem aA3(F:iK K "are_parts" "are_parts" TN f fd)(T:kR K mg c)(FQ21:hU dM P w K mg base 4 "are_shares" ["thing","many"] (mE K))(FQ38:hU dM P w K mg base 3 "total" ["some"] (jR K)):dP P w K mg base dM 5 f fd ["thing","many"] (lW K):=by
 refine F.oky aBC λvs H Q E h=>?_;unfold lW at h;obtain ⟨x,d,n,rfl,r,hn,sm,q⟩:=h;refine ⟨rfl,λcdv A outer s hr=>?_⟩;refine ⟨_,(bG (bV (fX (cF FQ21 (hr.mono Dd) (aH (aJ 0) (aH (aJ 1) aC))) (hZ (fG (VA K hr.units) (cF FQ38 (hr.mono Dd) (aH (aJ 0) aC)) (CQ (v:=.ref c.ONE) rfl T.g_ONE rfl) (nomark _)))))),?_⟩;refine ⟨_,rfl,_,rfl,?_⟩;refine AV r Oo λH1 s1=>?_;refine ⟨_,rfl,?_⟩;by_cases ht:pJ n d=true
 ·cases d with
  | tuple ds =>
   refine nC ht ?_;have ht2:=ht;rw [show pJ n (.tuple ds)=(decide ((ds.length:Int)=n)&&ds.all cI) from rfl,aQ] at ht2;have hl:(ds.length:Int)=n:=of_decide_eq_true ht2.1;have ok:=sO ht2.2 Oo sm;refine ⟨_,rfl,?_⟩;refine uQ (fs:=ds.map iI) (by rw [<-kY ht2.2];exact r.keep s1) ok λv H2 s2 r2=>?_;refine reK r2.k (cO.tup (K:=K) (IV (H:=H2) T.o_ONE) (cV.ints [1,1])) rfl rfl ?_;have:=q H2 (s1.trans s2);rw [show dJ n (.tuple ds)=(pJ n (.tuple ds)&&decide (fY (ds.map iI)=(1,1))) from rfl,ht,Bool.true_and] at this;rw [Bool.true_beq];show Q (.bl (PyData.eqv (iJ (fY (ds.map iI))) (iJ (1,1)))) H2;rw [xA];exact this
  | _=>cases ht
 ·have ht':pJ n d=false:=by simpa using ht
  refine vE ht' ?_;have e:dJ n d=false:=by
   cases d with
   | tuple ds=>show (pJ n (.tuple ds)&&_)=false;rw [ht',Bool.false_and]
   | _=>rfl
  have:=q H1 s1;rw [e] at this;exact this
theorem aA2(F:iK K "are_says" "are_says" TM f fd)(T:kR K mg c)(FQ19:hU dM P w K mg base 5 "are_parts" ["thing","many"] (lW K)):dP P w K mg base dM 6 f fd ["ways","thing"] (jG K):=by
 refine F.oky aBB λvs H Q E h=>?_;unfold jG at h;obtain ⟨x,d,W,rfl,r,hW,sm,q⟩:=h;refine ⟨rfl,λcdv A outer s hr=>?_⟩;refine ⟨_,(bG (bV (cF FQ19 (hr.mono Dd) (aH (aJ 1) (aH (bS dU aE (aJ 0)) aC))))),?_⟩;refine ⟨_,rfl,_,rfl,_,_,rfl,rfl,?_⟩;exact AR r Oo sm q
theorem aAX(F:iK K "is_counts" "is_counts" NJ f fd)(T:kR K mg c)(FQ30:hU dM P w K mg base 1 "is_tuple_of" ["thing","many"] (jB K))(FQ31:hU dM P w K mg base 1 "is_whole" ["thing"] (kF K)):dP P w K mg base dM 2 f fd ["faces","thing"] (mC K):=by
 refine F.oky aBz λvs H Q E h=>?_;unfold mC at h;obtain ⟨x,d,F,rfl,r,hn,q⟩:=h;refine ⟨rfl,λcdv A outer s hr=>?_⟩;refine ⟨_,(bG (bV (fX (cF FQ30 (hr.mono Dd) (aH (aJ 1) (aH (aJ 0) aC))) (hZ (cS (CC rfl) (by rfl) T.b_all Kk (aH (eZ (eA.of (psc:=bD NJ) (N:=["faces","thing"]) (N':=["one"]) (js:=[]) Kk rfl rfl rfl) (jA (aJ 1)) (λ_ _ _ _=>gH) (λ_ _ _ _=>(fX (cF FQ31 (hr.mono Dd) (aH (aJ 0) aC)) (hZ (fG RN (aJ 0) aE (nomark _)))))) aC)))))),?_⟩;refine ⟨_,rfl,_,rfl,?_⟩;refine nO r ?_;refine ⟨_,rfl,?_⟩;by_cases ht:lG (F:Int) d=true
 ·cases d with
  | tuple ds =>
   have hl:(ds.length:Int)=(F:Int):=of_decide_eq_true ht;refine nC ht ?_;unfold cO at r;obtain ⟨a,xs,rfl,ha,rl⟩:=r;refine ⟨_,rfl,a,rfl,⟨_,ha⟩,?_⟩;refine nX fQ Oo ha rl (λx d H' Q' hd rd s' k'=>?_) (λD H1 hD e1 s1=>?_)
   ·refine ⟨_,rfl,?_⟩;refine nN rd ?_;refine ⟨_,rfl,?_⟩;cases d
    case int z =>
     cases (show x=V.int z from rd);refine eX ?_;refine ⟨_,rfl,_,_,rfl,rfl,?_⟩;exact k' H' (aX.refl _)
    all_goals exact fB (k' H' (aX.refl _))
   ·refine rall e1 ?_;have:=q H1 s1;rw [show fC (F:Int) (.tuple ds)=((ds.map fQ).all id) by show (decide ((ds.length:Int)=(F:Int))&&ds.all fQ)=_;rw [aM hl,Bool.true_and,List.all_map];rfl] at this;exact this
  | _=>cases ht
 ·have ht':lG (F:Int) d=false:=by simpa using ht
  refine vE ht' ?_;have e:fC (F:Int) d=false:=by
   cases d with
   | tuple ds=>show (decide ((ds.length:Int)=(F:Int))&&ds.all fQ)=false;rw [show decide ((ds.length:Int)=(F:Int))=false from ht',Bool.false_and]
   | _=>rfl
  have:=q H (aX.refl _);rw [e] at this;exact this
end
abbrev NH:Stmt:=(top 15)
theorem aBr:bZ ["faces"] ["faces"] (bD NH):=⟨rfl,rfl,rfl,Kk,rfl,Kk,Kk⟩
abbrev SY:Stmt:=(top 16)
theorem aBq:bZ ["counts","face"] ["counts","face"] (bD SY):=⟨rfl,rfl,rfl,Kk,rfl,Kk,Kk⟩
abbrev NG:Stmt:=(top 17)
theorem aBp:bZ ["counts"] ["counts"] (bD NG):=⟨rfl,rfl,rfl,Kk,rfl,Kk,Kk⟩
abbrev SZ:Stmt:=(top 21)
theorem aBs:bZ ["says"] ["says"] (bD SZ):=⟨rfl,rfl,rfl,Kk,rfl,Kk,Kk⟩
abbrev TK:Stmt:=(top 25)
theorem QK:bZ ["level","table","found","counts","more"] ["level","table"] (bD TK):=⟨rfl,rfl,rfl,Kk,rfl,Kk,Kk⟩
abbrev TJ:Stmt:=(top 24)
theorem QJ:bZ ["faces","table","found","level"] ["faces","table"] (bD TJ):=⟨rfl,rfl,rfl,Kk,rfl,Kk,Kk⟩
theorem gL{es:List dB}{c:List Int}{fs:List Fr}(h:eU es c=some fs):(c,fs)∈es:=by
 unfold eU at h;obtain ⟨e,he,rfl⟩:=dG.mp h;have h1:=List.find?_some he;have h2:=List.mem_of_find?_eq_some he;have h3:e.1=c:=by simpa using h1
 rw [<-h3];exact h2
theorem uW{es:List dB}(nd:(es.map (·.1)).Nodup){e:dB}(he:e∈es):eU es e.1=some e.2:=by
 induction es with
 | nil=>cases he
 | cons d es ih =>
  rw [aV,List.nodup_cons] at nd;unfold eU;rcases aR.mp he with rfl | he
  ·rw [List.find?_cons_of_pos (by simp)];rfl
  ·have hne:¬(d.1=e.1):=λq=>nd.1 (q ▸ List.mem_map_of_mem he);rw [List.find?_cons_of_neg (by simpa using hne)];exact ih nd.2 he
def Nx(es:List dB)(l:List (List Int))(c:List Int):Prop:=∃b∈l,∃fs,eU es b=some fs/\c∈nexts b (hd fs)
structure CN(es:List dB)(l m:List (List Int)):Prop where
 srt:m.Pairwise λa b=>eV a b=true
 mem:∀c,c∈m↔Nx es l c
theorem VN{m:List (List Int)}(h:m.Pairwise λa b=>eV a b=true):m.Nodup:=h.imp λhab e=>by rw [e,jT] at hab;cases hab
inductive MP (F:Nat) (es:List dB):List (List Int)->List (List Int)->Prop
 | nil:MP F es [] []
 | cons {l m r:List (List Int)}:l≠[]->l.length<64->(∀c∈l,c.length=F)->CN es l m->MP F es m r->MP F es l (l++r)
theorem MP.few{F:Nat}{es:List dB}{l r:List (List Int)}(h:MP F es l r):l.length<64:=by
 cases h with
 | nil=>decide
 | cons _ h _ _ _=>exact h
theorem iY{c d:List Int}{f:Fr}(h:d∈nexts c f)(nn:∀x∈c,0<=x):d.length=c.length/\(∀x∈d,0<=x)/\d.sum=c.sum+1:=by
 have h0:=jY nn;obtain ⟨j,hj⟩:∃j:Nat,c.sum=(j:Int):=⟨c.sum.toNat,Oo⟩;have:=(yP (F:=c.length) (j:=j) ⟨rfl,nn,hj⟩ f).each d h;exact ⟨this.len,this.nn,by rw [this.sum,hj];rfl⟩
theorem YH{l:List (List Int)}(h:l.Pairwise rk):l.Nodup:=h.imp λhab e=>by
 subst e;rcases hab with z | z
 ·omega
 ·rw [jT] at z;exact absurd z.2 Dd
theorem uN(F:Nat):(List.replicate F (0:Int)).sum=0:=by
 induction F with
 | zero=>rfl
 | succ k ih=>rw [List.replicate_succ,List.sum_cons,ih];rfl
@[irreducible] def jC:Sp:=λvs H Q _=>∃F:Nat,vs=[.int (F:Int)]/\F<=64/\∀v H',aX H H'->bR H' (dX (List.replicate F 0)) v->Q v H'
theorem wB{H:Hp}{Q:VK}{E:XK}{F:Nat}(h:F<=64)(k:∀v H',aX H H'->bR H' (dX (List.replicate F 0)) v->Q v H'):jC [.int (F:Int)] H Q E:=by
 unfold jC;exact ⟨F,rfl,h,k⟩
@[irreducible] def iH:Sp:=λvs H Q _=>∃(x:V) (cs:List Int) (i:Nat),vs=[x,.int (i:Int)]/\bR H (dX cs) x/\i<cs.length/\cs.length<=64/\∀v H',aX H H'->bR H' (dX (bump cs i)) v->Q v H'
theorem uG{H:Hp}{Q:VK}{E:XK}{x:V}{cs:List Int}{i:Nat}(h1:bR H (dX cs) x)(h2:i<cs.length)(h3:cs.length<=64)(k:∀v H',aX H H'->bR H' (dX (bump cs i)) v->Q v H'):iH [x,.int (i:Int)] H Q E:=by
 unfold iH;exact ⟨x,cs,i,rfl,h1,h2,h3,k⟩
@[irreducible] def gU:Sp:=λvs H Q _=>∃(x:V) (cs:List Int),vs=[x]/\bR H (dX cs) x/\cs.length<=64/\∀D ys H',H D=none->H' D=some (.lst ys)->aL H' (((List.range cs.length).map (bump cs)).map dX) ys->aX H H'->Q (.ref D) H'
theorem sM{H:Hp}{Q:VK}{E:XK}{x:V}{cs:List Int}(h1:bR H (dX cs) x)(h3:cs.length<=64)(k:∀D ys H',H D=none->H' D=some (.lst ys)->aL H' (((List.range cs.length).map (bump cs)).map dX) ys->aX H H'->Q (.ref D) H'):gU [x] H Q E:=by
 unfold gU;exact ⟨x,cs,rfl,h1,h3,k⟩
section
theorem aAO(F:iK K "noughts" "noughts" NH f fd)(T:kR K mg c):dP P w K mg base dM 1 f fd ["faces"] jC:=by
 refine F.oky aBr λvs H Q E h=>?_;unfold jC at h;obtain ⟨F,rfl,hF,k⟩:=h;refine ⟨rfl,λcdv A outer s hr=>?_⟩;refine ⟨_,(bG (bV (kC gF (by rfl) T.b_tuple Kk (aH (eZ (eA.of (psc:=bD NH) (N:=["faces"]) (N':=["face"]) (js:=[]) Kk rfl rfl rfl) (hV rfl T.b_range (aH (aJ 0) aC)) (λ_ _ _ _=>gH) (λ_ _ _ _=>aE)) aC)))),?_⟩;refine ⟨_,rfl,_,rfl,Oo,Oo,?_⟩;refine mV (λi y H'=>∃n,y=.int n/\n=0) (λ_ _ _ _ _ h=>h) Oo (λi H' Q' hi s' k'=>k' _ H' (aX.refl _) ⟨0,rfl,rfl⟩) (λD ys H1 hD e1 s1 hy hr1=>?_);obtain ⟨zs,rfl,hz⟩:=wV (P:=λ_ n=>n=0) hr1;have ez:zs=List.replicate F 0:=by
  rw [aA] at hy;exact List.eq_replicate_iff.mpr ⟨Oo,λb hb=>by obtain ⟨i,h⟩:=List.mem_iff_getElem?.mp hb;exact hz i b h⟩
 subst ez;refine ⟨D,_,rfl,.inl ⟨gG.of e1,λl hl=>?_⟩⟩;exact k _ _ (s1.trans (aX.upd hl)) (iE bL)
theorem aAN(F:iK K "one_more" "one_more" SY f fd)(T:kR K mg c):dP P w K mg base dM 1 f fd ["counts","face"] iH:=by
 refine F.oky aBq λvs H Q E h=>?_;unfold iH at h;obtain ⟨x,cs,i,rfl,rx,hi,hl,k⟩:=h;refine ⟨rfl,λcdv A outer s hr=>?_⟩;obtain ⟨a,rfl,ha⟩:=iO rx;refine ⟨_,(bG (bV (bS (dA K) (bS (dA K) (cM (cY K) (aJ 0) cX (cT (aJ 1))) (cH (aH (bS dU (cK cG (aJ 0) (aJ 1) (λ_ _=>rfl)) aE) aC))) (cM (cY K) (aJ 0) (cT (bS dU (aJ 1) aE)) cX)))),?_⟩;refine ⟨_,rfl,_,rfl,_,rfl,?_⟩;refine jH ha λc2 H2 s2 e2=>?_;refine ⟨_,rfl,_,rfl,?_⟩;have hat:AC (cs.map V.int) (i:Int)=some (.int (cs.getD i 0)):=fK (by rw [aS,bJ,aN hi];rfl);refine xQ (s2 _ _ ha) hat ?_;refine ⟨_,_,rfl,rfl,?_⟩;refine mS (by show 1<=64;decide) λc3 H3 hc3 e3 s3=>?_;refine iP (s3 _ _ e2) e3 (by rw [bA,aA];show min i cs.length+1<=1000;omega) λc4 H4 s4 e4=>?_;refine ⟨_,rfl,_,rfl,_,_,rfl,rfl,?_⟩;refine ⟨_,rfl,?_⟩;refine iF (k:=i+1) Oo (s4 _ _ (s3 _ _ (s2 _ _ ha))) λc5 H5 s5 e5=>?_;refine iP (s5 _ _ e4) e5 (by rw [aI,bA,List.length_drop,aA];show min i cs.length+1+(cs.length-(i+1))<=1000;omega) λc6 H6 s6 e6=>?_;refine k _ H6 ((((s2.trans s3).trans s4).trans s5).trans s6) (iE ?_);rw [e6];unfold bump;rw [bM,bM,List.map_take,List.map_drop]
 rfl
theorem aAM(F:iK K "ones_more" "ones_more" NG f fd)(T:kR K mg c)(FQ35:hU dM P w K mg base 1 "one_more" ["counts","face"] iH):dP P w K mg base dM 2 f fd ["counts"] gU:=by
 refine F.oky aBp λvs H Q E h=>?_;unfold gU at h;obtain ⟨x,cs,rfl,rx,hl,k⟩:=h;refine ⟨rfl,λcdv A outer s hr=>?_⟩;obtain ⟨a,rfl,ha⟩:=iO rx;refine ⟨_,(bG (bV (eZ (eA.of (psc:=bD NG) (N:=["counts"]) (N':=["face","counts"]) (js:=[0]) Kk rfl rfl rfl) (hV rfl T.b_range (aH (cS fS (by rfl) T.b_len Kk (aH (aJ 0) aC)) aC)) (λ_ _ _ _=>gH) (λ_ _ _ _=>(cF FQ35 (hr.mono Dd) (aH (aJ 1) (aH (aJ 0) aC))))))),?_⟩;refine ⟨_,rfl,?_⟩;refine NP ha ?_;rw [aA];refine ⟨_,rfl,Oo,Oo,?_⟩;refine mV (λi y H'=>i<cs.length/\bR H' (dX (bump cs i)) y) (λi y H1 H2 s ⟨h1,h2⟩=>⟨h1,h2.flat s (jN _)⟩) Oo (λi H' Q' hi s' k'=>?_) (λD ys H4 hD hD4 s4 hy4 hr4=>?_)
 ·rw [Int.zero_add];refine ⟨_,rfl,_,rfl,?_⟩;refine uG (rx.same s') Oo hl λv H5 s5 r5=>?_;exact k' _ H5 s5 ⟨Oo,r5⟩
 ·refine k D ys H4 hD hD4 ?_ s4;refine aL.ofIdx (by rw [hy4,aA,aA,cE];omega) λi y hi=>?_;obtain ⟨h1,h2⟩:=hr4 i y hi;exact ⟨dX (bump cs i),by rw [aS,aS,eR h1];rfl,h2⟩
end
structure SyW(n:Nat)(fs:List Fr):Prop where
 len:fs.length=n
 sh:∀f∈fs,iV f/\0<=f.1
structure ME(F W:Nat)(e:dB):Prop where
 len:e.1.length=F
 nn:∀x∈e.1,0<=x
 sy:SyW (1+W) e.2
def ML(K:PySem.W.Frag)(H:Hp)(fs:List Fr)(v:V):Prop:=cO K H (lO fs) v
theorem ML.same{K:PySem.W.Frag}{H H':Hp}{fs:List Fr}{v:V}(s:aX H H')(h:ML K H fs v):ML K H' fs v:=cO.keep s h
abbrev mM(K:PySem.W.Frag)(H:Hp)(p:List dE × V)(e:dB):Prop:=p.1=kT e.1/\ML K H e.2 p.2
def pM(K:PySem.W.Frag)(H:Hp)(d:Addr)(es:List dB):Prop:=∃kvs,Rd H d (.dT kvs)/\Paired (mM K H) kvs es
theorem pM.same{K:PySem.W.Frag}{H H':Hp}{d:Addr}{es:List dB}(s:aX H H')(h:pM K H d es):pM K H' d es:=by
 obtain ⟨kvs,rd,pr⟩:=h;refine ⟨kvs,?_,Paired.imp' (λ_ _ r=>⟨r.1,r.2.same s⟩) pr⟩;rcases rd with rd | ⟨o,rd⟩
 ·exact .inl (s _ _ rd)
 ·exact .inr ⟨o,s _ _ rd⟩
theorem XQ{K:PySem.W.Frag}{H:Hp}{c:List Int}:∀{kvs:List (List dE × V)}{es:List dB},Paired (mM K H) kvs es->(eU es c=none->gS kvs (kT c)=none)/\∀fs,eU es c=some fs->∃v,gS kvs (kT c)=some v/\ML K H fs v
 | _,_,.nil=>⟨λ_=>rfl,λfs h=>by unfold eU at h;cases h⟩
 | p::kvs,e::es,.cons h t=>by
  by_cases he:e.1=c
  ·have e1:gS (p::kvs) (kT c)=some p.2:=lQ (by rw [h.1,he]);have e2:eU (e::es) c=some e.2:=by unfold eU;rw [List.find?_cons_of_pos (by simpa using he)];rfl
   rw [e1,e2];exact ⟨(λh=>by cases h),λfs hf=>by cases hf;exact ⟨_,rfl,h.2⟩⟩
  ·have e1:gS (p::kvs) (kT c)=gS kvs (kT c):=lR (by rw [h.1];exact λz=>he (lE z));have e2:eU (e::es) c=eU es c:=by unfold eU;rw [List.find?_cons_of_neg (by simpa using he)]
   rw [e1,e2];exact XQ t
theorem pM.get{K:PySem.W.Frag}{H:Hp}{d b:Addr}{es:List dB}{c:List Int}(h:pM K H d es)(hb:H b=some (.tup (c.map V.int))):(eU es c=none->kQ H d (.ref b) none)/\∀fs,eU es c=some fs->∃v,kQ H d (.ref b) (some v)/\ML K H fs v:=by
 obtain ⟨kvs,rd,pr⟩:=h;have g:kQ H d (.ref b) (gS kvs (kT c)):=.inr ⟨kvs,kT c,b,rd,rfl,by rw [nT];exact hb,rfl⟩;obtain ⟨v1,v2⟩:=XQ (c:=c) pr;refine ⟨λq=>by rw [v1 q] at g;exact g,λfs q=>?_⟩;obtain ⟨v,e,sy⟩:=v2 fs q;rw [e] at g;exact ⟨v,g,sy⟩
theorem DM{n:Nat}{fs:List Fr}(h:SyW (1+n) fs)(hn:n<=4):∃f r,fs=f::r/\hd fs=f/\(0<f.1↔f≠(0,1)):=by
 have hl:=h.len;cases fs with
 | nil=>rw [List.length_nil] at hl;omega
 | cons f r =>
  refine ⟨f,r,rfl,rfl,λq e=>?_,λq=>?_⟩
  ·rw [e] at q;exact absurd q Dd
  ·have s:=h.sh f (aF ..);have h0:=s.2;by_cases z:f.1=0
   ·exfalso;have hg:=s.1.low;have hp:=s.1.pos;rw [z] at hg;have:Int.gcd 0 f.2=f.2.natAbs:=Int.gcd_zero_left ..;rw [this] at hg;exact q (Prod.ext z (by show f.2=1;omega))
   ·omega
theorem rdg{H:Hp}{p:Addr}{y v:V}{Q:VK}(g:kQ H p y (some v))(q:Q v H):RM (.ref p) y H Q:=by unfold RM;exact ⟨p,v,rfl,g,q⟩
@[irreducible] def kH(K:PySem.W.Frag):Sp:=λvs H Q _=>∃(v:V) (f:Fr) (fs:List Fr),vs=[v]/\ML K H (f::fs) v/\Q (.bl (decide (0<f.1))) H
theorem xY{K:PySem.W.Frag}{H:Hp}{Q:VK}{E:XK}{v:V}{f:Fr}{fs:List Fr}(h:ML K H (f::fs) v)(q:Q (.bl (decide (0<f.1))) H):kH K [v] H Q E:=by unfold kH;exact ⟨v,f,fs,rfl,h,q⟩
structure QO(F W:Nat)(es:List dB):Prop where
 f:1<=F/\F<=4
 w:W<=4
 each:∀e∈es,ME F W e
@[irreducible] def oP(K:PySem.W.Frag):Sp:=λvs H Q _=>∃(L d:Addr) (ys:List V) (es:List dB) (l m:List (List Int)) (F W:Nat),vs=[.ref L,.ref d]/\H L=some (.lst ys)/\aL H (l.map dX) ys/\pM K H d es/\QO F W es/\CN es l m/\l.length<64/\m.length<64/\(∀c∈l,c.length=F) /\
 ∀D zs H',H D=none->H' D=some (.lst zs)->aL H' (m.map dX) zs->aX H H'->Q (.ref D) H'
theorem FW{K:PySem.W.Frag}{H:Hp}{Q:VK}{E:XK}{L d:Addr}{ys:List V}{es:List dB}{l m:List (List Int)}{F W:Nat}(h1:H L=some (.lst ys))(h2:aL H (l.map dX) ys)(h3:pM K H d es)(h4:QO F W es)(h5:CN es l m)(h6:l.length<64)(h7:m.length<64)(h8:∀c∈l,c.length=F)
  (q:∀D zs H',H D=none->H' D=some (.lst zs)->aL H' (m.map dX) zs->aX H H'->Q (.ref D) H'):oP K [.ref L,.ref d] H Q E:=by
 unfold oP;exact ⟨L,d,ys,es,l,m,F,W,rfl,h1,h2,h3,h4,h5,h6,h7,h8,q⟩
@[irreducible] def oO(K:PySem.W.Frag):Sp:=λvs H Q _=>∃(d:Addr) (es:List dB) (cs:List (List Int)) (F W:Nat),vs=[.int (F:Int),.ref d]/\pM K H d es/\QO F W es/\MP F es [List.replicate F 0] cs/\cs.length<=320 /\
 ∀D zs H',H D=none->H' D=some (.lst zs)->aL H' (cs.map dX) zs->aX H H'->Q (.ref D) H'
theorem FV{K:PySem.W.Frag}{H:Hp}{Q:VK}{E:XK}{d:Addr}{es:List dB}{cs:List (List Int)}{F W:Nat}(h1:pM K H d es)(h2:QO F W es)(h3:MP F es [List.replicate F 0] cs)(h4:cs.length<=320)
  (q:∀D zs H',H D=none->H' D=some (.lst zs)->aL H' (cs.map dX) zs->aX H H'->Q (.ref D) H'):oO K [.int (F:Int),.ref d] H Q E:=by
 unfold oO;exact ⟨d,es,cs,F,W,rfl,h1,h2,h3,h4,q⟩
theorem RS{K:PySem.W.Frag}{H:Hp}:∀{kvs:List (List dE × V)}{es:List dB},Paired (mM K H) kvs es->kvs.map (·.1)=es.map λe=>kT e.1
 | _,_,.nil=>rfl
 | _,_,.cons h t=>by rw [aV,aV,h.1,RS t]
theorem KN{kvs:List (List dE × V)}{ks:List (List Int)}{v:V}(c:List Int)(hk:kvs.map (·.1)=ks.map kT)(nd:ks.Nodup):∃ks2:List (List Int),(fL kvs (kT c) v).map (·.1)=ks2.map kT/\ks2.Nodup/\∀x,x∈ks2↔x∈ks\/x=c:=by
 cases e:gS kvs (kT c) with
 | some u =>
  refine ⟨ks,by rw [uL (by rw [e];rfl),hk],nd,λx=>⟨.inl,λh=>?_⟩⟩;rcases h with h | rfl
  ·exact h
  ·have:kT x∈kvs.map (·.1):=CS e;rw [hk] at this;obtain ⟨y,hy,ey⟩:=aU.mp this;rw [<-lE ey];exact hy
 | none =>
  have hn:c ∉ ks:=λh=>by
   have:kT c∈kvs.map (·.1):=by rw [hk];exact List.mem_map_of_mem h
   exact IK e this
  refine ⟨ks++[c],by rw [yL v e,bM,bM,hk];rfl,List.nodup_append.mpr ⟨nd,by simp,λa ha b hb e=>by cases aP.mp hb;subst e;exact hn ha⟩,λx=>by rw [bE,aP]⟩
section
theorem aAP(F:iK K "looks_on" "looks_on" SZ f fd)(T:kR K mg c):dP P w K mg base dM 1 f fd ["says"] (kH K):=by
 refine F.oky aBs λvs H Q E h=>?_;unfold kH at h;obtain ⟨x,f,fs,rfl,sy,k⟩:=h;refine ⟨rfl,λcdv A outer s hr=>?_⟩;unfold ML at sy;unfold cO at sy;obtain ⟨a,xs,rfl,ha,rl⟩:=sy;obtain ⟨x0,hx0,r0⟩:=rl.get (i:=0) (d:=iJ f) rfl;obtain ⟨b,rfl,hb⟩:=BC r0;refine ⟨_,(bG (bV (fG sV (cK cG (cK cG (aJ 0) (CQ (v:=.int 0) rfl T.g_LOOKS_ON ⟨_,rfl⟩) (λ_ _=>rfl)) aE (λ_ _=>rfl)) aE (nomark _)))),?_⟩;refine ⟨_,rfl,?_⟩;refine sE ha (fK (j:=0) hx0) ?_;refine sE hb rfl ?_;refine ⟨_,_,rfl,rfl,?_⟩;exact k
theorem aAZ(F:iK K "counts_behind" "counts_behind" TK f fd)(T:kR K mg c)(FQ33:hU dM P w K mg base 1 "looks_on" ["says"] (kH K))(FQ36:hU dM P w K mg base 2 "ones_more" ["counts"] gU):dP P w K mg base dM 3 f fd ["level","table"] (oP K):=by
 refine F.oky QK λvs H Q E h=>?_;unfold oP at h;obtain ⟨L,d,ys,es,l,m,F,W,rfl,hL,ry,tb,ok,nx,l64,m64,lF,q⟩:=h;refine ⟨rfl,λcdv A outer s hr=>?_⟩;have ly:ys.length=l.length:=by rw [ry.len,aA]
 refine ⟨_,(aW (cC (i:=2) QK.nd rfl (Or.inl rfl) IG)
  (aW (jW PassesOwn.never rfl (kU (aJ 0)) (eK (i:=3) QK.nd rfl (Or.inl rfl)) (bG (eP (oA (IC (dH (UY hr.u1) (aJ 3) (aJ 1) (by with_unfolding_all rfl)) (CP (eE (cF FQ33 (hr.mono Dd) (aH (kX hr.u1 (aJ 1) (aJ 3)) aC)))))) (bG (jW PassesOwn.never rfl (kU (cF FQ36 (hr.mono Dd) (aH (aJ 3) aC))) (eK (i:=4) QK.nd rfl (Or.inl rfl)) (bG (oC hr.u1 (aJ 2) (aJ 4) fW)))) cR)))
  (bG (bV (cS (xH rfl) (by rfl) T.b_sorted Kk (aH (aJ 2) aC)))))),?_⟩
 intro D hD;have s0:=aX.upd (o:=.dT []) hD;have e0:(upd H D (.dT [])) D=some (.dT []):=bL;generalize upd H D (.dT [])=H0 at s0 e0 ⊢;refine ⟨_,rfl,L,rfl,⟨_,gG.of (s0 _ _ hL)⟩,?_⟩;have sub:∀i c,Nx es (l.take i) c->c∈m:=λi c ⟨b,hb,fs,e,z⟩=>(nx.mem c).mpr ⟨b,List.mem_of_mem_take hb,fs,e,z⟩;refine pD (xs:=ys) (λi σ H'=>∃(o3 o4:Option V) (kvs:List (List dE × V)) (ks:List (List Int)),σ=[some (.ref L),some (.ref d),some (.ref D),o3,o4]/\aX H H'/\H' D=some (.dT kvs)/\kvs.map (·.1)=ks.map kT/\ks.Nodup/\∀c,c∈ks↔Nx es (l.take i) c)
  ⟨_,_,[],[],rfl,s0,e0,rfl,List.nodup_nil,λc=>⟨(λh=>by cases h),λ⟨b,hb,_⟩=>by rw [List.take_zero] at hb;cases hb⟩⟩ (λi σ H' _ p=>?_) ?_ ?_
 ·obtain ⟨_,_,_,_,_,s',_⟩:=p;exact gG.of (s' _ _ hL)
 ·rintro i x σ H1 hx ⟨o3,o4,kvs,ks,rfl,s1,e1,hk,nd,hm⟩;obtain ⟨cc,hc,rx⟩:=ry.atI hx;obtain ⟨b,rfl,hb⟩:=iO (rx.same s1);have hcm:=bK hc;have ti:l.take (i+1)=l.take i++[cc]:=by rw [fN,hc];rfl
  have nxs:∀z,Nx es (l.take (i+1)) z↔Nx es (l.take i) z\/∃fs,eU es cc=some fs/\z∈nexts cc (hd fs):=λz=>by
   rw [ti];constructor
   ·rintro ⟨y,hy,fs,e,hz⟩;rcases bE.mp hy with hy | hy
    ·exact .inl ⟨y,hy,fs,e,hz⟩
    ·cases aP.mp hy;exact .inr ⟨fs,e,hz⟩
   ·rintro (⟨y,hy,fs,e,hz⟩ | ⟨fs,e,hz⟩)
    ·exact ⟨y,bO _ hy,fs,e,hz⟩
    ·exact ⟨cc,aG _ (aP.mpr rfl),fs,e,hz⟩
  obtain ⟨g1,g2⟩:=(tb.same s1).get hb;refine ⟨_,rfl,_,rfl,?_⟩;cases hs:eU es cc with
  | none =>
   refine rind (g1 hs) ?_;refine ⟨_,rfl,?_⟩;refine fB ?_;refine ⟨_,_,kvs,ks,rfl,s1,e1,hk,nd,λz=>?_⟩;rw [nxs,hm];exact ⟨.inl,λh=>by rcases h with h | ⟨fs,e,_⟩;exact h;rw [hs] at e;cases e⟩
  | some fs =>
   obtain ⟨v,gv,sv⟩:=g2 fs hs;refine rind gv ?_;refine ⟨_,rfl,?_⟩;refine eX ?_;have et:=ok.each _ (gL hs);obtain ⟨f0,fr,rfl,hh,hf⟩:=DM et.sy ok.w;refine ⟨_,rfl,_,rfl,?_⟩;refine rdg gv ?_;refine xY sv ?_;refine ⟨_,rfl,?_⟩;have hh:hd (f0::fr)=f0:=rfl;refine lP (λhp=>?_) (λhp=>?_)
   ·have hne:=hf.mp hp;have enx:nexts cc (hd (f0::fr))=(List.range cc.length).map (bump cc):=by unfold nexts;rw [hh,if_neg hne]
    have lcc:=lF cc hcm;have hF4:=ok.f;refine ⟨_,rfl,?_⟩;refine sM (iE hb) Oo λD2 ys2 H2 hD2 e2 r2 s2=>?_;refine ⟨D2,rfl,⟨_,gG.of e2⟩,?_⟩;have nDD:D2≠D:=λz=>by subst z;rw [e1] at hD2;cases hD2
    have ly2:ys2.length=cc.length:=by rw [r2.len,aA,aA,cE]
    refine pD (xs:=ys2) (λj σ H'=>∃(o4:Option V) (kvs:List (List dE × V)) (ks:List (List Int)),σ=[some (.ref L),some (.ref d),some (.ref D),some (.ref b),o4]/\aX H H'/\H' D2=some (.lst ys2)/\aL H' (((List.range cc.length).map (bump cc)).map dX) ys2/\H' D=some (.dT kvs)/\kvs.map (·.1)=ks.map kT/\ks.Nodup/\∀z,z∈ks↔Nx es (l.take i) z\/z∈((List.range cc.length).map (bump cc)).take j)
     ⟨_,kvs,ks,rfl,s1.trans s2,e2,r2,s2 _ _ e1,hk,nd,λz=>by rw [hm,List.take_zero];exact ⟨.inl,λh=>by rcases h with h | h;exact h;cases h⟩⟩ (λj σ H' _ p=>?_) ?_ ?_
    ·obtain ⟨_,_,_,_,_,h,_⟩:=p;exact gG.of h
    ·rintro j x2 σ H3 hx2 ⟨o4',kvs',ks',rfl,s3,e3,r3,e3D,hk',nd',hm'⟩;obtain ⟨z2,hz2,rz2⟩:=r3.atI hx2;obtain ⟨b2,rfl,hb2⟩:=iO rz2;have hks:ks'.length<=m.length:=eJ nd' λz hz=>by
      rcases (hm' z).mp hz with h | h
      ·exact sub i z h
      ·exact sub (i+1) z ((nxs z).mpr (.inr ⟨_,hs,by rw [enx];exact List.mem_of_mem_take h⟩))
     have lkv:kvs'.length=ks'.length:=by have:=congrArg List.length hk';simpa using this
     refine ⟨_,rfl,_,rfl,?_⟩;refine dpT e3D hb2 Oo λH4 e4 b4=>?_;have t4:=b4.tT e3D;obtain ⟨ks2,k1,k2,k3⟩:=KN (v:=.bl true) z2 hk' nd';refine ⟨_,_,ks2,rfl,aX.thru hD s3 b4,b4.at nDD e3,r3.flat t4 (fE _),e4,k1,k2,λz=>?_⟩;rw [k3,hm',fN,hz2];simp only [Option.toList_some,bE,aP];constructor
     ·rintro ((h | h) | h)
      ·exact .inl h
      ·exact .inr (.inl h)
      ·exact .inr (.inr h)
     ·rintro (h | h | h)
      ·exact .inl (.inl h)
      ·exact .inl (.inr h)
      ·exact .inr h
    ·rintro σ H3 ⟨o4',kvs',ks',rfl,s3,e3,r3,e3D,hk',nd',hm'⟩;refine ⟨_,_,kvs',ks',rfl,s3,e3D,hk',nd',λz=>?_⟩;have tk:((List.range cc.length).map (bump cc)).take ys2.length=(List.range cc.length).map (bump cc):=List.take_of_length_le (by rw [aA,cE];omega);rw [hm',nxs,tk];constructor
     ·rintro (h | h)
      ·exact .inl h
      ·exact .inr ⟨_,hs,by rw [enx];exact h⟩
     ·rintro (h | ⟨fs,e,h⟩)
      ·exact .inl h
      ·rw [hs] at e;cases e;rw [enx] at h;exact .inr h
   ·have hz:f0=(0,1):=by
     by_cases z:f0=(0,1)
     ·exact z
     ·exact absurd (hf.mpr z) hp
    have enx:nexts cc (hd (f0::fr))=[]:=by unfold nexts;rw [hh,if_pos hz]
    refine ⟨_,_,kvs,ks,rfl,s1,e1,hk,nd,λz=>?_⟩;rw [nxs,hm];refine ⟨.inl,λh=>?_⟩;rcases h with h | ⟨fs,e,h⟩
    ·exact h
    ·rw [hs] at e;cases e;rw [enx] at h;cases h
 ·rintro σ H1 ⟨o3,o4,kvs,ks,rfl,s1,e1,hk,nd,hm⟩;rw [ly,dW] at hm;have hks:ks.length<=m.length:=eJ nd λz hz=>(nx.mem z).mpr ((hm z).mp hz);refine ⟨_,rfl,?_⟩;refine rsrd e1 hk (λz hz=>?_) Oo λD3 zs ds H2 hp hsr hD3 e2 r2 s2=>?_
  ·intro z0;obtain ⟨y,hy,fs,e,hn⟩:=(hm z).mp hz;have hl:=(iY hn (ok.each _ (gL e)).nn).1;rw [z0,List.length_nil,lF y hy] at hl;have:=ok.f;omega
  ·have em:ds=m:=tE hsr nx.srt λz=>by rw [hp.mem_iff,hm,nx.mem]
   subst em;exact q D3 zs H2 (s1.free hD3) e2 r2 (s1.trans s2)
theorem aAY(F:iK K "counts_come_to" "counts_come_to" TJ f fd)(T:kR K mg c)(FQ34:hU dM P w K mg base 1 "noughts" ["faces"] jC)(FQ23:hU dM P w K mg base 3 "counts_behind" ["level","table"] (oP K)):dP P w K mg base dM 4 f fd ["faces","table"] (oO K):=by
 refine F.oky QJ λvs H Q E h=>?_;unfold oO at h;obtain ⟨d,es,cs,F,W,rfl,tb,ok,bf,c320,q⟩:=h;refine ⟨rfl,λcdv A outer s hr=>?_⟩;have hF:=ok.f;refine ⟨_,(aW (cC (i:=2) QJ.nd rfl (Or.inl rfl) (dS aC))
  (aW (cC (i:=3) QJ.nd rfl (Or.inl rfl) (dS (aH (cF FQ34 (hr.mono Dd) (aH (aJ 0) aC)) aC)))
  (aW (oB PassesOwn.never (dH sV (cS fS (by rfl) T.b_len Kk (aH (aJ 3) aC)) aE (nomark _)) (aW (vU (II PySem.F.plainAttrs_list PySem.F.slot_list_extend PySem.F.type_list_extend KH (aJ 2) (aH (aJ 3) aC)))
  (bG (cC (i:=3) QJ.nd rfl (Or.inl rfl) (cF FQ23 (hr.mono Dd) (aH (aJ 3) (aH (aJ 1) aC)))))))
  (bG (bV (aJ 2)))))),?_⟩
 refine rJ (by show 0<=64;decide) λfo H1 hfo e1 s1=>?_;refine ⟨_,rfl,?_⟩;refine wB Oo λv H2 s2 r2=>?_;refine rJ (by show 1<=64;decide) λle H3 hle e3 s3=>?_;have s13:=(s1.trans s2).trans s3;have nle:le≠fo:=λz=>by subst z;rw [s2 _ _ e1] at hle;cases hle
 refine rV (λm σ H'=>∃(le:Addr) (vs ws:List V) (dn l r:List (List Int)),σ=[some (.int (F:Int)),some (.ref d),some (.ref fo),some (.ref le)]/\aX H H'/\H' fo=some (.lst vs)/\aL H' (dn.map dX) vs/\H' le=some (.lst ws)/\aL H' (l.map dX) ws/\le≠fo/\MP F es l r/\dn++r=cs/\m=r.length)
  (λσ H'=>∃(le:Addr) (vs:List V),σ=[some (.int (F:Int)),some (.ref d),some (.ref fo),some (.ref le)]/\aX H H'/\H' fo=some (.lst vs)/\aL H' (cs.map dX) vs)
  _ ⟨le,[],_,[],[List.replicate F 0],cs,rfl,s13,s3 _ _ (s2 _ _ e1),aL.nil,e3,aL.cons (r2.same s3) aL.nil,nle,bf,rfl,rfl⟩ ?_ ?_
 ·clear e1 s1 s2 s3 s13 e3 hle nle r2;rintro m σ H1 ⟨le,vs,ws,dn,l,r,rfl,s1,e1,r1,e2,r2,nle,bf,hcs,rfl⟩;have lw':ws.length=l.length:=by rw [r2.len,aA]
  have lv:vs.length=dn.length:=by rw [r1.len,aA]
  have lcs:dn.length+r.length<=320:=by rw [<-aI,hcs];exact c320
  refine ⟨_,rfl,?_⟩;refine rlL e2 ?_;refine ⟨_,_,rfl,rfl,_,rfl,?_⟩;cases bf with
  | nil =>
   have e0:ws=[]:=List.eq_nil_of_length_eq_zero (by rw [lw'];rfl);subst e0;refine fB ⟨le,vs,rfl,s1,e1,?_⟩;rw [List.append_nil] at hcs;rw [<-hcs];exact r1
  | @cons _ m' r' h1 h2 h3 h4 h5 =>
   have l0:=List.length_pos_iff.mpr h1;refine nC (aM Oo) ?_;rw [aI] at lcs;refine ⟨_,rfl,tyL e1,_,rfl,?_⟩;refine ZO e1 e2 Oo λH2 e3 b3=>?_;have t3:=b3.t e1;have s2:aX H H2:=aX.thru hfo s1 b3;refine ⟨_,rfl,_,rfl,?_⟩;have r2':=r2.flat t3 (fE _);have e2':=b3.at nle e2;refine FW e2' r2' (tb.same s2) ok h4 h2 h5.few h3 λD zs H3 hD e4 r4 s4=>?_;have nD:D≠fo:=λz=>by subst z;rw [e3] at hD;cases hD
   refine ⟨_,by rw [aI];omega,D,vs++ws,zs,dn++l,m',r',rfl,s2.trans s4,s4 _ _ e3,?_,e4,r4,nD,h5,?_,rfl⟩
   ·rw [bM];exact aL.append (r2'.same s4) ((r1.flat t3 (fE _)).same s4)
   ·rw [List.append_assoc];exact hcs
 ·rintro σ H1 ⟨le,vs,rfl,s1,e1,r1⟩;exact ⟨_,rfl,q fo vs H1 hfo e1 r1 s1⟩
end
def vM:Nat->Nat->List (List Int)
 | 0,m=>if m=0 then [[]] else []
 | F+1,m=>(List.range (m+1)).flatMap λk=>(vM F (m-k)).map λc=>((k:Nat):Int)::c
theorem eS:∀{F m:Nat}{c:List Int},c∈vM F m↔c.length=F/\(∀x∈c,0<=x)/\c.sum=(m:Int)
 | 0,m,c=>by
  unfold vM;by_cases h:m=0
  ·subst h;rw [if_pos rfl,aP];constructor
   ·rintro rfl;exact ⟨rfl,(λx hx=>by cases hx),rfl⟩
   ·rintro ⟨h,_,_⟩;exact List.length_eq_zero_iff.mp h
  ·rw [if_neg h];constructor
   ·intro z;cases z
   ·rintro ⟨h1,_,h3⟩;rw [List.length_eq_zero_iff.mp h1] at h3;exact absurd (show ((0:Nat):Int)=(m:Int) from h3) Oo
 | F+1,m,c=>by
  unfold vM;rw [List.mem_flatMap];constructor
  ·rintro ⟨k,hk,h⟩;obtain ⟨d,hd,rfl⟩:=aU.mp h;obtain ⟨h1,h2,h3⟩:=eS.mp hd;have:=cU.mp hk;refine ⟨by rw [bF,h1],λx hx=>?_,by rw [List.sum_cons,h3];omega⟩;rcases aR.mp hx with rfl | hx
   ·omega
   ·exact h2 x hx
  ·rintro ⟨h1,h2,h3⟩;cases c with
   | nil=>cases h1
   | cons a d =>
    have ha:=h2 a (aF ..);have hd:∀x∈d,0<=x:=λx hx=>h2 x (aD _ hx);have h0:=jY hd;rw [List.sum_cons] at h3;refine ⟨a.toNat,cU.mpr Oo,aU.mpr ⟨d,eS.mpr ⟨by simpa using h1,hd,Oo⟩,?_⟩⟩;rw [show ((a.toNat:Nat):Int)=a by omega]
theorem ET:∀F m:Nat,(vM F m).Pairwise λa b=>eV a b=true
 | 0,m=>by unfold vM;split;exact List.pairwise_singleton _ _;exact List.Pairwise.nil
 | F+1,m=>by
  unfold vM;rw [List.flatMap_def,List.pairwise_flatten];refine ⟨λl hl=>?_,?_⟩
  ·obtain ⟨k,_,rfl⟩:=aU.mp hl;rw [List.pairwise_map];exact (ET F (m-k)).imp λh=>by rw [iT,if_pos rfl];exact h
  ·rw [List.pairwise_map];refine List.pairwise_lt_range.imp λ{i j} hij a ha b hb=>?_;obtain ⟨c,_,rfl⟩:=aU.mp ha;obtain ⟨d,_,rfl⟩:=aU.mp hb;rw [iT,if_neg Oo];exact aM Oo
def goB(rs:List dB)(b c:List Int):Bool:=match eU rs b with | some fs=>decide (c∈nexts b (hd fs)) | none=>false
theorem ED{rs:List dB}{b c:List Int}:goB rs b c=true ↔ ∃fs,eU rs b=some fs/\c∈nexts b (hd fs):=by
 unfold goB;cases eU rs b with
 | none=>exact ⟨(λh=>by cases h),(λ⟨_,h,_⟩=>by cases h)⟩
 | some fs=>exact ⟨(λh=>⟨fs,rfl,of_decide_eq_true h⟩),(λ⟨_,h,k⟩=>by cases h;exact aM k)⟩
def qY(F:Nat)(rs:List dB):Nat->List (List Int)
 | 0=>[List.replicate F 0]
 | k+1=>(vM F (k+1)).filter λc=>(qY F rs k).any λb=>goB rs b c
theorem jS{F:Nat}{rs:List dB}:∀{k:Nat}{c:List Int},c∈qY F rs k->c∈vM F k
 | 0,c,h=>by cases aP.mp h;exact eS.mpr ⟨bX ..,λx hx=>by rw [List.eq_of_mem_replicate hx];exact Int.le_refl _,uN F⟩
 | k+1,c,h=>(dC.mp h).1
theorem wU(F:Nat)(rs:List dB):∀k:Nat,(qY F rs k).Pairwise λa b=>eV a b=true
 | 0=>List.pairwise_singleton _ _
 | k+1=>(ET F (k+1)).filter _
theorem gY{F:Nat}{rs:List dB}{k:Nat}{c:List Int}:c∈qY F rs (k+1)↔Nx rs (qY F rs k) c:=by
 constructor
 ·intro h;obtain ⟨b,hb,hd'⟩:=List.any_eq_true.mp (dC.mp h).2;obtain ⟨fs,e,q⟩:=ED.mp hd';exact ⟨b,hb,fs,e,q⟩
 ·rintro ⟨b,hb,fs,e,q⟩;obtain ⟨h1,h2,h3⟩:=eS.mp (jS hb);obtain ⟨n1,n2,n3⟩:=iY q h2;exact dC.mpr ⟨eS.mpr ⟨Oo,n2,by rw [n3,h3];rfl⟩,List.any_eq_true.mpr ⟨b,hb,ED.mpr ⟨fs,e,q⟩⟩⟩
theorem DT{F:Nat}{rs:List dB}{k:Nat}(h:qY F rs k=[]):qY F rs (k+1)=[]:=by
 refine List.eq_nil_iff_forall_not_mem.mpr λc hc=>?_;obtain ⟨b,hb,_⟩:=gY.mp hc;rw [h] at hb;cases hb
structure HP(F:Nat)(rs:List dB):Prop where
 f:1<=F/\F<=4
 nd:(rs.map (·.1)).Nodup
 len:∀e∈rs,e.1.length=F
 sum:∀e∈rs,e.1.sum<=8\/100<=e.1.sum
 lev:∀m:Nat,(rs.filter λe=>decide (e.1.sum=(m:Int))).length<=15
theorem KJ(F:Nat)(rs:List dB)(k:Nat):(qY F rs k).Nodup:=VN (wU F rs k)
theorem HP.few{F:Nat}{rs:List dB}(h:HP F rs):∀k,(qY F rs k).length<=60
 | 0=>by show 1<=60;decide
 | k+1=>by
  have hl:∀c∈qY F rs (k+1),c∈(rs.filter λe=>decide (e.1.sum=(k:Int))).flatMap λe=>(List.range F).map (bump e.1):=λc hc=>by
   obtain ⟨b,hb,fs,e,q⟩:=gY.mp hc;have hm:=gL e;obtain ⟨b1,b2,b3⟩:=eS.mp (jS hb);refine List.mem_flatMap.mpr ⟨(b,fs),dC.mpr ⟨hm,aM b3⟩,?_⟩;unfold nexts at q;split at q
   ·cases q
   ·rw [b1] at q;exact q
  have h1:=eJ (KJ F rs (k+1)) hl;have h2:((rs.filter λe=>decide (e.1.sum=(k:Int))).flatMap λe=>(List.range F).map (bump e.1)).length=(rs.filter λe=>decide (e.1.sum=(k:Int))).length*F:=by
   generalize rs.filter (λe=>decide (e.1.sum=(k:Int)))=l
   induction l with
   | nil=>simp
   | cons a l ih=>rw [List.flatMap_cons,aI,ih,aA,cE,bF,Nat.add_mul];omega
  have h3:=h.lev k;have h4:(rs.filter λe=>decide (e.1.sum=(k:Int))).length*F<=15*4:=Nat.mul_le_mul h3 h.f.2;omega
theorem HP.fin{F:Nat}{rs:List dB}(h:HP F rs):qY F rs 10=[]:=by
 refine List.eq_nil_iff_forall_not_mem.mpr λc hc=>?_;obtain ⟨b,hb,fs,e,q⟩:=gY.mp hc;have h1:=(eS.mp (jS hb)).2.2;have:=h.sum _ (gL e);have:b.sum<=8\/100<=b.sum:=this;omega
def HY(F:Nat)(rs:List dB):Nat->Nat->List (List Int)
 | 0,_=>[]
 | j+1,k=>qY F rs k++HY F rs j (k+1)
theorem EG{F:Nat}{rs:List dB}:∀(j:Nat) {k:Nat},qY F rs k=[]->HY F rs j k=[]
 | 0,k,h=>rfl
 | j+1,k,h=>by show qY F rs k++HY F rs j (k+1)=[];rw [h,EG j (DT h)];rfl
theorem HP.bfs{F:Nat}{rs:List dB}(h:HP F rs):∀(j k:Nat),k+j=10->MP F rs (qY F rs k) (HY F rs j k)
 | 0,k,e=>by
  cases (show k=10 by omega);rw [h.fin];exact .nil
 | j+1,k,e=>by
  by_cases q:qY F rs k=[]
  ·rw [EG _ q,q];exact .nil
  ·exact .cons q (by have:=h.few k;omega) (λc hc=>(eS.mp (jS hc)).1) (m:=qY F rs (k+1)) ⟨wU F rs _,λc=>gY⟩ (h.bfs j (k+1) Oo)
def qK(F:Nat)(rs:List dB):List (List Int):=HY F rs 10 0
theorem HP.come{F:Nat}{rs:List dB}(h:HP F rs):MP F rs [List.replicate F 0] (qK F rs):=h.bfs 10 0 rfl
theorem HP.comlen{F:Nat}{rs:List dB}(h:HP F rs)(hl:rs.length<=60):(qK F rs).length<=320:=by
 have nd:∀(j k:Nat),(HY F rs j k).Nodup/\∀c∈HY F rs j k,(k:Int)<=c.sum/\(c=List.replicate F 0\/c∈rs.flatMap λe=>(List.range F).map (bump e.1)):=λj=>by
  induction j with
  | zero=>exact λk=>⟨List.nodup_nil,λc hc=>by cases hc⟩
  | succ j ih =>
   intro k;obtain ⟨i1,i2⟩:=ih (k+1);refine ⟨List.nodup_append.mpr ⟨KJ F rs k,i1,λa ha b hb e=>?_⟩,λc hc=>?_⟩
   ·subst e;have:=(eS.mp (jS ha)).2.2;have:=(i2 a hb).1;omega
   ·rcases bE.mp hc with hc | hc
    ·refine ⟨by rw [(eS.mp (jS hc)).2.2];exact Int.le_refl _,?_⟩;cases k with
     | zero=>exact .inl (aP.mp hc)
     | succ k =>
      obtain ⟨b,hb,fs,e,q⟩:=gY.mp hc;refine .inr (List.mem_flatMap.mpr ⟨(b,fs),gL e,?_⟩);unfold nexts at q;split at q
      ·cases q
      ·rw [(eS.mp (jS hb)).1] at q;exact q
    ·exact ⟨by have:=(i2 c hc).1;omega,(i2 c hc).2⟩
 obtain ⟨n1,n2⟩:=nd 10 0;have h1:=eJ n1 (m:=List.replicate F 0::rs.flatMap λe=>(List.range F).map (bump e.1)) λc hc=>by
  rcases (n2 c hc).2 with rfl | q
  ·exact aF ..
  ·exact aD _ q
 have h2:(rs.flatMap λe=>(List.range F).map (bump e.1)).length=rs.length*F:=by
  generalize rs=l
  induction l with
  | nil=>simp
  | cons a l ih=>rw [List.flatMap_cons,aI,ih,aA,cE,bF,Nat.add_mul];omega
 have h3:rs.length*F<=60*4:=Nat.mul_le_mul hl h.f.2;rw [bF] at h1;show (HY F rs 10 0).length<=320;omega
theorem xW{α:Type}{r:α->α->Prop}(asy:∀a b,r a b->¬r b a):∀{l m:List α},l.Pairwise r->m.Pairwise r->(∀x,x∈l↔x∈m)->l=m
 | [],[],_,_,_=>rfl
 | [],b::m,_,_,h=>by have:=(h b).mpr (aF ..);cases this
 | a::l,[],_,_,h=>by have:=(h a).mp (aF ..);cases this
 | a::l,b::m,hl,hm,h=>by
  rw [List.pairwise_cons] at hl hm;have irr:∀a,¬r a a:=λa q=>asy a a q q;have e:a=b:=by
   rcases aR.mp ((h a).mp (aF ..)) with q | q
   ·exact q
   ·rcases aR.mp ((h b).mpr (aF ..)) with q2 | q2
    ·exact q2.symm
    ·exact absurd (hl.1 b q2) (asy _ _ (hm.1 a q))
  subst e;rw [xW asy hl.2 hm.2 λx=>?_];constructor
  ·intro hx;rcases aR.mp ((h x).mp (aD _ hx)) with q | q
   ·subst q;exact absurd (hl.1 _ hx) (irr _)
   ·exact q
  ·intro hx;rcases aR.mp ((h x).mpr (aD _ hx)) with q | q
   ·subst q;exact absurd (hm.1 _ hx) (irr _)
   ·exact q
theorem BD(a b:List Int)(h:rk a b):¬rk b a:=λg=>by
 rcases h with h | ⟨h1,h2⟩
 ·rcases g with g | ⟨g,_⟩ <;> omega
 ·rcases g with g | ⟨_,g2⟩
  ·omega
  ·have:=oW h2 g2;rw [jT] at this;cases this
theorem EF{F:Nat}{rs:List dB}:∀(j k:Nat),(HY F rs j k).Pairwise rk/\∀c∈HY F rs j k,(k:Int)<=c.sum
 | 0,k=>⟨List.Pairwise.nil,λc hc=>by cases hc⟩
 | j+1,k=>by
  obtain ⟨h1,h2⟩:=EF (F:=F) (rs:=rs) j (k+1);have hs:∀c∈qY F rs k,c.sum=(k:Int):=λc hc=>(eS.mp (jS hc)).2.2;refine ⟨List.pairwise_append.mpr ⟨?_,h1,λa ha b hb=>.inl ?_⟩,λc hc=>?_⟩
  ·refine (wU F rs k).imp_of_mem λ{a b} ha hb h=>.inr ⟨by rw [hs a ha,hs b hb],h⟩
  ·have:=hs a ha;have:=h2 b hb;omega
  ·rcases bE.mp hc with hc | hc
   ·rw [hs c hc];exact Int.le_refl _
   ·have:=h2 c hc;omega
theorem RZ{F:Nat}{rs:List dB}:∀(j k m:Nat) {z:List Int},k<=m->m<k+j->z∈qY F rs m->z∈HY F rs j k
 | 0,k,m,z,h1,h2,h=>Oo
 | j+1,k,m,z,h1,h2,h=>by
  by_cases e:m=k
  ·subst e;exact bO _ h
  ·exact aG _ (RZ j (k+1) m Oo Oo h)
theorem SA{F:Nat}{rs:List dB}:∀(j k:Nat) {z:List Int},z∈HY F rs j k->∃m,m<k+j/\z∈qY F rs m
 | 0,k,z,h=>by cases h
 | j+1,k,z,h=>by
  rcases bE.mp h with h | h
  ·exact ⟨k,Oo,h⟩
  ·obtain ⟨m,h1,h2⟩:=SA j (k+1) h;exact ⟨m,Oo,h2⟩
theorem VM{F:Nat}{rs:List dB}(h:qY F rs 10=[]):∀m,10<=m->qY F rs m=[]:=λm hm=>by
 obtain ⟨d,rfl⟩:∃d,m=10+d:=⟨m-10,Oo⟩;clear hm
 induction d with
 | zero=>exact h
 | succ d ih=>exact DT ih
theorem xF{F:Nat}{rs:List dB}(h:qY F rs 10=[]){z:List Int}:z∈qK F rs ↔ ∃m,z∈qY F rs m:=by
 constructor
 ·intro q;obtain ⟨m,_,q⟩:=SA 10 0 q;exact ⟨m,q⟩
 ·rintro ⟨m,q⟩;rcases Nat.lt_or_ge m 10 with hm | hm
  ·exact RZ 10 0 m (cB _) Oo q
  ·rw [VM h m hm] at q;cases q
def BY(F:Nat)(es:List dB)(c:List Int):Prop:=c=List.replicate F 0\/∃e∈es,c∈nexts e.1 (hd e.2)
theorem yF{F:Nat}{es rs:List dB}(wf:∀e∈es,e.1.length=F/\∀x∈e.1,0<=x)(hrs:(es.map (·.1)).Nodup->rs=es)(fin:qY F rs 10=[]) :
  es.map (·.1)=qK F rs↔(es.map (·.1)).Pairwise rk/\∀c,c∈es.map (·.1)↔BY F es c:=by
 have rise:=(EF (F:=F) (rs:=rs) 10 0).1;constructor
 ·intro e;have nd:(es.map (·.1)).Nodup:=by rw [e];exact rise.imp λ{a b} h q=>by subst q;exact BD _ _ h h
  have er:=hrs nd;subst er;refine ⟨by rw [e];exact rise,λc=>?_⟩;rw [e,xF fin];constructor
  ·rintro ⟨m,hm⟩;cases m with
   | zero=>exact .inl (aP.mp hm)
   | succ m =>
    obtain ⟨b,hb,fs,hs,hn⟩:=gY.mp hm;exact .inr ⟨(b,fs),gL hs,hn⟩
  ·rintro (rfl | ⟨e',he',hn⟩)
   ·exact ⟨0,aP.mpr rfl⟩
   ·have:e'.1∈qK F rs:=by rw [<-e];exact List.mem_map_of_mem he'
    obtain ⟨m,hm⟩:=(xF fin).mp this;exact ⟨m+1,gY.mpr ⟨e'.1,hm,e'.2,uW nd he',hn⟩⟩
 ·rintro ⟨hr,hd'⟩;have nd:(es.map (·.1)).Nodup:=hr.imp λ{a b} h q=>by subst q;exact BD _ _ h h
  have er:=hrs nd;subst er;refine xW BD hr rise λc=>?_;rw [xF fin];constructor
  ·have step:∀(n:Nat) (c:List Int),c∈rs.map (·.1)->c.sum=(n:Int)->∃m,c∈qY F rs m:=λn=>by
    induction n with
    | zero =>
     intro c hc hs;rcases (hd' c).mp hc with rfl | ⟨e',he',hn⟩
     ·exact ⟨0,aP.mpr rfl⟩
     ·obtain ⟨w1,w2⟩:=wf e' he';have:=(iY hn w2).2.2;have:=jY w2;omega
    | succ n ih =>
     intro c hc hs;rcases (hd' c).mp hc with rfl | ⟨e',he',hn⟩
     ·exact ⟨0,aP.mpr rfl⟩
     ·obtain ⟨w1,w2⟩:=wf e' he';have h3:=(iY hn w2).2.2;obtain ⟨m,hm⟩:=ih e'.1 (List.mem_map_of_mem he') Oo;exact ⟨m+1,gY.mpr ⟨e'.1,hm,e'.2,uW nd he',hn⟩⟩
   intro hc;obtain ⟨e',he',rfl⟩:=aU.mp hc;have:=jY (wf e' he').2;exact step e'.1.sum.toNat e'.1 hc Oo
  ·rintro ⟨m,hm⟩;cases m with
   | zero=>exact (hd' c).mpr (.inl (aP.mp hm))
   | succ m =>
    obtain ⟨b,hb,fs,hs,hn⟩:=gY.mp hm;exact (hd' c).mpr (.inr ⟨(b,fs),gL hs,hn⟩)
end Kw
namespace L2
open PySem PySem.Spec PySem.W PyProof.Rows HT
@[irreducible] def GA(K:PySem.W.Frag):List V->Hp->VK->Prop:=λxs H Q=>(∃x d,xs=[x,.ty "tuple"]/\cO K H d x/\Q (.bl (rM d)) H)\/∃D kvs,xs=[.ref D,.ty "tuple"]/\H D=some (.dT kvs)/\Q (.bl false) H
theorem YK{K:PySem.W.Frag}{H:Hp}{Q:VK}{x:V}{d:PyData}(r:cO K H d x)(q:Q (.bl (rM d)) H):GA K [x,.ty "tuple"] H Q:=by unfold GA;exact .inl ⟨x,d,rfl,r,q⟩
theorem YJ{K:PySem.W.Frag}{H:Hp}{Q:VK}{D:Addr}{kvs:List (List dE × V)}(h:H D=some (.dT kvs))(q:Q (.bl false) H):GA K [.ref D,.ty "tuple"] H Q:=by unfold GA;exact .inr ⟨D,kvs,rfl,h,q⟩
theorem EY{X:Cx}(K:PySem.W.Frag)(hK:X.K=K:=by rfl):eW X (.builtin "isinstance") (GA K):=by
 unfold GA;intro pins s σ H xs us Q I r h;rcases h with ⟨x,d,rfl,hr,q⟩ | ⟨D,kvs,rfl,hD,q⟩
 ·exact kN K hK pins s σ H [x,.ty "tuple"] us Q I r (JF hr q)
 ·obtain ⟨u,w',rfl,r1,r2⟩:=uP r;cases (show w'=Value.type "tuple" from r2);exact qC I r1 (nY.dT hD) (DW _ (.dict []) "tuple" Dd) λtk=>⟨.bl false,H,I.tok _,rfl,q⟩
end L2
namespace Kw
open PySem L2 Mf
abbrev TH:Stmt:=(top 23)
theorem aBy:bZ ["faces","ways","thing"] ["faces","ways","thing"] (bD TH):=⟨rfl,rfl,rfl,Kk,rfl,Kk,Kk⟩
abbrev JB:Stmt:=(top 22)
theorem aBw:bZ ["faces","ways","thing"] ["faces","ways","thing"] (bD JB):=⟨rfl,rfl,rfl,Kk,rfl,Kk,Kk⟩
def tI:PyData->List PyData
 | .tuple ds=>ds
 | _=>[]
theorem qD{F:Nat}{c:List Int}:fC (F:Int) (dX c)=true↔c.length=F/\∀x∈c,0<=x:=by
 show (decide (((c.map PyData.int).length:Int)=(F:Int))&&(c.map PyData.int).all fQ)=true↔_;rw [aQ,decide_eq_true_eq,aA,List.all_map,List.all_eq_true];constructor
 ·rintro ⟨h1,h2⟩;exact ⟨Oo,λx hx=>of_decide_eq_true (h2 x hx)⟩
 ·rintro ⟨h1,h2⟩;exact ⟨Oo,λx hx=>aM (h2 x hx)⟩
theorem JY{W:Nat}{d:PyData}(h:dJ (1+(W:Int)) d=true):d=lO ((tI d).map iI)/\SyW (1+W) ((tI d).map iI):=by
 cases d with
 | tuple ds =>
  have h:((decide ((ds.length:Int)=1+(W:Int))&&ds.all cI)&&decide (fY (ds.map iI)=(1,1)))=true:=h;rw [aQ,aQ,decide_eq_true_eq] at h;obtain ⟨⟨h1,h2⟩,_⟩:=h;refine ⟨congrArg PyData.tuple (kY h2),⟨by rw [aA];show ds.length=1+W;omega,λf hf=>?_⟩⟩;obtain ⟨e,he,rfl⟩:=aU.mp hf;have:=gZ (List.all_eq_true.mp h2 e he);exact ⟨this.2.1,this.2.2.1⟩
 | _=>cases h
def jK:PyData->List Int
 | .tuple ds=>ds.map λd=>match d with | .int i=>i | _=>0
 | _=>[]
def dR(F W:Nat):PyData->Bool
 | .tuple [a,b]=>fC (F:Int) a&&dJ (1+(W:Int)) b
 | _=>false
def dN:PyData->dB
 | .tuple [a,b]=>(jK a,(tI b).map iI)
 | _=>([],[])
theorem WI{F:Nat}{d:PyData}(h:fC (F:Int) d=true):d=dX (jK d):=by
 cases d with
 | tuple ds =>
  have h:(decide ((ds.length:Int)=(F:Int))&&ds.all fQ)=true:=h;rw [aQ] at h;refine congrArg PyData.tuple ?_;have:∀l:List PyData,l.all fQ=true->l=(l.map λd=>match d with | .int i=>i | _=>0).map PyData.int:=λl=>by
   induction l with
   | nil=>intro _;rfl
   | cons a l ih =>
    intro hl;rw [List.all_cons,aQ] at hl;rw [aV,aV,<-ih hl.2];cases a with
    | int i=>rfl
    | _=>cases hl.1
  exact this ds h.2
 | _=>cases h
theorem tR{F W:Nat}{d:PyData}(h:dR F W d=true):d=jZ (dN d)/\ME F W (dN d):=by
 match d,h with
 | .tuple [a,b],h =>
  have h:(fC (F:Int) a&&dJ (1+(W:Int)) b)=true:=h;rw [aQ] at h;have e1:=WI h.1;obtain ⟨e2,e3⟩:=JY h.2;have h1:=h.1;rw [e1] at h1;obtain ⟨c1,c2⟩:=qD.mp h1;refine ⟨?_,⟨c1,c2,e3⟩⟩;show PyData.tuple [a,b]=.tuple [dX (jK a),lO ((tI b).map iI)];rw [<-e1,<-e2]
def jX(l:List dB)(e:dB):List dB:=if (l.any λx=>decide (x.1=e.1))=true then l.map (λx=>if x.1=e.1 then (x.1,e.2) else x) else l++[e]
def jP(es:List dB):List dB:=es.foldl jX []
theorem JN{l:List dB}{e:dB}(h:e.1 ∉ l.map (·.1)):jX l e=l++[e]:=by
 unfold jX;rw [if_neg];intro q;obtain ⟨x,hx,hd⟩:=List.any_eq_true.mp q;exact h (aU.mpr ⟨x,hx,of_decide_eq_true hd⟩)
theorem DA:∀(es l:List dB),((l++es).map (·.1)).Nodup->es.foldl jX l=l++es
 | [],l,_=>by rw [List.append_nil];rfl
 | e::es,l,h=>by
  have hn:e.1 ∉ l.map (·.1):=λq=>by
   rw [bM,aV] at h;exact (List.nodup_append.mp h).2.2 _ q _ (aF ..) rfl
  show es.foldl jX (jX l e)=_;rw [JN hn,DA es (l++[e]) (by rw [List.append_assoc];exact h),List.append_assoc];rfl
theorem JD{es:List dB}(h:(es.map (·.1)).Nodup):jP es=es:=by
 unfold jP;rw [DA es [] (by simpa using h)];rfl
theorem sT{l:List dB}{e x:dB}(h:x∈jX l e):x=e\/x∈l:=by
 unfold jX at h;split at h
 ·obtain ⟨y,hy,ey⟩:=aU.mp h;split at ey
  ·rename_i q
   exact .inl (by rw [<-ey,q])
  ·exact .inr (by rw [<-ey];exact hy)
 ·rcases bE.mp h with h | h
  ·exact .inr h
  ·exact .inl (aP.mp h)
theorem sQ{es:List dB}{x:dB}(h:x∈jP es):x∈es:=by
 have:∀(es l:List dB),x∈es.foldl jX l->x∈es\/x∈l:=λes=>by
  induction es with
  | nil=>intro l h;exact .inr h
  | cons e es ih =>
   intro l h;rcases ih _ h with q | q
   ·exact .inl (aD _ q)
   ·rcases sT q with rfl | q
    ·exact .inl (aF ..)
    ·exact .inr q
 rcases this es [] h with q | q
 ·exact q
 ·cases q
theorem mH{α β:Type}{R:α->β->Prop}:∀{l:List α}{m:List β}{a:α}{b:β},Paired R l m->R a b->Paired R (l++[a]) (m++[b])
 | _,_,_,_,.nil,h=>.cons h .nil
 | _,_,_,_,.cons r t,h=>.cons r (mH t h)
theorem zF{K:PySem.W.Frag}{H:Hp}{p:List dE × V}{e:dB}(hp:mM K H p e):∀{kvs:List (List dE × V)}{l:List dB},Paired (mM K H) kvs l->Paired (mM K H) (kvs.map λkv=>if kv.1=p.1 then (kv.1,p.2) else kv) (l.map λx=>if x.1=e.1 then (x.1,e.2) else x)
 | _,_,.nil=>.nil
 | a::_,b::_,.cons r t=>by
  rw [aV,aV];refine .cons ?_ (zF hp t);by_cases q:b.1=e.1
  ·rw [if_pos q,if_pos (by rw [r.1,hp.1,q])];exact ⟨r.1,hp.2⟩
  ·rw [if_neg q,if_neg (by rw [r.1,hp.1];exact λz=>q (lE z))];exact r
theorem zH{K:PySem.W.Frag}{H:Hp}{p:List dE × V}{e:dB}(hp:mM K H p e):∀{kvs:List (List dE × V)}{l:List dB},Paired (mM K H) kvs l->(kvs.any λkv=>decide (kv.1=p.1))=(l.any λx=>decide (x.1=e.1))
 | _,_,.nil=>rfl
 | a::_,b::_,.cons r t=>by
  rw [List.any_cons,List.any_cons,zH hp t];congr 1;rw [r.1,hp.1];exact decide_eq_decide.mpr ⟨λz=>lE z,λz=>by rw [z]⟩
theorem LA{K:PySem.W.Frag}{H:Hp}{kvs:List (List dE × V)}{l:List dB}{p:List dE × V}{e:dB}(h:Paired (mM K H) kvs l)(hp:mM K H p e):Paired (mM K H) (fL kvs p.1 p.2) (jX l e):=by
 unfold fL jX;rw [zH hp h];split
 ·exact zF hp h
 ·exact mH h hp
theorem qH{K:PySem.W.Frag}{H:Hp}:∀{kvs:List (List dE × V)}{es:List dB}{k0:List (List dE × V)}{l0:List dB},Paired (mM K H) k0 l0->Paired (mM K H) kvs es->Paired (mM K H) (BG k0 kvs) (es.foldl jX l0)
 | _,_,k0,l0,h0,.nil=>h0
 | p::kvs,e::es,k0,l0,h0,.cons r t=>qH (k0:=fL k0 p.1 p.2) (l0:=jX l0 e) (LA h0 r) t
theorem BJ{K:PySem.W.Frag}{H:Hp}:∀{es:List dB}{xs:List V},aL H (es.map jZ) xs->∃kvs,Paired (nJ H) xs kvs/\Paired (mM K H) kvs es
 | [],xs,r=>by
  unfold aL at r;cases (show xs=[] from r);exact ⟨[],.nil,.nil⟩
 | e::es,xs,r=>by
  rw [aV] at r;unfold aL at r;obtain ⟨x,xs',rfl,r1,r2⟩:=r;obtain ⟨kvs,h1,h2⟩:=BJ r2;obtain ⟨b,u,v,rfl,hb,ru,rv⟩:=qI r1;obtain ⟨cu,rfl,hcu⟩:=iO ru;exact ⟨(kT e.1,v)::kvs,.cons ⟨b,cu,rfl,hb,by rw [nT];exact hcu⟩ h1,.cons ⟨rfl,rv.k⟩ h2⟩
theorem tP:∀l m:List (List Int),PyData.eqv (.list (l.map dX)) (.list (m.map dX))=decide (l=m):=λl m=>by
 show PyData.eqvAll (l.map dX) (m.map dX)=_
 induction l generalizing m with
 | nil =>
  cases m with
  | nil=>rfl
  | cons b m=>rfl
 | cons a l ih =>
  cases m with
  | nil=>rfl
  | cons b m =>
   show (PyData.eqv (dX a) (dX b)&&PyData.eqvAll (l.map dX) (m.map dX))=_;rw [ih m,show PyData.eqv (dX a) (dX b)=decide (a=b) from PY a b,<-Bool.decide_and];exact decide_eq_decide.mpr ⟨λ⟨h1,h2⟩=>by rw [h1,h2],λh=>by injection h with h1 h2;exact ⟨h1,h2⟩⟩
def tJ(F W:Nat):PyData->Bool
 | .tuple ds=>ds.all (dR F W)&&decide ((ds.map dN).map (·.1)=qK F (jP (ds.map dN)))
 | _=>false
def SmE(d:PyData):Prop:=∀a b,d=.tuple [a,b]->XJ b
structure WW(F W:Nat)(d:PyData):Prop where
 f:1<=F/\F<=4
 w:W<=4
 len:∀ds,d=.tuple ds->ds.length<=60
 sm:∀ds,d=.tuple ds->∀e∈ds,SmE e
 lev:∀ds,d=.tuple ds->ds.all (dR F W)=true->HP F (jP (ds.map dN))/\(jP (ds.map dN)).length<=60
@[irreducible] def jF(K:PySem.W.Frag):Sp:=λvs H Q _=>∃(x:V) (d:PyData) (F W:Nat),vs=[.int (F:Int),.int (W:Int),x]/\cO K H d x/\F<=64/\W<=4/\SmE d/\∀H',aX H H'->Q (.bl (dR F W d)) H'
theorem wF{K:PySem.W.Frag}{H:Hp}{Q:VK}{E:XK}{x:V}{d:PyData}{F W:Nat}(r:cO K H d x)(h1:F<=64)(h2:W<=4)(h3:SmE d)(q:∀H',aX H H'->Q (.bl (dR F W d)) H'):jF K [.int (F:Int),.int (W:Int),x] H Q E:=by unfold jF;exact ⟨x,d,F,W,rfl,r,h1,h2,h3,q⟩
@[irreducible] def gO(K:PySem.W.Frag):Sp:=λvs H Q _=>∃(x:V) (F W:Nat),vs=[.int (F:Int),.int (W:Int),x]/\((∃d,bR H d x/\WW F W d/\∀H',aX H H'->Q (.bl (tJ F W d)) H')\/∃D kvs,x=.ref D/\H D=some (.dT kvs)/\∀H',aX H H'->Q (.bl false) H')
theorem qV{K:PySem.W.Frag}{H:Hp}{Q:VK}{E:XK}{x:V}{d:PyData}{F W:Nat}(r:bR H d x)(h:WW F W d)(q:∀H',aX H H'->Q (.bl (tJ F W d)) H'):gO K [.int (F:Int),.int (W:Int),x] H Q E:=by unfold gO;exact ⟨x,F,W,rfl,.inl ⟨d,r,h,q⟩⟩
theorem yA{K:PySem.W.Frag}{H:Hp}{Q:VK}{E:XK}{D:Addr}{kvs:List (List dE × V)}{F W:Nat}(h:H D=some (.dT kvs))(q:∀H',aX H H'->Q (.bl false) H'):gO K [.int (F:Int),.int (W:Int),.ref D] H Q E:=by unfold gO;exact ⟨.ref D,F,W,rfl,.inr ⟨D,kvs,rfl,h,q⟩⟩
section
theorem aAW(F:iK K "is_entry" "is_entry" TH f fd)(T:kR K mg c)(FQ30:hU dM P w K mg base 1 "is_tuple_of" ["thing","many"] (jB K))(FQ25:hU dM P w K mg base 2 "is_counts" ["faces","thing"] (mC K))(FQ20:hU dM P w K mg base 6 "are_says" ["ways","thing"] (jG K)):dP P w K mg base dM 7 f fd ["faces","ways","thing"] (jF K):=by
 refine F.oky aBy λvs H Q E h=>?_;unfold jF at h;obtain ⟨x,d,F,W,rfl,r,hF,hW,sm,q⟩:=h;refine ⟨rfl,λcdv A outer s hr=>?_⟩;refine ⟨_,(bG (bV (fX (cF FQ30 (hr.mono Dd) (aH (aJ 2) (aH aE aC))) (fX (cF FQ25 (hr.mono Dd) (aH (aJ 0) (aH (cK cG (aJ 2) aE (λ_ _=>rfl)) aC))) (hZ (cF FQ20 (hr.mono Dd) (aH (aJ 1) (aH (cK cG (aJ 2) aE (λ_ _=>rfl)) aC)))))))),?_⟩;refine ⟨_,rfl,?_⟩;refine nO r ?_;refine ⟨_,rfl,?_⟩;by_cases ht:lG 2 d=true
 ·refine nC ht ?_;obtain ⟨a,b,rfl⟩:∃a b,d=.tuple [a,b]:=by
   cases d with
   | tuple ds =>
    have hl:(ds.length:Int)=2:=of_decide_eq_true ht
    match ds,hl with
    | [a,b],_=>exact ⟨a,b,rfl⟩
   | _=>cases ht
  have r0:=r;unfold cO at r;obtain ⟨ad,xs,rfl,ha,rl⟩:=r;unfold cV at rl;obtain ⟨u,xs1,rfl,ru,rl⟩:=rl;unfold cV at rl;obtain ⟨v,xs2,rfl,rv,rl⟩:=rl;unfold cV at rl;cases (show xs2=[] from rl);refine ⟨_,rfl,_,rfl,?_⟩;refine sE ha rfl ?_;refine AT ru hF λH1 s1=>?_;refine ⟨_,rfl,?_⟩;by_cases c1:fC (F:Int) a=true
  ·refine nC c1 ?_;refine ⟨_,rfl,_,rfl,?_⟩;refine sE (ha.keep s1) rfl ?_;refine wH (rv.keep s1) hW (sm _ _ rfl) λH2 s2=>?_;have:=q H2 (s1.trans s2);rw [show dR F W (.tuple [a,b])=dJ (1+(W:Int)) b by show (fC (F:Int) a&&_)=_;rw [c1,Bool.true_and]] at this;exact this
  ·have c1':fC (F:Int) a=false:=by simpa using c1
   refine vE c1' ?_;have:=q H1 s1;rw [show dR F W (.tuple [a,b])=false by show (fC (F:Int) a&&_)=_;rw [c1',Bool.false_and]] at this;exact this
 ·have ht':lG 2 d=false:=by simpa using ht
  refine vE ht' ?_;have:=q H (aX.refl _);rw [show dR F W d=false by
   match d,ht with
   | .tuple [],_=>rfl
   | .tuple [_],_=>rfl
   | .tuple [_,_],h=>exact absurd rfl h
   | .tuple (_::_::_::_),_=>rfl
   | .none,_=>rfl
   | .bool _,_=>rfl
   | .int _,_=>rfl
   | .str _,_=>rfl
   | .list _,_=>rfl
   | .dict _,_=>rfl] at this
  exact this
theorem aAU(F:iK K "is_rule" "is_rule" JB f fd)(T:kR K mg c)(FQ26:hU dM P w K mg base 7 "is_entry" ["faces","ways","thing"] (jF K))(FQ24:hU dM P w K mg base 4 "counts_come_to" ["faces","table"] (oO K)):dP P w K mg base dM 8 f fd ["faces","ways","thing"] (gO K):=by
 refine F.oky aBw λvs H Q E h=>?_;unfold gO at h;obtain ⟨x,F,W,rfl,h⟩:=h;refine ⟨rfl,λcdv A outer s hr=>?_⟩;refine ⟨_,(aW (eP (oA (jQ (eT (eE (cS (EY K) (by rfl) T.b_isinstance Kk (aH (aJ 2) (aH (fU (v:=.ty "tuple") (u:=.type "tuple") rfl T.b_tuple Kk rfl) aC))))) (iL (eT (eE (cS (CC rfl) (by rfl) T.b_all Kk (aH (eZ (eA.of (psc:=bD JB) (N:=["faces","ways","thing"]) (N':=["one","faces","ways"]) (js:=[0,1]) Kk rfl rfl rfl) (jA (aJ 2)) (λ_ _ _ _=>gH) (λ_ _ _ _=>(cF FQ26 (hr.mono Dd) (aH (aJ 1) (aH (aJ 2) (aH (aJ 0) aC)))))) aC))))))) (bG (bV fW)) cR)
  (bG (bV (fG (nR hr.units) (eZ (eA.of (psc:=bD JB) (N:=["faces","ways","thing"]) (N':=["entry"]) (js:=[]) Kk rfl rfl rfl) (jA (aJ 2)) (λ_ _ _ _=>gH) (λ_ _ _ _=>(cK (oZ K) (aJ 0) aE (λ_ _=>rfl)))) (cF FQ24 (hr.mono Dd) (aH (aJ 0) (aH (kC (zQ hr.units rfl) (by rfl) T.b_dict Kk (aH (aJ 2) aC)) aC))) (nomark _))))),?_⟩
 rcases h with ⟨d,r,ok,q⟩ | ⟨D,kvs,rfl,hD,q⟩
 ·refine ⟨_,rfl,?_⟩;refine YK r.k ?_;refine ⟨_,rfl,?_⟩;by_cases ht:rM d=true
  ·obtain ⟨ds,rfl⟩:∃ds,d=.tuple ds:=by
    cases d with
    | tuple ds=>exact ⟨ds,rfl⟩
    | _=>cases ht
   refine fB ?_;have hl:=ok.len ds rfl;have r0:=r;unfold bR at r;obtain ⟨a,xs,rfl,ha,rl⟩:=r;have lx:=rl.len;have rk:=r0.k (K:=K);unfold cO at rk;obtain ⟨a2,xs2,e2,ha2,rlk⟩:=rk;injection e2 with e2;subst e2;refine ⟨_,rfl,a,rfl,⟨_,ha2⟩,?_⟩;refine nX (dR F W) Oo ha2 rlk (λx d H' Q' hd rd s' k'=>?_) (λD H1 hD e1 s1=>?_)
   ·refine ⟨_,rfl,_,rfl,_,rfl,?_⟩;exact wF rd (by have:=ok.f;omega) ok.w (ok.sm ds rfl d hd) λH2 s2=>k' H2 s2
   ·refine rall e1 ?_;refine ⟨_,rfl,?_⟩;have eall:(ds.map (dR F W)).all id=ds.all (dR F W):=by rw [List.all_map];rfl
    by_cases hall:ds.all (dR F W)=true
    ·rw [eall,hall];refine fB ?_;obtain ⟨smt,sl⟩:=ok.lev ds rfl hall;have eds:ds=(ds.map dN).map jZ:=by
      rw [List.map_map]
      conv=>lhs;rw [<-List.map_id ds]
      exact List.map_congr_left λd hd=>(tR (List.all_eq_true.mp hall d hd)).1
     have q':∀H',aX H H'->Q (.bl (decide ((ds.map dN).map (·.1)=qK F (jP (ds.map dN))))) H':=λH' s'=>by
      have:=q H' s';rw [show tJ F W (.tuple ds)=decide ((ds.map dN).map (·.1)=qK F (jP (ds.map dN))) by show (ds.all (dR F W)&&_)=_;rw [hall,Bool.true_and]] at this;exact this
     have et:∀e∈ds.map dN,ME F W e:=λe he=>by
      obtain ⟨d,hd,rfl⟩:=aU.mp he;exact (tR (List.all_eq_true.mp hall d hd)).2
     rw [eds] at rl;have lx2:xs.length=(ds.map dN).length:=by rw [aA];exact lx
     generalize ds.map dN=es at rl q' et smt sl lx2;have ha1:=s1 _ _ ha;refine ⟨_,rfl,a,rfl,⟨_,eI.of ha1⟩,?_⟩;refine HA (λi y H'=>∃e,es[i]?=some e/\bR H' (dX e.1) y) (λi y H1 H2 s ⟨e,h1,h2⟩=>⟨e,h1,h2.flat s (jN _)⟩) Oo ha1 (λi y H' Q' hy2 s' k'=>?_) (λD2 ys2 H2 hD2 e2 s2 hy2 hr2=>?_)
     ·obtain ⟨e,he,re⟩:=aL.atI rl hy2;obtain ⟨b,u,v,rfl,hb,ru,rv⟩:=qI re;refine ⟨_,rfl,?_⟩;refine xQ (s' _ _ (s1 _ _ hb)) rfl ?_;exact k' _ H' (aX.refl _) ⟨e,he,(ru.same s1).same s'⟩
     ·have s12:=s1.trans s2;obtain ⟨kvs,p1,p2⟩:=BJ (K:=K) (rl.same s12);refine ⟨_,rfl,_,rfl,?_⟩;refine rdca (s12 _ _ ha) p1 (by rw [p2.length];omega) λD3 H3 hD3 e3 s3=>?_;have p3:Paired (mM K H3) (BG [] kvs) (jP es):=qH .nil (Paired.imp' (λ_ _ r=>⟨r.1,ML.same s3 r.2⟩) p2);refine FV (K:=K) (W:=W) ⟨_,.inl e3,p3⟩ ⟨ok.f,ok.w,λe he=>et e (sQ he)⟩ smt.come (smt.comlen sl) λD4 zs H4 hD4 e4 r4 s4=>?_;have rl4:aL H4 ((es.map (·.1)).map dX) ys2:=aL.ofIdx (by rw [hy2,lx2,aA,aA]) λi y hi=>by
       obtain ⟨e,h1,h2⟩:=hr2 i y hi;exact ⟨dX e.1,by rw [aS,aS,h1];rfl,(h2.same s3).same s4⟩
      refine NQ (d:=.list ((es.map (·.1)).map dX)) (d':=.list ((qK F (jP es)).map dX)) (bR.lst (s4 _ _ (s3 _ _ e2)) rl4) (bR.lst e4 r4) (kL _) (kL _) ?_;rw [tP,Bool.true_beq];exact q' H4 ((s12.trans s3).trans s4)
    ·have hall':ds.all (dR F W)=false:=by simpa using hall
     rw [eall,hall'];refine eX ?_;have:=q H1 s1;rw [show tJ F W (.tuple ds)=false by show (ds.all (dR F W)&&_)=_;rw [hall',Bool.false_and]] at this;exact this
  ·have ht':rM d=false:=by simpa using ht
   rw [ht'];refine eX ?_;have:=q H (aX.refl _);rw [show tJ F W d=false by
    cases d with
    | tuple ds=>exact absurd rfl ht
    | _=>rfl] at this
   exact this
 ·refine ⟨_,rfl,?_⟩;refine YJ hD ?_;refine ⟨_,rfl,?_⟩;exact eX (q H (aX.refl _))
end
abbrev TX:Stmt:=(top 30)
theorem aBE:bZ ["_law_one","_law_other"] ["_law_one","_law_other"] (bD TX):=⟨rfl,rfl,rfl,Kk,rfl,Kk,Kk⟩
abbrev TR:Stmt:=(top 31)
theorem QL:bZ ["_law_some","_law_found","_law_one"] ["_law_some"] (bD TR):=⟨rfl,rfl,rfl,Kk,rfl,Kk,Kk⟩
abbrev TQ:Stmt:=(top 37)
theorem aBD:bZ ["_law_thing"] ["_law_thing"] (bD TQ):=⟨rfl,rfl,rfl,Kk,rfl,Kk,Kk⟩
abbrev sQ7:Stmt:=(top 38)
theorem cQ7:bZ ["_law_thing"] ["_law_thing"] (bD sQ7):=⟨rfl,rfl,rfl,Kk,rfl,Kk,Kk⟩
abbrev sQ6:Stmt:=(top 39)
theorem cQ6:bZ ["_law_ways","_law_thing"] ["_law_ways","_law_thing"] (bD sQ6):=⟨rfl,rfl,rfl,Kk,rfl,Kk,Kk⟩
@[irreducible] def lZ(K:PySem.W.Frag):Sp:=λvs H Q _=>∃x y f g,vs=[x,y]/\HU K H f x/\HU K H g y/\iV f/\iV g/\HN 4000 f/\HN 4000 g/\HR H Q (rQ f g)
theorem AS{K:PySem.W.Frag}{H:Hp}{Q:VK}{E:XK}{x y:V}{f g:Fr}(h1:HU K H f x)(h2:HU K H g y)(l1:iV f)(l2:iV g)(z1:HN 4000 f)(z2:HN 4000 g)(q:HR H Q (rQ f g)):lZ K [x,y] H Q E:=by unfold lZ;exact ⟨x,y,f,g,rfl,h1,h2,l1,l2,z1,z2,q⟩
section
theorem aBc(F:iK K "_law_plus" "_law_plus" TX f fd)(T:kR K mg c)(FQ3:hU dM P w K mg base 1 "_law_frac" ["_law_n","_law_d"] jE):dP P w K mg base dM 2 f fd ["_law_one","_law_other"] (lZ K):=by
 refine F.oky aBE λvs H Q E h=>?_;unfold lZ at h;obtain ⟨x,y,f,g,rfl,h1,h2,l1,l2,z1,z2,q⟩:=h;refine ⟨rfl,λcdv A outer s hr=>?_⟩;obtain ⟨p1,rfl,e1⟩:=h1;obtain ⟨p2,rfl,e2⟩:=h2;refine ⟨_,(bG (bV (cF FQ3 (hr.mono Dd) (aH (bS dU (bS gX (cK cG (aJ 0) aE (λ_ _=>rfl)) (cK cG (aJ 1) aE (λ_ _=>rfl))) (bS gX (cK cG (aJ 1) aE (λ_ _=>rfl)) (cK cG (aJ 0) aE (λ_ _=>rfl)))) (aH (bS gX (cK cG (aJ 0) aE (λ_ _=>rfl)) (cK cG (aJ 1) aE (λ_ _=>rfl))) aC))))),?_⟩;refine ⟨_,rfl,?_⟩;refine sE e1 rfl ?_;refine ⟨_,rfl,?_⟩;refine sE e2 rfl ?_;refine ⟨_,_,rfl,rfl,GK z1.1 z2.2,?_⟩;refine ⟨_,rfl,?_⟩;refine sE e2 rfl ?_;refine ⟨_,rfl,?_⟩;refine sE e1 rfl ?_;refine ⟨_,_,rfl,rfl,GK z2.1 z1.2,_,_,rfl,rfl,?_⟩;refine ⟨_,rfl,?_⟩;refine sE e1 rfl ?_;refine ⟨_,rfl,?_⟩;refine sE e2 rfl ?_;refine ⟨_,_,rfl,rfl,GK z1.2 z2.2,?_⟩;refine nQ (Int.mul_pos l1.pos l2.pos) (oG (AM z1.2 z2.2)) ?_;exact q
end
structure HL(d:PyData):Prop where
 nd:d.hasDict=false
 lay:PyData.canLay0 d=true
 dep:PyData.depth d<=5
 sm:∀e∈tI d,∀n k:Int,e=.tuple [.int n,.int k]->k<=2^200
theorem HL.smd{d:PyData}(h:HL d):XJ d:=by
 cases d with
 | tuple ds=>exact λe he hs=>h.sm e he _ _ (gZ hs).1
 | _=>exact True.intro
theorem PF{n k:Int}(hk:0<k):lw n k=(n,k)↔Int.gcd n k=1:=by
 constructor
 ·intro h;have:=(lC (n:=n) hk).low;rw [h] at this;exact this
 ·intro h;unfold lw;rw [h];show (n/1,k/1)=(n,k);rw [Int.ediv_one,Int.ediv_one]
theorem BW{n k:Int}:cI (.tuple [.int n,.int k])=(decide (k > 0)&&((decide (0<=n)&&decide (n<=k))&&decide (lw n k=(n,k)))):=by
 show ((decide (1<=k)&&decide (Int.gcd n k=1))&&(decide (0<=n)&&decide (n<=k)))=_;by_cases hk:k > 0
 ·rw [aM hk,aM (show 1<=k by omega),Bool.true_and,Bool.true_and,decide_eq_decide.mpr (PF (n:=n) hk),Bool.and_comm]
 ·rw [bH hk,bH (show ¬1<=k by omega)];simp
@[irreducible] def iX:Sp:=λvs H Q _=>∃x d,vs=[x]/\bR H d x/\Q (.bl (xE d)) H
theorem lX{H:Hp}{Q:VK}{E:XK}{x:V}{d:PyData}(r:bR H d x)(q:Q (.bl (xE d)) H):iX [x] H Q E:=by unfold iX;exact ⟨x,d,rfl,r,q⟩
@[irreducible] def kG:Sp:=λvs H Q _=>∃x d,vs=[x]/\bR H d x/\(∀n k:Int,d=.tuple [.int n,.int k]->k<=2^200)/\∀H',aX H H'->Q (.bl (cI d)) H'
theorem xX{H:Hp}{Q:VK}{E:XK}{x:V}{d:PyData}(r:bR H d x)(h:∀n k:Int,d=.tuple [.int n,.int k]->k<=2^200)(q:∀H',aX H H'->Q (.bl (cI d)) H'):kG [x] H Q E:=by unfold kG;exact ⟨x,d,rfl,r,h,q⟩
@[irreducible] def jD:Sp:=λvs H Q _=>∃x d,∃W:Nat,vs=[.int (W:Int),x]/\bR H d x/\HL d/\W<=4/\∀H',aX H H'->Q (.bl (dJ (1+(W:Int)) d)) H'
theorem wC{H:Hp}{Q:VK}{E:XK}{x:V}{d:PyData}{W:Nat}(r:bR H d x)(h:HL d)(hW:W<=4)(q:∀H',aX H H'->Q (.bl (dJ (1+(W:Int)) d)) H'):jD [.int (W:Int),x] H Q E:=by unfold jD;exact ⟨x,d,W,rfl,r,h,hW,q⟩
theorem sD:∀{l ds:List PyData},l.Sublist ds->PyData.canLayAll0 ds=true->PyData.canLayAll0 l=true/\PyData.depthAll l<=PyData.depthAll ds
 | _,_,.slnil,h=>⟨h,aK _⟩
 | _,_,.cons a s,h=>by
  have h:(PyData.canLay0 a&&PyData.canLayAll0 _)=true:=h;rw [aQ] at h;obtain ⟨h1,h2⟩:=sD s h.2;refine ⟨h1,?_⟩;show _<=max (PyData.depth a) (PyData.depthAll _);omega
 | _,_,.cons₂ a s,h=>by
  have h:(PyData.canLay0 a&&PyData.canLayAll0 _)=true:=h;rw [aQ] at h;obtain ⟨h1,h2⟩:=sD s h.2;refine ⟨?_,?_⟩
  ·show (PyData.canLay0 a&&PyData.canLayAll0 _)=true;rw [h.1,h1];rfl
  ·show max (PyData.depth a) (PyData.depthAll _)<=max (PyData.depth a) (PyData.depthAll _);omega
theorem tO(l:List PyData):PyData.eqv (.list l) (.list [])=decide (l=[]):=by
 cases l with
 | nil=>rfl
 | cons a l=>rfl
section
theorem aA5(F:iK K "_law_total" "_law_total" TR f fd)(T:kR K mg c)(FQ10:hU dM P w K mg base 2 "_law_plus" ["_law_one","_law_other"] (lZ K)):dP P w K mg base dM 3 f fd ["_law_some"] (jR K):=by
 refine F.oky QL λvs H Q E h=>?_;unfold jR at h;obtain ⟨x,fs,B,rfl,r,ok,q⟩:=h;refine ⟨rfl,λcdv A outer s hr=>?_⟩;unfold cO at r;obtain ⟨a,xs,rfl,ha,rl⟩:=r;have hlen:xs.length=fs.length:=by rw [rl.len,aA]
 refine ⟨_,(aW (cC (i:=1) QL.nd rfl (Or.inl rfl) (cH (aH aE (aH aE aC))))
  (aW (jW PassesOwn.never rfl (jA (aJ 0)) (eK (i:=2) QL.nd rfl (Or.inl rfl)) (bG (cC (i:=1) QL.nd rfl (Or.inl rfl) (cF FQ10 (hr.mono Dd) (aH (aJ 1) (aH (aJ 2) aC))))))
  (bG (bV (aJ 1))))),?_⟩
 refine mS (by show 2<=64;decide) λp0 H0 hp0 e0 s0=>?_;refine ⟨_,rfl,a,rfl,⟨_,ha.keep s0⟩,?_⟩;refine sF (xs:=xs) (λi σ H'=>∃w o2,σ=[some (.ref a),some w,o2]/\aX H H'/\bR H' (iJ (fY (fs.take i))) w) ⟨_,_,rfl,s0,jM e0⟩ (λi σ H' _ p=>?_) ?_ ?_
 ·obtain ⟨w,o2,rfl,s1,_⟩:=p;exact ha.keep s1
 ·rintro i x σ H1 hx ⟨w,o2,rfl,s1,r1⟩;obtain ⟨d,hd,rd⟩:=rl.at hx;rw [aS] at hd;obtain ⟨g,hg,rfl⟩:=dG.mp hd;have okt:=ok.take i;have hm:=bK hg;refine ⟨_,rfl,_,rfl,?_⟩;have zt:=okt.tot;have zsz:=okt.sz;refine AS (HU.of r1) (BC (rd.keep s1)) (oE _ okt.low) (ok.low _ hm) (zt.mono Oo) (ok.szf hm) ?_;intro p2 H2 hp2 e2 s2;refine ⟨_,_,rfl,s1.trans s2,?_⟩;rw [QY hg,kE];exact jM e2
 ·rintro σ H1 ⟨w,o2,rfl,s1,r1⟩;refine ⟨_,rfl,?_⟩;rw [hlen,dW] at r1;exact q _ H1 s1 r1
theorem aA4(F:iK K "_law_whole" "_law_whole" TQ f fd)(T:kR K mg c):dP P w K mg base dM 1 f fd ["_law_thing"] iX:=by
 refine F.oky aBD λvs H Q E h=>?_;unfold iX at h;obtain ⟨x,d,rfl,r,q⟩:=h;refine ⟨rfl,λcdv A outer s hr=>?_⟩;refine ⟨_,(bG (bV (fX (cS qP (by rfl) T.b_isinstance Kk (aH (aJ 0) (aH (fU (v:=.ty "int") (u:=.type "int") rfl T.b_int Kk rfl) aC))) (hZ (IF (cS qP (by rfl) T.b_isinstance Kk (aH (aJ 0) (aH (fU (v:=.ty "bool") (u:=.type "bool") rfl T.b_bool Kk rfl) aC)))))))),?_⟩;refine ⟨_,rfl,?_⟩;refine YL r ?_;refine ⟨_,rfl,?_⟩;cases d
 case int i=>exact eX ⟨_,rfl,JG r ⟨_,rfl,q⟩⟩
 case bool i=>exact eX ⟨_,rfl,JG r ⟨_,rfl,q⟩⟩
 all_goals exact fB q
theorem oQ7(F:iK K "_law_is_share" "_law_is_share" sQ7 f fd)(T:kR K mg c)(FQ18:hU dM P w K mg base 1 "_law_whole" ["_law_thing"] iX)(FQ3:hU dM P w K mg base 1 "_law_frac" ["_law_n","_law_d"] jE):dP P w K mg base dM 2 f fd ["_law_thing"] kG:=by
 refine F.oky cQ7 λvs H Q E h=>?_;unfold kG at h;obtain ⟨x,d,rfl,r,hb,q⟩:=h;refine ⟨rfl,λcdv A outer s hr=>?_⟩;refine ⟨_,(aW (eP (iS (oA (jQ (eT (eE (cS qP (by rfl) T.b_isinstance Kk (aH (aJ 0) (aH (fU (v:=.ty "tuple") (u:=.type "tuple") rfl T.b_tuple Kk rfl) aC))))) (jQ (dH uZ (cS fS (by rfl) T.b_len Kk (aH (aJ 0) aC)) aE (nomark _)) (jQ (eT (eE (cF FQ18 (hr.mono Dd) (aH (cK cG (aJ 0) aE (λ_ _=>rfl)) aC)))) (iL (eT (eE (cF FQ18 (hr.mono Dd) (aH (cK cG (aJ 0) aE (λ_ _=>rfl)) aC)))))))))) (bG (bV fW)) cR)
  (bG (bV (fX (fG sV (cK cG (aJ 0) aE (λ_ _=>rfl)) aE (nomark _)) (fX (xT DO DO aE (cK cG (aJ 0) aE (λ_ _=>rfl)) (cK cG (aJ 0) aE (λ_ _=>rfl))) (hZ (fG (nR hr.units) (cF FQ3 (hr.mono Dd) (aH (cK cG (aJ 0) aE (λ_ _=>rfl)) (aH (cK cG (aJ 0) aE (λ_ _=>rfl)) aC))) (aJ 0) (nomark _)))))))),?_⟩
 refine ⟨λb H3=>H3=H/\((b=true/\cI d=false)\/(b=false/\∃(a:Addr) (n k:Int),d=.tuple [.int n,.int k]/\x=.ref a/\H a=some (.tup [.int n,.int k]))),?_,?_⟩
 ·refine ⟨_,rfl,?_⟩;refine DC r ?_;refine ⟨_,rfl,?_⟩;cases d with
  | tuple ds =>
   refine fB ?_;unfold bR at r;obtain ⟨a,xs,rfl,ha,rl⟩:=r;have hl:=rl.len;refine ⟨_,rfl,?_⟩;refine NP ha ?_;refine ⟨rfl,_,rfl,?_⟩;by_cases e:ds.length=2
   ·match ds,e with
    | [d0,d1],e2 =>
     clear e2;unfold aL aL aL at rl;obtain ⟨x0,_,rfl,r0,x1,_,rfl,r1,rfl⟩:=rl;refine fB ?_;refine ⟨_,rfl,?_⟩;refine xQ ha rfl ?_;refine lX r0 ?_;refine ⟨_,rfl,?_⟩;cases d0
     case int n =>
      refine fB ?_;refine ⟨_,rfl,?_⟩;refine xQ ha rfl ?_;refine lX r1 ?_;refine ⟨_,rfl,?_⟩;cases d1
      case int k =>
       cases (show x0=V.int n from r0);cases (show x1=V.int k from r1);exact ⟨rfl,.inr ⟨rfl,a,n,k,rfl,rfl,ha⟩⟩
      all_goals exact ⟨rfl,.inl ⟨rfl,rfl⟩⟩
     all_goals exact eX ⟨rfl,.inl ⟨rfl,rfl⟩⟩
   ·refine nC (by rw [Bool.not_eq_true',decide_eq_false_iff_not];intro z;injection z with z;omega) ?_;refine ⟨rfl,.inl ⟨rfl,?_⟩⟩;unfold cI;split
    ·rename_i z;injection z with z;subst z;exact absurd rfl e
    ·rfl
  | _=>exact eX ⟨rfl,.inl ⟨rfl,rfl⟩⟩
 ·rintro b H3 ⟨rfl,⟨rfl,hs⟩ | ⟨rfl,a,n,k,rfl,rfl,ha⟩⟩
  ·have:=q H3 (aX.refl _);rw [hs] at this;exact eX this
  ·refine fB ?_;rw [BW] at q;refine ⟨_,rfl,?_⟩;refine xQ ha rfl ?_;refine ⟨_,_,rfl,rfl,_,rfl,?_⟩;refine lP (λe1=>?_) (λe1=>?_)
   ·rw [aM e1,Bool.true_and] at q;refine ⟨_,rfl,?_⟩;refine xQ ha rfl ?_;refine ⟨_,_,rfl,rfl,_,rfl,?_⟩;refine lP (λe2=>?_) (λe2=>?_)
    ·rw [aM e2,Bool.true_and] at q;refine ⟨_,rfl,?_⟩;refine xQ ha rfl ?_;refine ⟨_,_,rfl,rfl,?_⟩;refine ⟨_,rfl,?_⟩;refine lP (λe3=>?_) (λe3=>?_)
     ·rw [aM e3,Bool.true_and] at q;refine ⟨_,rfl,?_⟩;refine xQ ha rfl ?_;refine ⟨_,rfl,?_⟩;refine xQ ha rfl ?_;have hk:=hb n k rfl;refine nQ e1 (bI (show k.natAbs<=2^200 by omega) (Nat.pow_lt_pow_right Dd Dd)) ?_;intro p2 H2 hp2 e2' s2;refine ⟨_,rfl,?_⟩;refine NQ (jM e2') (jM (f:=(n,k)) (s2 _ _ ha)) rfl rfl ?_;rw [xA,Bool.true_beq];exact q H2 s2
     ·rw [bH e3,Bool.false_and] at q;exact q H3 (aX.refl _)
    ·rw [bH e2,Bool.false_and,Bool.false_and] at q;exact ⟨_,rfl,fB (q H3 (aX.refl _))⟩
   ·rw [bH e1,Bool.false_and] at q;exact q H3 (aX.refl _)
end
theorem aL.atE{H:Hp}:∀{ds:List PyData}{vs:List V}{i:Nat}{x:V},aL H ds vs->vs[i]?=some x->∃d,ds[i]?=some d/\bR H d x
 | [],_,i,x,h,e=>by cases (show _=[] from h);simp at e
 | d::ds,_,0,x,h,e=>by
  unfold aL at h;obtain ⟨y,xs,rfl,h1,_⟩:=h;cases (show y=x by simpa using e);exact ⟨d,rfl,h1⟩
 | d::ds,_,i+1,x,h,e=>by
  unfold aL at h;obtain ⟨y,xs,rfl,_,h2⟩:=h;simpa using aL.atE h2 (i:=i) (by simpa using e)
section
theorem oQ6(F:iK K "_law_is_says" "_law_is_says" sQ6 f fd)(T:kR K mg c)(FQ7:hU dM P w K mg base 2 "_law_is_share" ["_law_thing"] kG)(FQ17:hU dM P w K mg base 3 "_law_total" ["_law_some"] (jR K)):dP P w K mg base dM 4 f fd ["_law_ways","_law_thing"] jD:=by
 refine F.oky cQ6 λvs H Q E h=>?_;unfold jD at h;obtain ⟨x,d,W,rfl,r,tv,hW,q⟩:=h;refine ⟨rfl,λcdv A outer s hr=>?_⟩;refine ⟨_,(aW (eP (iS (oA (jQ (eT (eE (cS qP (by rfl) T.b_isinstance Kk (aH (aJ 1) (aH (fU (v:=.ty "tuple") (u:=.type "tuple") rfl T.b_tuple Kk rfl) aC))))) (iL (dH uZ (cS fS (by rfl) T.b_len Kk (aH (aJ 1) aC)) (bS dU aE (aJ 0)) (nomark _)))))) (bG (bV fW)) cR)
  (bG (bV (fX (fG (nR hr.units) (eZ (eA.of (psc:=bD sQ6) (N:=["_law_ways","_law_thing"]) (N':=["_law_one"]) (js:=[]) Kk rfl rfl rfl) (jA (aJ 1)) (λ_ _ _ _=>rS (eT (eE (cF FQ7 (hr.mono Dd) (aH (aJ 0) aC))))) (λ_ _ _ _=>(aJ 0))) (dS aC) (nomark _)) (hZ (fG (nR hr.units) (cF FQ17 (hr.mono Dd) (aH (aJ 1) aC)) (cH (aH aE (aH aE aC))) (nomark _))))))),?_⟩
 refine ⟨λb H3=>H3=H/\((b=true/\dJ (1+(W:Int)) d=false)\/(b=false/\∃(a:Addr) (xs:List V) (ds:List PyData),d=.tuple ds/\x=.ref a/\H a=some (.tup xs)/\aL H ds xs/\(ds.length:Int)=1+(W:Int))),?_,?_⟩
 ·refine ⟨_,rfl,?_⟩;refine DC r ?_;refine ⟨_,rfl,?_⟩;cases d with
  | tuple ds =>
   refine fB ?_;unfold bR at r;obtain ⟨a,xs,rfl,ha,rl⟩:=r;have hl:=rl.len;refine ⟨_,rfl,?_⟩;refine NP ha ?_;refine ⟨_,rfl,_,_,rfl,rfl,rfl,_,rfl,?_⟩;by_cases e:(ds.length:Int)=1+(W:Int)
   ·rw [hl,e,aM rfl];exact ⟨rfl,.inr ⟨rfl,a,xs,ds,rfl,rfl,ha,rl,e⟩⟩
   ·rw [hl,bH (λz=>e (by injection z))];refine ⟨rfl,.inl ⟨rfl,?_⟩⟩;show ((decide ((ds.length:Int)=1+(W:Int))&&_)&&_)=false;rw [bH e,Bool.false_and,Bool.false_and]
  | _=>exact eX ⟨rfl,.inl ⟨rfl,rfl⟩⟩
 ·rintro b H3 ⟨rfl,⟨rfl,hs⟩ | ⟨rfl,a,xs,ds,rfl,rfl,ha,rl,hl⟩⟩
  ·have:=q H3 (aX.refl _);rw [hs] at this;exact eX this
  ·refine fB ?_;have ll:=rl.len;refine ⟨_,rfl,a,rfl,⟨_,eI.of ha⟩,?_⟩;refine qJ (g:=λd:PyData=>d) (as:=ds) (λd=>!cI d) Oo (λi H' s' hi=>⟨⟨_,xs[i]'Oo,eI.of (s' _ _ ha),by simp⟩,λx H4 y=>⟨y.1,?_⟩⟩) (λH' s'=>⟨_,eI.of (s' _ _ ha),Oo⟩) (λx d H' Q' hd rx' s' k'=>?_) (λx' H' Q' q=>⟨_,rfl,q⟩) (λD2 ys2 H9 hD2 e9 s9 r9=>?_)
   ·have hx2:=y.2 _ (eI.of (s' _ _ ha));obtain ⟨e,he,re⟩:=aL.atE rl hx2;exact ⟨e,he,re⟩
   ·refine ⟨_,rfl,?_⟩;refine xX rx' (tv.sm d hd) λH5 s5=>?_;exact ⟨_,rfl,k' H5 s5⟩
   ·rw [List.map_id'] at r9;have hlay:PyData.canLayAll0 ds=true:=tv.lay;have hdep:PyData.depthAll ds+1<=5:=tv.dep;obtain ⟨ly,dp⟩:=sD (List.filter_sublist (p:=λd=>!cI d) (l:=ds)) hlay;refine rJ (by show 0<=64;decide) λq5 H5 hq5 e5 s5=>?_;refine NQ (d:=.list (ds.filter λd=>!cI d)) (d':=.list []) (bR.lst (s5 _ _ e9) (r9.same s5)) (bR.lst e5 aL.nil) ?_ rfl ?_
    ·unfold SeqAt.shaped;rw [show PyData.canLay0 (.list (ds.filter λd=>!cI d))=PyData.canLayAll0 (ds.filter λd=>!cI d) from rfl,ly,Bool.true_and];refine aM ?_;show PyData.depthAll (ds.filter λd=>!cI d)+1<=64;omega
    ·rw [tO,Bool.true_beq];refine ⟨_,rfl,?_⟩;have s95:=s9.trans s5;have ea:dJ (1+(W:Int)) (.tuple ds)=(ds.all cI&&decide (fY (ds.map iI)=(1,1))):=by
      show ((decide ((ds.length:Int)=1+(W:Int))&&ds.all cI)&&_)=_;rw [aM hl,Bool.true_and]
     rw [ea] at q;by_cases hsh:ds.all cI=true
     ·have e0:ds.filter (λd=>!cI d)=[]:=List.filter_eq_nil_iff.mpr λe he=>by rw [List.all_eq_true.mp hsh e he];decide
      refine nC (aM e0) ?_;rw [hsh,Bool.true_and] at q;refine ⟨_,rfl,?_⟩;refine uQ (fs:=ds.map iI) (B:=200) ?_ (sO hsh Oo λe he hs=>tv.sm e he _ _ (gZ hs).1) λv H6 s6 r6=>?_
      ·rw [<-kY hsh];exact (bR.tup (s95 _ _ ha) (rl.same s95)).k
      ·refine mS (by show 2<=64;decide) λq7 H7 hq7 e7 s7=>?_;refine NQ (r6.same s7) (jM (f:=(1,1)) e7) rfl rfl ?_;rw [xA,Bool.true_beq];exact q H7 ((s95.trans s6).trans s7)
     ·have hsh':ds.all cI=false:=by simpa using hsh
      have e0:ds.filter (λd=>!cI d)≠[]:=λz=>hsh (List.all_eq_true.mpr λe he=>by
       have:=List.filter_eq_nil_iff.mp z e he;cases q:cI e with
       | true=>rfl
       | false=>rw [q] at this;exact absurd rfl this)
      refine vE (bH e0) ?_;rw [hsh',Bool.false_and] at q;exact q H5 s95
end
abbrev sQ4:Stmt:=(top 40)
theorem cQ4:bZ ["_law_faces","_law_thing"] ["_law_faces","_law_thing"] (bD sQ4):=⟨rfl,rfl,rfl,Kk,rfl,Kk,Kk⟩
structure QT(d:PyData):Prop where
 lay:PyData.canLay0 d=true
 dep:PyData.depth d<=5
@[irreducible] def kI:Sp:=λvs H Q _=>∃x d,∃F:Nat,vs=[.int (F:Int),x]/\bR H d x/\QT d/\F<=64/\∀H',aX H H'->Q (.bl (fC (F:Int) d)) H'
theorem xZ{H:Hp}{Q:VK}{E:XK}{x:V}{d:PyData}{F:Nat}(r:bR H d x)(h:QT d)(hF:F<=64)(q:∀H',aX H H'->Q (.bl (fC (F:Int) d)) H'):kI [.int (F:Int),x] H Q E:=by unfold kI;exact ⟨x,d,F,rfl,r,h,hF,q⟩
section
theorem oQ4(F:iK K "_law_is_counts" "_law_is_counts" sQ4 f fd)(T:kR K mg c)(FQ18:hU dM P w K mg base 1 "_law_whole" ["_law_thing"] iX):dP P w K mg base dM 2 f fd ["_law_faces","_law_thing"] kI:=by
 refine F.oky cQ4 λvs H Q E h=>?_;unfold kI at h;obtain ⟨x,d,F,rfl,r,tv,hF,q⟩:=h;refine ⟨rfl,λcdv A outer s hr=>?_⟩;refine ⟨_,(aW (eP (iS (oA (jQ (eT (eE (cS qP (by rfl) T.b_isinstance Kk (aH (aJ 1) (aH (fU (v:=.ty "tuple") (u:=.type "tuple") rfl T.b_tuple Kk rfl) aC))))) (iL (dH uZ (cS fS (by rfl) T.b_len Kk (aH (aJ 1) aC)) (aJ 0) (nomark _)))))) (bG (bV fW)) cR)
  (bG (bV (fG (nR hr.units) (eZ (eA.of (psc:=bD sQ4) (N:=["_law_faces","_law_thing"]) (N':=["_law_one"]) (js:=[]) Kk rfl rfl rfl) (jA (aJ 1)) (λ_ _ _ _=>rS (oA (jQ (eT (eE (cF FQ18 (hr.mono Dd) (aH (aJ 0) aC)))) (iL (dH KB (aJ 0) aE (nomark _)))))) (λ_ _ _ _=>(aJ 0))) (dS aC) (nomark _))))),?_⟩
 refine ⟨λb H3=>H3=H/\((b=true/\fC (F:Int) d=false)\/(b=false/\∃(a:Addr) (xs:List V) (ds:List PyData),d=.tuple ds/\x=.ref a/\H a=some (.tup xs)/\aL H ds xs/\(ds.length:Int)=(F:Int))),?_,?_⟩
 ·refine ⟨_,rfl,?_⟩;refine DC r ?_;refine ⟨_,rfl,?_⟩;cases d with
  | tuple ds =>
   refine fB ?_;unfold bR at r;obtain ⟨a,xs,rfl,ha,rl⟩:=r;have hl:=rl.len;refine ⟨_,rfl,?_⟩;refine NP ha ?_;refine ⟨_,rfl,rfl,_,rfl,?_⟩;by_cases e:(ds.length:Int)=(F:Int)
   ·rw [hl,e,aM rfl];exact ⟨rfl,.inr ⟨rfl,a,xs,ds,rfl,rfl,ha,rl,e⟩⟩
   ·rw [hl,bH (λz=>e (by injection z))];refine ⟨rfl,.inl ⟨rfl,?_⟩⟩;show (decide ((ds.length:Int)=(F:Int))&&_)=false;rw [bH e,Bool.false_and]
  | _=>exact eX ⟨rfl,.inl ⟨rfl,rfl⟩⟩
 ·rintro b H3 ⟨rfl,⟨rfl,hs⟩ | ⟨rfl,a,xs,ds,rfl,rfl,ha,rl,hl⟩⟩
  ·have:=q H3 (aX.refl _);rw [hs] at this;exact eX this
  ·refine fB ?_;have ll:=rl.len;refine ⟨_,rfl,a,rfl,⟨_,eI.of ha⟩,?_⟩;refine qJ (g:=λd:PyData=>d) (as:=ds) (λd=>!fQ d) Oo (λi H' s' hi=>⟨⟨_,xs[i]'Oo,eI.of (s' _ _ ha),by simp⟩,λx H4 y=>⟨y.1,?_⟩⟩) (λH' s'=>⟨_,eI.of (s' _ _ ha),Oo⟩) (λx d H' Q' hd rx' s' k'=>?_) (λx' H' Q' q=>⟨_,rfl,q⟩) (λD2 ys2 H9 hD2 e9 s9 r9=>?_)
   ·have hx2:=y.2 _ (eI.of (s' _ _ ha));obtain ⟨e,he,re⟩:=aL.atE rl hx2;exact ⟨e,he,re⟩
   ·refine ⟨_,rfl,?_⟩;refine lX rx' ?_;refine ⟨_,rfl,?_⟩;cases d
    case int z =>
     cases (show x=V.int z from rx');refine fB ?_;refine ⟨_,rfl,_,_,rfl,rfl,_,rfl,?_⟩;have:=k' H' (aX.refl _);rw [show (!fQ (.int z))=decide (z<0) by show (!decide (0<=z))=_;rw [<-decide_not];exact decide_eq_decide.mpr Oo] at this;exact this
    all_goals exact eX (k' H' (aX.refl _))
   ·rw [List.map_id'] at r9;have hlay:PyData.canLayAll0 ds=true:=tv.lay;have hdep:PyData.depthAll ds+1<=5:=tv.dep;obtain ⟨ly,dp⟩:=sD (List.filter_sublist (p:=λd=>!fQ d) (l:=ds)) hlay;refine rJ (by show 0<=64;decide) λq5 H5 hq5 e5 s5=>?_;refine NQ (d:=.list (ds.filter λd=>!fQ d)) (d':=.list []) (bR.lst (s5 _ _ e9) (r9.same s5)) (bR.lst e5 aL.nil) ?_ rfl ?_
    ·unfold SeqAt.shaped;rw [show PyData.canLay0 (.list (ds.filter λd=>!fQ d))=PyData.canLayAll0 (ds.filter λd=>!fQ d) from rfl,ly,Bool.true_and];refine aM ?_;show PyData.depthAll (ds.filter λd=>!fQ d)+1<=64;omega
    ·rw [tO,Bool.true_beq];have:=q H5 (s9.trans s5);rw [show fC (F:Int) (.tuple ds)=decide ((ds.filter λd=>!fQ d)=[]) by
      show (decide ((ds.length:Int)=(F:Int))&&ds.all fQ)=_;rw [aM hl,Bool.true_and];by_cases hc:ds.all fQ=true
      ·rw [hc];exact (aM (List.filter_eq_nil_iff.mpr λe he=>by rw [List.all_eq_true.mp hc e he];decide)).symm
      ·rw [show ds.all fQ=false by simpa using hc];refine (bH λz=>hc (List.all_eq_true.mpr λe he=>?_)).symm;have:=List.filter_eq_nil_iff.mp z e he;simpa using this] at this
     exact this
end
abbrev YD:Stmt:=(top 41)
theorem WL:bZ ["_law_faces","_law_ways","_law_thing","_law_entry","_law_ranks","_law_due","_law_counts","_law_says_here","_law_one"] ["_law_faces","_law_ways","_law_thing"] (bD YD):=⟨rfl,rfl,rfl,Kk,rfl,Kk,Kk⟩
theorem JE{a b:List Int}:eV (a.sum::a) (b.sum::b)=true↔rk a b:=by
 rw [iT];unfold rk;by_cases e:a.sum=b.sum
 ·rw [if_pos e];exact ⟨λh=>.inr ⟨e,h⟩,λh=>by rcases h with h | h;omega;exact h.2⟩
 ·rw [if_neg e,decide_eq_true_eq];exact ⟨λh=>.inl h,λh=>by rcases h with h | h;exact h;exact absurd h.1 e⟩
theorem UC{a b c:List Int}(h:rk a b)(g:rk b c):rk a c:=by
 rcases h with h | ⟨h1,h2⟩
 ·rcases g with g | ⟨g1,_⟩
  ·exact .inl Oo
  ·exact .inl Oo
 ·rcases g with g | ⟨g1,g2⟩
  ·exact .inl Oo
  ·exact .inr ⟨h1.trans g1,oW h2 g2⟩
theorem consec:∀{l:List (List Int)},(∀i,i+1<l.length->rk (l.getD i []) (l.getD (i+1) []))->l.Pairwise rk
 | [],_=>List.Pairwise.nil
 | [a],_=>List.pairwise_singleton _ _
 | a::b::l,h=>by
  have hb:(b::l).Pairwise rk:=consec λi hi=>by
   have:=h (i+1) (by rw [bF];omega);simpa using this
  refine List.pairwise_cons.mpr ⟨λx hx=>?_,hb⟩;have hab:rk a b:=by simpa using h 0 (by rw [bF,bF];omega)
  rcases aR.mp hx with rfl | hx
  ·exact hab
  ·exact UC hab ((List.pairwise_cons.mp hb).1 x hx)
theorem GZ{l:List (List Int)}(h:l.Pairwise rk)(i:Nat)(hi:i+1<l.length):rk (l.getD i []) (l.getD (i+1) []):=by
 rw [bJ,bJ,aN Oo,aN hi];exact List.pairwise_iff_getElem.mp h i (i+1) Oo hi Oo
def kZ(es:List dB)(i:Nat):List Int:=((es.map (·.1)).getD i []).sum::(es.map (·.1)).getD i []
def sinks(es:List dB):List Int:=((List.range (es.length-1)).map λi=>(1:Int)+((i:Nat):Int)).filter λc=>!eV (kZ es (c-1).toNat) (kZ es c.toNat)
theorem uV{es:List dB}:sinks es=[]↔(es.map (·.1)).Pairwise rk:=by
 unfold sinks;rw [List.filter_eq_nil_iff];constructor
 ·intro h;refine consec λi hi=>?_;rw [aA] at hi;have:=h (1+(i:Int)) (aU.mpr ⟨i,cU.mpr Oo,rfl⟩);rw [show (1+(i:Int)-1).toNat=i by omega,show (1+(i:Int)).toNat=i+1 by omega] at this;refine JE.mp (show eV (kZ es i) (kZ es (i+1))=true from ?_);cases z:eV (kZ es i) (kZ es (i+1)) with
  | true=>rfl
  | false=>rw [z] at this;exact absurd rfl this
 ·intro h c hc;obtain ⟨i,hi,rfl⟩:=aU.mp hc;have hi:=cU.mp hi;rw [show (1+(i:Int)-1).toNat=i by omega,show (1+(i:Int)).toNat=i+1 by omega];have:=JE.mpr (GZ h i (by rw [aA];omega));show ¬(!eV (kZ es i) (kZ es (i+1)))=true;rw [show eV (kZ es i) (kZ es (i+1))=true from this];decide
theorem zB(l:List Int):SeqAt.shaped (.list (l.map PyData.int))=true:=by
 unfold SeqAt.shaped;rw [show PyData.canLay0 (.list (l.map PyData.int))=PyData.canLayAll0 (l.map PyData.int) from rfl,oY,Bool.true_and];refine aM ?_;show PyData.depthAll (l.map PyData.int)+1<=64;have:=vL l;omega
structure kP(F W:Nat)(d:PyData):Prop where
 th:WW F W d
 f2:2<=F
 ly:∀ds,d=.tuple ds->∀a b,.tuple [a,b]∈ds->QT a/\HL b
 un:∀ds,d=.tuple ds->ds.all (dR F W)=true->∃U:List (List Int),U.length<=60/\∀c,BY F (ds.map dN) c->c∈U
@[irreducible] def gK(K:PySem.W.Frag):Sp:=λvs H Q _=>∃(x:V) (F W:Nat),vs=[.int (F:Int),.int (W:Int),x]/\((∃d,bR H d x/\kP F W d/\∀H',aX H H'->Q (.bl (tJ F W d)) H')\/∃D kvs,x=.ref D/\H D=some (.dT kvs)/\∀H',aX H H'->Q (.bl false) H')
theorem wE{K:PySem.W.Frag}{H:Hp}{Q:VK}{E:XK}{x:V}{d:PyData}{F W:Nat}(r:bR H d x)(h:kP F W d)(q:∀H',aX H H'->Q (.bl (tJ F W d)) H'):gK K [.int (F:Int),.int (W:Int),x] H Q E:=by unfold gK;exact ⟨x,F,W,rfl,.inl ⟨d,r,h,q⟩⟩
theorem wD{K:PySem.W.Frag}{H:Hp}{Q:VK}{E:XK}{D:Addr}{kvs:List (List dE × V)}{F W:Nat}(h:H D=some (.dT kvs))(q:∀H',aX H H'->Q (.bl false) H'):gK K [.int (F:Int),.int (W:Int),.ref D] H Q E:=by unfold gK;exact ⟨.ref D,F,W,rfl,.inr ⟨D,kvs,rfl,h,q⟩⟩
section
theorem oQ5(F:iK K "_law_is_rule" "_law_is_rule" YD f fd)(T:kR K mg c)(FQ4:hU dM P w K mg base 2 "_law_is_counts" ["_law_faces","_law_thing"] kI)(FQ6:hU dM P w K mg base 4 "_law_is_says" ["_law_ways","_law_thing"] jD)(FQ8:hU dM P w K mg base 1 "_law_next" ["_law_counts","_law_says_here"] mO):dP P w K mg base dM 5 f fd ["_law_faces","_law_ways","_law_thing"] (gK K):=by
 refine F.oky WL λvs H Q E h=>?_;unfold gK at h;obtain ⟨x,F,W,rfl,h⟩:=h;refine ⟨rfl,λcdv A outer s hr=>?_⟩;refine ⟨_,(aW (eP (eT (eE (cS (EY K) (by rfl) T.b_isinstance Kk (aH (aJ 2) (aH (fU (v:=.ty "tuple") (u:=.type "tuple") rfl T.b_tuple Kk rfl) aC))))) (bG (bV fW)) cR)
  (aW (jW PassesOwn.never rfl (jA (aJ 2)) (eK (i:=3) WL.nd rfl (Or.inl rfl)) (aW (eP (iS (oA (jQ (eT (eE (cS qP (by rfl) T.b_isinstance Kk (aH (aJ 3) (aH (fU (v:=.ty "tuple") (u:=.type "tuple") rfl T.b_tuple Kk rfl) aC))))) (iL (dH uZ (cS fS (by rfl) T.b_len Kk (aH (aJ 3) aC)) aE (nomark _)))))) (bG (bV fW)) cR)
  (bG (eP (iS (oA (jQ (eT (eE (cF FQ4 (hr.mono Dd) (aH (aJ 0) (aH (cK cG (aJ 3) aE (λ_ _=>rfl)) aC))))) (iL (eT (eE (cF FQ6 (hr.mono Dd) (aH (aJ 1) (aH (cK cG (aJ 3) aE (λ_ _=>rfl)) aC))))))))) (bG (bV fW)) cR))))
  (aW (cC (i:=4) WL.nd rfl (Or.inr rfl) (FI (fV.of (psc:=bD YD) (N:=["_law_faces","_law_ways","_law_thing","_law_entry","_law_ranks","_law_due","_law_counts","_law_says_here","_law_one"]) (xs:=["_law_counts","_law_says_here"]) (N':=["_law_counts","_law_says_here"]) (js:=[]) Kk rfl rfl rfl) (jA (aJ 2)) (λ_ _ _ _=>gH) (λ_ _ _ _=>(cH (aH (cS (xG K rfl) (by rfl) T.b_sum Kk (aH (aJ 0) aC)) (aH (aJ 0) aC))))))
  (aW (eP (dH (KA hr.units) (eZ (eA.of (psc:=bD YD) (N:=["_law_faces","_law_ways","_law_thing","_law_entry","_law_ranks","_law_due","_law_counts","_law_says_here","_law_one"]) (N':=["_law_k","_law_ranks"]) (js:=[4]) Kk rfl rfl rfl) (FG rfl T.b_range (aH aE (aH (cS fS (by rfl) T.b_len Kk (aH (aJ 4) aC)) aC))) (λ_ _ _ _=>rS (dH (UZ hr.units) (cK (oZ K) (aJ 1) (bS pY (aJ 0) aE) (λ_ _=>rfl)) (cK (oZ K) (aJ 1) (aJ 0) (λ_ _=>rfl)) (nomark _))) (λ_ _ _ _=>(aJ 0))) (dS aC) (nomark _)) (bG (bV fW)) cR)
  (aW (cC (i:=5) WL.nd rfl (Or.inl rfl) (IH hr.u1 (bS wQ (cH (aH aE aC)) (aJ 0)) fW))
  (aW (jW PassesOwn.never rfl (jA (aJ 2)) (vV rfl (gR (eK (i:=6) WL.nd rfl (Or.inl rfl)) (gR (eK (i:=7) WL.nd rfl (Or.inl rfl)) rW))) (bG (jW PassesOwn.never rfl (kU (cF FQ8 (hr.mono Dd) (aH (aJ 6) (aH (aJ 7) aC)))) (eK (i:=8) WL.nd rfl (Or.inl rfl)) (bG (oC hr.u1 (aJ 5) (aJ 8) fW)))))
  (bG (bV (fG (nR hr.units) (cS (xH rfl) (by rfl) T.b_sorted Kk (aH (aJ 5) aC)) (cS (xH rfl) (by rfl) T.b_sorted Kk (aH (kC (zQ hr.units rfl) (by rfl) T.b_dict Kk (aH (aJ 2) aC)) aC)) (nomark _)))))))))),?_⟩
 rcases h with ⟨d,r,ok,q⟩ | ⟨D,kvs,rfl,hD,q⟩
 ·refine ⟨_,rfl,?_⟩;refine YK r.k ?_;refine ⟨_,rfl,?_⟩;by_cases ht:rM d=true
  ·obtain ⟨ds,rfl⟩:∃ds,d=.tuple ds:=by
    cases d with
    | tuple ds=>exact ⟨ds,rfl⟩
    | _=>cases ht
   refine fB ?_;have hl:=ok.th.len ds rfl;have hF4:=ok.th.f.2;have r0:=r;unfold bR at r;obtain ⟨a,xs,rfl,ha,rl⟩:=r;have lx:=rl.len;have bad:∀{e:PyData},e∈ds->dR F W e=false->tJ F W (.tuple ds)=false:=λ{e} he h=>by
    show (ds.all (dR F W)&&_)=false;have z:ds.all (dR F W)=false:=by
     rw [Bool.eq_false_iff];intro z;rw [List.all_eq_true.mp z e he] at h;cases h
    rw [z,Bool.false_and]
   refine ⟨_,rfl,a,rfl,⟨_,eI.of ha⟩,?_⟩;refine sF (xs:=xs) (λi σ H'=>∃o3:Option V,σ=[some (.int (F:Int)),some (.int (W:Int)),some (.ref a),o3,none,none,none,none,none]/\aX H H'/\∀e∈ds.take i,dR F W e=true) ⟨_,rfl,aX.refl _,λe he=>by (rw [List.take_zero] at he;cases he)⟩ (λi σ H' _ q=>?_) ?_ ?_
   ·obtain ⟨_,_,s',_⟩:=q;exact eI.of (s' _ _ ha)
   ·rintro i x σ H1 hx ⟨o3,rfl,S1,hall⟩;obtain ⟨e,he,re⟩:=aL.atE rl hx;have hem:=bK he;have re1:=re.same S1;refine ⟨λb H3=>H3=H1/\((b=true/\dR F W e=false)\/(b=false/\∃(a':Addr) (u v:V) (d1 d2:PyData),e=.tuple [d1,d2]/\x=.ref a'/\H1 a'=some (.tup [u,v])/\bR H1 d1 u/\bR H1 d2 v)),?_,?_⟩
    ·refine ⟨_,rfl,?_⟩;refine DC re1 ?_;refine ⟨_,rfl,?_⟩;cases e with
     | tuple es =>
      refine fB ?_;unfold bR at re1;obtain ⟨a',ys,rfl,ha',rl'⟩:=re1;have hl':=rl'.len;refine ⟨_,rfl,?_⟩;refine NP ha' ?_;refine ⟨rfl,_,rfl,?_⟩;by_cases e2:ys.length=2
      ·rw [e2];refine ⟨rfl,.inr ⟨rfl,?_⟩⟩
       match es,ys,rl',hl',e2 with
       | [d1,d2],ys,rl',_,_ =>
        unfold aL at rl';obtain ⟨u,ys1,rfl,ru,rl'⟩:=rl';unfold aL at rl';obtain ⟨v,ys2,rfl,rv,rl'⟩:=rl';unfold aL at rl';cases (show ys2=[] from rl');exact ⟨a',u,v,d1,d2,rfl,rfl,ha',ru,rv⟩
       | [],ys,_,hl',e2=>exact absurd (hl'.symm.trans e2) (by simp)
       | [_],ys,_,hl',e2=>exact absurd (hl'.symm.trans e2) (by simp)
       | _::_::_::_,ys,_,hl',e2=>exact absurd (hl'.symm.trans e2) (by simp)
      ·rw [bH (λz=>e2 (by have z:=V.int.inj z;omega))];refine ⟨rfl,.inl ⟨rfl,?_⟩⟩
       match es,hl' with
       | [],_=>rfl
       | [_],_=>rfl
       | [_,_],hl'=>exact absurd hl' e2
       | _::_::_::_,_=>rfl
     | _=>exact eX ⟨rfl,.inl ⟨rfl,rfl⟩⟩
    ·rintro b H3 ⟨rfl,⟨rfl,hs⟩ | ⟨rfl,a',u,v,d1,d2,rfl,rfl,ha',ru,rv⟩⟩
     ·have:=q H3 S1;rw [bad hem hs] at this;exact eX this
     ·refine fB ?_;obtain ⟨ly1,tv2⟩:=ok.ly ds rfl d1 d2 hem;refine ⟨λb H4=>aX H3 H4/\b=!dR F W (.tuple [d1,d2]),?_,?_⟩
      ·refine ⟨_,rfl,_,rfl,?_⟩;refine xQ ha' rfl ?_;refine xZ ru ly1 Oo λH4 s4=>?_;refine ⟨_,rfl,?_⟩;by_cases c1:fC (F:Int) d1=true
       ·rw [c1];refine fB ?_;refine ⟨_,rfl,_,rfl,?_⟩;refine xQ (s4 _ _ ha') rfl ?_;refine wC (rv.same s4) tv2 ok.th.w λH5 s5=>?_;refine ⟨_,rfl,s4.trans s5,?_⟩;show _=!(fC (F:Int) d1&&dJ (1+(W:Int)) d2);rw [c1,Bool.true_and]
       ·rw [show fC (F:Int) d1=false by simpa using c1];refine eX ⟨s4,?_⟩;show _=!(fC (F:Int) d1&&dJ (1+(W:Int)) d2);rw [show fC (F:Int) d1=false by simpa using c1];rfl
      ·rintro b H4 ⟨s4,rfl⟩;by_cases he2:dR F W (.tuple [d1,d2])=true
       ·rw [he2];refine fB ⟨_,rfl,S1.trans s4,λe' he'=>?_⟩;rw [List.take_succ,he] at he';rcases bE.mp he' with z | z
        ·exact hall e' z
        ·cases aP.mp z;exact he2
       ·have he2':dR F W (.tuple [d1,d2])=false:=by simpa using he2
        rw [he2'];have:=q H4 (S1.trans s4);rw [bad hem he2'] at this;exact eX this
   ·rintro σ H1 ⟨o3,rfl,S1,hall⟩;rw [lx,dW] at hall;have hall':ds.all (dR F W)=true:=List.all_eq_true.mpr hall;obtain ⟨smt,sl⟩:=ok.th.lev ds rfl hall';obtain ⟨U,hU1,hU2⟩:=ok.un ds rfl hall';have eds:ds=(ds.map dN).map jZ:=by
     rw [List.map_map]
     conv=>lhs;rw [<-List.map_id ds]
     exact List.map_congr_left λd hd=>(tR (hall d hd)).1
    have q':∀H',aX H H'->Q (.bl (decide ((ds.map dN).map (·.1)=qK F (jP (ds.map dN))))) H':=λH' s'=>by
     have:=q H' s';rw [show tJ F W (.tuple ds)=decide ((ds.map dN).map (·.1)=qK F (jP (ds.map dN))) by show (ds.all (dR F W)&&_)=_;rw [hall',Bool.true_and]] at this;exact this
    have et:∀e∈ds.map dN,ME F W e:=λe he=>by
     obtain ⟨d,hd,rfl⟩:=aU.mp he;exact (tR (hall d hd)).2
    rw [eds] at rl;have lx2:xs.length=(ds.map dN).length:=by rw [aA];exact lx
    have hl2:(ds.map dN).length<=60:=by rw [aA];exact hl
    have f2:=ok.f2;have w4:=ok.th.w;clear hall hall' eds q bad r0 lx hl;generalize ds.map dN=es at *;clear ok ht;have ha1:=S1 _ _ ha;have rl1:=rl.same S1;refine ⟨_,rfl,a,rfl,⟨_,eI.of ha1⟩,?_⟩;refine HC (n:=2) (as:=es) (λ_=>true) (λe x=>bR H1 (jZ e) x) (λe y H'=>bR H' (BU (e.1.sum::e.1)) y) (λe y H1 H2 s r=>r.flat s (yX _)) Oo ha1 (Paired.ofRepL rl1) (λx e H' he re s'=>?_) (λRk ys H2 hR e2 s2 pr=>?_)
    ·obtain ⟨b,u,v,rfl,hb,ru,rv⟩:=qI re;obtain ⟨cu,rfl,hcu⟩:=iO ru;refine ⟨b,_,rfl,eI.of (s' _ _ hb),rfl,λQ' k'=>k' H' (aX.refl _),λH5 Q' s5 _ k'=>?_⟩;refine ⟨_,rfl,?_⟩;refine rsT (eI.of (s5 _ _ (s' _ _ hcu))) ?_;refine ⟨_,rfl,?_⟩;refine mS (by show 2<=64;decide) λq6 H6 hq6 e6 s6=>?_;exact k' _ H6 s6 (bR.tup e6 (aL.cons (bR.int _) (aL.cons (iE (s6 _ _ (s5 _ _ (s' _ _ hcu)))) aL.nil)))
    ·rw [List.filter_eq_self.mpr λ_ _=>rfl] at pr;have ly:ys.length=es.length:=pr.length.symm;have hrk:∀{H':Hp} {i:Nat},aX H2 H'->i<es.length->∃y,ys[i]?=some y/\bR H' (BU (kZ es i)) y:=λ{H' i} s' hi=>by
      obtain ⟨e,he,re⟩:=pX pr (show ys[i]?=some (ys[i]'Oo) by simp);refine ⟨_,aN Oo,?_⟩;have:kZ es i=e.1.sum::e.1:=by
       unfold kZ;rw [bJ,aS,he];rfl
      rw [this];exact re.same s'
     have hrl:∀{i:Nat},i<es.length->(kZ es i).length=F+1:=λ{i} hi=>by
      unfold kZ;rw [bF,bJ,aS,aN hi];show (es[i].1).length+1=_;rw [(et _ (List.getElem_mem hi)).len]
     refine ⟨_,rfl,?_⟩;refine rlL e2 ?_;refine ⟨_,_,rfl,⟨Dd,Dd,Oo,Oo⟩,?_⟩;rw [show ((ys.length:Int)-1).toNat=es.length-1 by omega];have las:((List.range (es.length-1)).map λi=>(1:Int)+((i:Nat):Int)).length=es.length-1:=by rw [aA,cE]
     refine qJ (g:=PyData.int) (as:=(List.range (es.length-1)).map λi=>(1:Int)+((i:Nat):Int)) (λc=>!eV (kZ es (c-1).toNat) (kZ es c.toNat)) Oo (λi H' s' hi=>⟨by rw [las] at hi;exact hi,λx H4 y=>⟨y.1,?_⟩⟩) (λH' s'=>by rw [las];exact aK _) (λx c H' Q' hc rx' s' k'=>?_) (λx' H' Q' q=>⟨_,rfl,q⟩) (λD2 ys2 H9 hD2 e9 s9 r9=>?_)
     ·rw [las] at hi;refine ⟨1+(i:Int),by rw [aS,eR hi];rfl,?_⟩;rw [y.2];exact bR.int _
     ·cases (show x=V.int c from rx');obtain ⟨i,hi,rfl⟩:=aU.mp hc;have hi:=cU.mp hi;have k2:=k' H' (aX.refl _);rw [show ((1:Int)+(i:Int)-1).toNat=i by omega,show ((1:Int)+(i:Int)).toNat=i+1 by omega] at k2;obtain ⟨y1,hy1,ry1⟩:=hrk (i:=i) s' Oo;obtain ⟨y2,hy2,ry2⟩:=hrk (i:=i+1) s' Oo;refine ⟨_,rfl,_,rfl,_,_,rfl,rfl,?_⟩;refine xR (s' _ _ e2) (by rw [show (1:Int)+(i:Int)-1=((i:Nat):Int) by omega];exact fK hy1) ?_;refine ⟨_,rfl,_,rfl,?_⟩;refine xR (s' _ _ e2) (by rw [show (1:Int)+(i:Int)=((i+1:Nat):Int) by omega];exact fK hy2) ?_;refine rgek ry1 ry2 (λz=>by unfold kZ at z;cases z) (λz=>by unfold kZ at z;cases z) (by rw [hrl Oo,hrl Oo]) ?_;exact ⟨_,rfl,k2⟩
     ·change aL H9 ((sinks es).map PyData.int) ys2 at r9
      refine rJ (by show 0<=64;decide) λq5 H5 hq5 e5 s5=>?_;refine NQ (d:=.list ((sinks es).map PyData.int)) (d':=.list []) (bR.lst (s5 _ _ e9) (r9.same s5)) (bR.lst e5 aL.nil) (zB _) rfl ?_;rw [tO];refine ⟨_,rfl,?_⟩;have wf:∀e∈es,e.1.length=F/\∀x∈e.1,0<=x:=λe he=>⟨(et e he).len,(et e he).nn⟩;have ri:=yF (rs:=jP es) wf JD smt.fin;have S5:=S1.trans ((s2.trans s9).trans s5);by_cases hs:sinks es=[]
      ·rw [show decide ((sinks es).map PyData.int=[])=true by rw [hs];rfl];refine fB ?_;have rise:=uV.mp hs;have nde:=YH rise;have ers:=JD nde;rw [ers] at ri q';clear hrk hrl r9 e9 s9 s5 e5 pr e2 s2 hs sl smt;intro D hD;have s6:=aX.upd (o:=.dT []) hD;have e6:(upd H5 D (.dT [])) D=some (.dT []):=bL;generalize upd H5 D (.dT [])=H6 at s6 e6 ⊢;refine mS (by show 1<=64;decide) λq7 H7 hq7 e7 s7=>?_;refine ⟨_,rfl,?_⟩;refine VD e7 f2 Oo λq8 H8 s8 e8=>?_;have s68:=s7.trans s8;refine aAG (c:=List.replicate F 0) (by rw [List.map_replicate];exact e8) (s68 _ _ e6) λH9 e9 b9=>?_;have hD0:H D=none:=S5.free hD;have S9:aX H H9:=aX.thru hD0 ((S5.trans s6).trans s68) b9;refine ⟨_,rfl,a,rfl,⟨_,eI.of (S9 _ _ ha)⟩,?_⟩;refine sF (xs:=xs) (λi σ H'=>∃(o6 o7 o8:Option V) (kv:List (List dE × V)) (ks:List (List Int)),σ=[some (.int (F:Int)),some (.int (W:Int)),some (.ref a),o3,some (.ref Rk),some (.ref D),o6,o7,o8]/\aX H H'/\H' D=some (.dT kv)/\kv.map (·.1)=ks.map kT/\ks.Nodup/\∀c,c∈ks↔BY F (es.take i) c)
        ⟨_,_,_,_,[List.replicate F 0],rfl,S9,e9,rfl,by simp,λc=>?_⟩ (λi σ H' _ q=>?_) ?_ ?_
       ·rw [aP,List.take_zero];exact ⟨λh=>.inl h,λh=>by rcases h with h | ⟨e,he,_⟩;exact h;cases he⟩
       ·obtain ⟨_,_,_,_,_,_,s',_⟩:=q;exact eI.of (s' _ _ ha)
       ·clear S9 e9 b9 e6 e7 e8 s6 s7 s8 s68;rintro i x σ H1' hx ⟨o6,o7,o8,kv,ks,rfl,S1',eD,hk,ndk,hm⟩;obtain ⟨e,he,re⟩:=aL.atI rl hx;have hem:=bK he;have het:=et e hem;obtain ⟨b,u,v,rfl,hb,ru,rv⟩:=qI (re.same S1');refine ⟨b,_,rfl,eI.of hb,rfl,?_⟩;refine ⟨_,_,rfl,_,_,rfl,rfl,?_⟩;obtain ⟨f0,fr,ef,hh,_⟩:=DM het.sy w4;rw [ef] at rv;refine ⟨_,rfl,_,rfl,?_⟩;refine uR ru rv (by rw [het.len];exact hF4) (by have:=het.sy.len;rw [ef,bF] at this;omega) λL ys' H2' hL eL rL sL=>?_;have lnx:(nexts e.1 f0).length=ys'.length:=by rw [rL.len,aA]
        have nLD:L≠D:=λz=>by rw [z,eD] at hL;cases hL
        refine ⟨L,rfl,⟨_,gG.of eL⟩,?_⟩;refine pD (xs:=ys') (λj σ H'=>∃(o8:Option V) (kv:List (List dE × V)) (ks:List (List Int)),σ=[some (.int (F:Int)),some (.int (W:Int)),some (.ref a),o3,some (.ref Rk),some (.ref D),some u,some v,o8]/\aX H H'/\H' L=some (.lst ys')/\aL H' ((nexts e.1 f0).map dX) ys'/\H' D=some (.dT kv)/\kv.map (·.1)=ks.map kT/\ks.Nodup/\∀c,c∈ks↔BY F (es.take i) c\/c∈(nexts e.1 f0).take j)
         ⟨_,kv,ks,rfl,S1'.trans sL,eL,rL,sL _ _ eD,hk,ndk,λc=>?_⟩ (λj σ H' _ q=>?_) ?_ ?_
        ·rw [hm c,List.take_zero];exact ⟨λh=>.inl h,λh=>by rcases h with h | h;exact h;cases h⟩
        ·obtain ⟨_,_,_,_,_,h,_⟩:=q;exact gG.of h
        ·clear S1' eD hk ndk hm eL rL sL;rintro j x σ H3' hx' ⟨o8,kv,ks,rfl,S3,eL,rL,eD,hk,ndk,hm⟩;obtain ⟨cc,hci,rx⟩:=rL.atI hx';obtain ⟨ax,rfl,hax⟩:=iO rx;refine ⟨_,rfl,_,rfl,?_⟩;obtain ⟨ks2,h2a,h2b,h2c⟩:=KN (v:=.bl true) cc hk ndk;have hdue:∀c∈ks2,c∈U:=λc hc=>by
          rcases (h2c c).mp hc with z | z
          ·rcases (hm c).mp z with z | z
           ·refine hU2 c ?_;rcases z with z | ⟨e',he',z⟩
            ·exact .inl z
            ·exact .inr ⟨e',List.mem_of_mem_take he',z⟩
           ·exact hU2 c (.inr ⟨e,hem,by rw [hh];exact List.mem_of_mem_take z⟩)
          ·subst z;exact hU2 _ (.inr ⟨e,hem,by rw [hh];exact bK hci⟩)
         have lks:kv.length<=1000:=by
          have h1:kv.length=ks.length:=by have:=congrArg List.length hk;rwa [aA,aA] at this
          have h2:=eJ ndk (m:=U) λc hc=>by
           refine hdue c ((h2c c).mpr (.inl hc))
          omega
         refine dpT eD hax Oo λH4' e4 b4=>?_;refine ⟨_,_,ks2,rfl,aX.thru hD0 S3 b4,b4.at nLD eL,rL.flat (b4.tT eD) (fE _),e4,h2a,h2b,λc=>?_⟩;rw [h2c c,hm c,List.take_succ,hci];simp only [Option.toList_some,bE,aP];exact or_assoc
        ·clear S1' eD hk ndk hm eL rL sL;rintro σ H3' ⟨o8,kv,ks,rfl,S3,_,_,eD,hk,ndk,hm⟩;refine ⟨_,_,_,kv,ks,rfl,S3,eD,hk,ndk,λc=>?_⟩;rw [hm c,<-lnx,dW,List.take_succ,he];unfold BY;rw [Option.toList_some];constructor
         ·rintro ((h | ⟨e',he',h⟩) | h)
          ·exact .inl h
          ·exact .inr ⟨e',bO _ he',h⟩
          ·exact .inr ⟨e,aG _ (aP.mpr rfl),by rw [hh];exact h⟩
         ·rintro (h | ⟨e',he',h⟩)
          ·exact .inl (.inl h)
          ·rcases bE.mp he' with z | z
           ·exact .inl (.inr ⟨e',z,h⟩)
           ·cases aP.mp z;exact .inr (by rw [<-hh];exact h)
       ·clear S9 e9 b9 e6 e7 e8 s6 s7 s8 s68;rintro σ H1' ⟨o6,o7,o8,kv,ks,rfl,S1',eD,hk,ndk,hm⟩;rw [lx2,dW] at hm;have lks:=eJ ndk (m:=U) λc hc=>hU2 c ((hm c).mp hc);have hks:∀c∈ks,c.length=F:=λc hc=>by
         rcases (hm c).mp hc with rfl | ⟨e',he',z⟩
         ·exact bX ..
         ·rw [(iY z (et e' he').nn).1,(et e' he').len]
        refine ⟨_,rfl,?_⟩;refine rsrd eD hk (λc hc z=>by have:=hks c hc;rw [z] at this;simp at this;omega) Oo λq1 y1 ds1 H2' pm1 so1 hq1 g1 r1 t1=>?_;have S2':=S1'.trans t1;obtain ⟨kvs,p1,p2⟩:=BJ (K:=K) (rl.same S2');refine ⟨_,rfl,?_⟩;refine rdca (S2' _ _ ha) p1 (by rw [p2.length];omega) λD3 H3' hD3 e3 t2=>?_;have p3:Paired (mM K H2') (BG [] kvs) (jP es):=qH .nil p2;rw [ers] at p3;have hk3:(BG [] kvs).map (·.1)=(es.map (·.1)).map MJ:=by rw [RS p3,List.map_map];rfl
        refine rsrd e3 hk3 (λc hc z=>by
         obtain ⟨e',he',rfl⟩:=aU.mp hc;have:=(et e' he').len;rw [z] at this;simp at this;omega) (by rw [aA];omega) λq2 y2 ds2 H4' pm2 so2 hq2 g2 r2 t3=>?_
        refine NQ (d:=.list (ds1.map dX)) (d':=.list (ds2.map dX)) (bR.lst (t3 _ _ (t2 _ _ g1)) ((r1.same t2).same t3)) (bR.lst g2 r2) (kL _) (kL _) ?_;rw [tP,Bool.true_beq];have:=q' H4' ((S2'.trans t2).trans t3);rw [show decide (es.map (·.1)=qK F es)=decide (ds1=ds2) from decide_eq_decide.mpr ?_] at this
        ·exact this
        ·rw [ri];constructor
         ·rintro ⟨_,h⟩;refine tE so1 so2 λc=>?_;rw [pm1.mem_iff,pm2.mem_iff,hm c,h c]
         ·intro h;refine ⟨rise,λc=>?_⟩;rw [<-pm2.mem_iff,<-h,pm1.mem_iff,hm c]
      ·rw [show decide ((sinks es).map PyData.int=[])=false from bH λz=>hs (List.map_eq_nil_iff.mp z)];refine eX ?_;have:=q' H5 S5;rw [bH λz=>hs (uV.mpr (ri.mp z).1)] at this;exact this
  ·have ht':rM d=false:=by simpa using ht
   rw [ht'];refine eX ?_;have:=q H (aX.refl _);rw [show tJ F W d=false by
    cases d with
    | tuple ds=>exact absurd rfl ht
    | _=>rfl] at this
   exact this
 ·refine ⟨_,rfl,?_⟩;refine YJ hD ?_;refine ⟨_,rfl,?_⟩;exact eX (q H (aX.refl _))
end
end Kw
namespace L2
open PySem PySem.W PySem.Spec PySem.Calls PyProof.Rows
section
variable{X:Cx}
@[irreducible] def pU:List V->Hp->VK->Prop:=λxs H Q=>(∃x d,xs=[x]/\bR H d x/\d.showable=true/\d.hasDict=false/\d.depth<=60/\d.shown.length<=sizeLine/\Q (.str d.shown) H)\/pT xs H Q
theorem YG{H:Hp}{Q:VK}{x:V}{d:PyData}(r:bR H d x)(h1:d.showable=true)(h2:d.hasDict=false)(h3:d.depth<=60)(h4:d.shown.length<=sizeLine)(q:Q (.str d.shown) H):pU [x] H Q:=by unfold pU;exact .inl ⟨x,d,rfl,r,h1,h2,h3,h4,q⟩
theorem YF{H:Hp}{Q:VK}{xs:List V}(h:pT xs H Q):pU xs H Q:=by unfold pU;exact .inr h
theorem zO(hg:X.A.guards=some [])(hu:X.A.units+64<cLine):eW X (.builtin "repr") pU:=by
 unfold pU;intro pins s σ H xs us Q I r h;rcases h with h | h
 ·exact HF hg hu pins s σ H xs us Q I r h
 ·exact LO hg hu pins s σ H xs us Q I r h
end
end L2
namespace Kw
open PySem L2 Mf
abbrev TW:Stmt:=(top 45)
theorem WQ:bZ ["_law_faces","_law_ways","_law_thing","_law_kept","_law_found"] ["_law_faces","_law_ways","_law_thing"] (bD TW):=⟨rfl,rfl,rfl,Kk,rfl,Kk,Kk⟩
structure uA(d:PyData):Prop where
 sh:d.showable=true
 nd:d.hasDict=false
 dp:d.depth<=60
 ln:d.shown.length<=sizeLine
structure ZU(ts:List (List Int × PyData)):Prop where
 sh:PyData.showable (nL ts)=true
 nd:PyData.hasDictAll (ts.map (·.2))=false
 dp:(nL ts).depth<=60
 ln:(nL ts).shown.length<=sizeLine
abbrev CO(H:Hp)(p:List dE × V)(e:List Int × PyData):Prop:=p.1=kT e.1/\bR H e.2 p.2
def FF(F W:Nat)(H:Hp)(x:V):Prop:=(∃d,bR H d x/\kP F W d/\uA d)\/∃D kvs ts,x=.ref D/\H D=some (.dT kvs)/\Paired (CO H) kvs ts/\ZU ts
@[irreducible] def iA:Sp:=λvs H Q _=>∃(x:V) (F W:Nat),vs=[.int (F:Int),.int (W:Int),x]/\FF F W H x/\∀H',aX H H'->Q (.bl true) H'
theorem lY{H:Hp}{Q:VK}{E:XK}{x:V}{F W:Nat}(h:FF F W H x)(q:∀H',aX H H'->Q (.bl true) H'):iA [.int (F:Int),.int (W:Int),x] H Q E:=by unfold iA;exact ⟨x,F,W,rfl,h,q⟩
section
theorem aBb(F:iK K "_law_right" "_law_right" TW f fd)(T:kR K mg c)(FQ28:hU dM P w K mg base 8 "is_rule" ["faces","ways","thing"] (gO K))(FQ5:hU dM P w K mg base 5 "_law_is_rule" ["_law_faces","_law_ways","_law_thing"] (gK K)):dP P w K mg base dM 9 f fd ["_law_faces","_law_ways","_law_thing"] iA:=by
 refine F.oky WQ λvs H Q E h=>?_;unfold iA at h;obtain ⟨x,F,W,rfl,h,q⟩:=h;refine ⟨rfl,λcdv A outer s hr=>?_⟩;refine ⟨_,(aW (cC (i:=3) WQ.nd rfl (Or.inl rfl) (cS (zO hr.gd hr.units) (by rfl) T.b_repr Kk (aH (aJ 2) aC)))
  (aW (cC (i:=4) WQ.nd rfl (Or.inl rfl) (cF FQ28 (hr.mono Dd) (aH (aJ 0) (aH (aJ 1) (aH (aJ 2) aC)))))
  (bG (bV (fX (cS (kN K) (by rfl) T.b_isinstance Kk (aH (aJ 4) (aH (fU (v:=.ty "bool") (u:=.type "bool") rfl T.b_bool Kk rfl) aC))) (fX (fG jI (aJ 4) (cF FQ5 (hr.mono Dd) (aH (aJ 0) (aH (aJ 1) (aH (aJ 2) aC)))) (nomark _)) (hZ (fG jI (cS (zO hr.gd hr.units) (by rfl) T.b_repr Kk (aH (aJ 2) aC)) (aJ 3) (nomark _))))))))),?_⟩
 rcases h with ⟨d,r,ok,sh⟩ | ⟨D,kvs,ts,rfl,hD,p,sh⟩
 ·refine ⟨_,rfl,?_⟩;refine YG r sh.sh sh.nd sh.dp sh.ln ?_;refine ⟨_,rfl,_,rfl,_,rfl,?_⟩;refine qV r ok.th λH1 s1=>?_;refine ⟨_,rfl,?_⟩;refine wK (bR.bl _).k ?_;refine ⟨_,rfl,?_⟩;refine eX ?_;refine ⟨_,rfl,_,rfl,_,rfl,_,rfl,?_⟩;refine wE (r.same s1) ok λH2 s2=>?_;refine ⟨rfl,_,rfl,?_⟩;refine nC (by simp) ?_;refine ⟨_,rfl,?_⟩;refine YG (r.same (s1.trans s2)) sh.sh sh.nd sh.dp sh.ln ?_;refine ⟨_,rfl,rfl,?_⟩;rw [aM rfl];exact q H2 (s1.trans s2)
 ·refine ⟨_,rfl,?_⟩;refine YF (rrT hD p sh.sh sh.nd sh.dp sh.ln ?_);refine ⟨_,rfl,_,rfl,_,rfl,?_⟩;refine yA hD λH1 s1=>?_;refine ⟨_,rfl,?_⟩;refine wK (bR.bl _).k ?_;refine ⟨_,rfl,?_⟩;refine eX ?_;refine ⟨_,rfl,_,rfl,_,rfl,_,rfl,?_⟩;refine wD (s1 _ _ hD) λH2 s2=>?_;refine ⟨rfl,_,rfl,?_⟩;refine nC (by simp) ?_;have s12:=s1.trans s2;refine ⟨_,rfl,?_⟩;refine YF (rrT (s12 _ _ hD) (Paired.imp' (λ_ _ r=>⟨r.1,r.2.same s12⟩) p) sh.sh sh.nd sh.dp sh.ln ?_);refine ⟨_,rfl,rfl,?_⟩;rw [aM rfl];exact q H2 s12
end
theorem iZ:∀{c:List Int},(∀x∈c,0<=x)->∀x∈c,x<=c.sum
 | [],_,x,h=>by cases h
 | a::c,h,x,m=>by
  have h1:=jY λx hx=>h x (aD a hx);have h2:=h a (aF ..);rw [List.sum_cons];rcases aR.mp m with rfl | m
  ·omega
  ·have:=iZ (λx hx=>h x (aD _ hx)) x m;omega
theorem aL.app26{H:Hp}:∀{ds es:List PyData}{xs ys:List V},aL H ds xs->aL H es ys->aL H (ds++es) (xs++ys)
 | [],es,xs,ys,h1,h2=>by cases (show xs=[] from h1);exact h2
 | d::ds,es,xs,ys,h1,h2=>by
  unfold aL at h1;obtain ⟨x,xs',rfl,hx,hr⟩:=h1;exact aL.cons hx (aL.app26 hr h2)
def xN(σ:St)(t:TE)(d:PyData):Prop:=∀(H:Hp) (Q:VK),(∀v H',aX H H'->bR H' d v->Q v H')->t σ H Q
def ZZ(σ:St)(t:TA)(ds:List PyData):Prop:=∀(H:Hp) (Q:List V->Hp->Prop),(∀vs H',aX H H'->aL H' ds vs->Q vs H')->t σ H Q
section
variable{K:PySem.W.Frag}{σ:St}{t t':TE}{ta:TA}{d:PyData}{ds es:List PyData}
theorem dI{i:Int}:xN σ (tC (.int i)) (.int i):=λH Q k=>k _ H (aX.refl H) (bR.int i)
theorem VG{i:Str}:xN σ (tC (.str i)) (.str i):=λH Q k=>k _ H (aX.refl H) (bR.str i)
theorem VH:xN σ (tC .non) .none:=λH Q k=>k _ H (aX.refl H) bR.non
theorem VI{i:Int}:xN σ (tUn (rU λi=>.int (-i)) (tC (.int i))) (.int (-i)):=λH Q k=>⟨i,rfl,k _ H (aX.refl H) (bR.int (-i))⟩
theorem eO:ZZ σ SR []:=λH Q k=>k _ H (aX.refl H) aL.nil
theorem bW(h:xN σ t d)(hs:ZZ σ ta ds):ZZ σ (IN t ta) (d::ds):=λH Q k =>
 h H _ λv H1 s1 r1=>hs H1 _ λvs H2 s2 r2=>k _ H2 (s1.trans s2) (aL.cons (r1.same s2) r2)
theorem fH(h:ZZ σ ta ds)(hz:ds.length<=64):xN σ (tTu ta) (.tuple ds):=λH Q k =>
 h H _ λvs H1 s1 r1=>mS (by rw [r1.len];exact hz) λq H2 hq e2 s2=>k _ H2 (s1.trans s2) (bR.tup e2 (r1.same s2))
theorem BN(h:ZZ σ ta ds)(hz:ds.length<=64):xN σ (tLs ta) (.list ds):=λH Q k =>
 h H _ λvs H1 s1 r1=>rJ (by rw [r1.len];exact hz) λq H2 hq e2 s2=>k _ H2 (s1.trans s2) (bR.lst e2 (r1.same s2))
theorem yH{H:Hp}{d:PyData}{v:V}(r:bR H d v):∀k,aL H (List.replicate k d) (List.replicate k v)
 | 0=>aL.nil
 | k+1=>aL.cons r (yH r k)
theorem VJ(h:xN σ t (.tuple ds))(h':xN σ t' (.tuple es))(hl:ds.length+es.length<=1000):xN σ (HW (yK K) t t') (.tuple (ds++es)):=λH Q q=>by
 refine h H _ λv H1 s1 r1=>h' H1 _ λw H2 s2 r2=>?_;have r1:=r1.same s2;unfold bR at r1 r2;obtain ⟨a,xs,rfl,ha,rl⟩:=r1;obtain ⟨b,ys,rfl,hb,rm⟩:=r2;exact iP ha hb (by rw [rl.len,rm.len];exact hl) λc H3 s3 e3=>q _ H3 ((s1.trans s2).trans s3) (bR.tup e3 (aL.app26 (rl.same s3) (rm.same s3)))
theorem xN.use{H:Hp}{Q:VK}(m:xN σ t d)(k:∀v H',aX H H'->bR H' d v->Q v H'):t σ H Q:=m H Q k
end
abbrev FB:=List (List Int × PyData)
theorem RP{σ:St}{i:Bool}:xN σ (tC (.bl i)) (.bool i):=λH Q k=>k _ H (aX.refl H) (bR.bl i)
def MI(σ:St)(t:TE)(k:Nat):Prop:=∀(H:Hp) (Q:VK),Q (.int (k:Int)) H->t σ H Q
theorem PB{σ:St}{i k:Nat}(h:σ[i]?=some (some (.int (k:Int))))(hk:1<=k):MI σ (HW (NT λi j=>V.int (i-j)) (MV i) (tC (.int 1))) (k-1):=λH Q q=>⟨_,h,(k:Int),1,rfl,rfl,by rw [show ((k-1:Nat):Int)=(k:Int)-1 by omega] at q;exact q⟩
theorem PC{σ:St}{t u:TE}{d:PyData}{k:Nat}(h:xN σ t (.tuple [d]))(hu:MI σ u k)(hk:k<=64):xN σ (HW yJ t u) (.tuple (List.replicate k d)):=λH Q q=>by
 refine h H _ λv H1 s1 r1=>?_;unfold bR aL aL at r1;obtain ⟨a,_,rfl,ha,x,_,rfl,rx,rfl⟩:=r1;refine hu H1 _ ?_;exact aBd ha hk λc H2 s2 e2=>q _ H2 (s1.trans s2) (bR.tup e2 (yH (bR.same s2 rx) k))
def XD(H:Hp)(p:Addr):Prop:=(∀xs,H p≠some (.tup xs))/\∀xs,H p≠some (.lst xs)
theorem bP.nosq{H:Hp}{p:Addr}{n:Nat}(h:bP H p n):XD H p:=by
 obtain ⟨c,l,t,h,_⟩:=h.ex;exact ⟨(λxs e=>by rw [h] at e;cases e),(λxs e=>by rw [h] at e;cases e)⟩
mutual
theorem pS{H H':Hp}{p:Addr}(s:aT p H H')(hp:XD H p):∀{d:PyData}{v:V},d.hasDict=false->bR H d v->bR H' d v
 | .none,_,_,h=>h
 | .bool _,_,_,h=>h
 | .int _,_,_,h=>h
 | .str _,_,_,h=>h
 | .list ds,_,f,h=>by
  unfold bR at h ⊢;obtain ⟨a,xs,rfl,h1,h2⟩:=h;exact ⟨a,xs,rfl,s.at (λz=>by subst z;exact hp.2 _ h1) h1,wL s hp f h2⟩
 | .tuple ds,_,f,h=>by
  unfold bR at h ⊢;obtain ⟨a,xs,rfl,h1,h2⟩:=h;exact ⟨a,xs,rfl,s.at (λz=>by subst z;exact hp.1 _ h1) h1,wL s hp f h2⟩
 | .dict kvs,_,f,h=>by cases f
theorem wL{H H':Hp}{p:Addr}(s:aT p H H')(hp:XD H p):∀{ds:List PyData}{vs:List V},PyData.hasDictAll ds=false->aL H ds vs->aL H' ds vs
 | [],_,_,h=>h
 | d::ds,_,f,h=>by
  unfold aL at h ⊢;obtain ⟨x,xs,rfl,h1,h2⟩:=h;have f':(d.hasDict || PyData.hasDictAll ds)=false:=f;rw [Bool.or_eq_false_iff] at f';exact ⟨x,xs,rfl,pS s hp f'.1 h1,wL s hp f'.2 h2⟩
end
theorem EU{F W M m:Nat}(Z:jO F W M)(hm:m<=M):(vM F m).length<=10:=by
 have h2:∀m≤4,(vM 2 m).length<=10:=Dd;have h3:∀m≤3,(vM 3 m).length<=10:=Dd;have h4:∀m≤2,(vM 4 m).length<=10:=Dd;rcases Z.f with ⟨rfl,h⟩ | ⟨rfl,h⟩ | ⟨rfl,h⟩
 ·exact h2 m Oo
 ·exact h3 m Oo
 ·exact h4 m Oo
theorem iU.lev{F W M:Nat}{es:List dB}(R:iU F W M es)(Z:jO F W M)(m:Nat):((es.map (·.1)).filter λc=>decide (c.sum=(m:Int))).length<=10:=by
 rcases Nat.lt_or_ge M m with h | h
 ·have:(es.map (·.1)).filter (λc=>decide (c.sum=(m:Int)))=[]:=List.filter_eq_nil_iff.mpr λc hc=>by
   obtain ⟨e,he,rfl⟩:=aU.mp hc;have:=(R.each e he).2.2.1;simp;omega
  rw [this];exact cB _
 ·refine bC (eJ (R.nd.sublist (List.filter_sublist ..)) λc hc=>?_) (EU Z h);obtain ⟨h1,h2⟩:=dC.mp hc;obtain ⟨e,he,rfl⟩:=aU.mp h1;have:=R.each e he;exact eS.mpr ⟨this.1,this.2.1,of_decide_eq_true h2⟩
theorem iU.few{F W M:Nat}{es:List dB}(R:iU F W M es)(Z:jO F W M):es.length<=50:=by
 have h:∀c∈es.map (·.1),c∈(List.range (M+1)).flatMap λm=>vM F m:=λc hc=>by
  obtain ⟨e,he,rfl⟩:=aU.mp hc;obtain ⟨h1,h2,h3,_⟩:=R.each e he;have:=jY h2;exact List.mem_flatMap.mpr ⟨e.1.sum.toNat,cU.mpr Oo,eS.mpr ⟨h1,h2,Oo⟩⟩
 have h1:=eJ R.nd h;rw [aA] at h1;have h2:∀n≤M+1,((List.range n).flatMap λm=>vM F m).length<=n*10:=λn=>by
  induction n with
  | zero=>intro _;exact cB _
  | succ n ih =>
   intro hn;have:=EU Z (m:=n) Oo;have:=ih Oo;rw [List.range_succ,List.flatMap_append,aI,List.flatMap_singleton];omega
 have:=h2 (M+1) (aK _);have:=Z.f;omega
abbrev sQ2:Stmt:=(top 42)
theorem ZR:bZ ["_law_tape_here","_law_says_here","_law_at","_law_odd","_law_bent_here"] ["_law_tape_here","_law_says_here"] (bD sQ2):=⟨rfl,rfl,rfl,Kk,rfl,Kk,Kk⟩
def RK:PyData->Bool
 | .none=>true
 | .bool _=>true
 | .int i=>decide (-100<=i)&&decide (i<=100)
 | .str x=>decide (x = "1")
 | _=>false
def GS:PyData->Bool
 | .tuple ds=>decide (ds.length<=2)&&ds.all RK
 | .list ds=>decide (ds.length<=2)&&ds.all RK
 | d=>RK d
def WS:PyData->Bool
 | .tuple ds=>decide (ds.length<=6)&&ds.all GS
 | .list ds=>decide (ds.length<=6)&&ds.all GS
 | _=>false
theorem RH{n:Nat}{sy:List Fr}(hn:n<=5)(h:kB n sy):∀e∈sy.map iJ,GS e=true:=λe he=>by
 obtain ⟨f,hf,rfl⟩:=aU.mp he;obtain ⟨ns,h1,h2,h3,rfl⟩:=h.ex;obtain ⟨x,hx,rfl⟩:=aU.mp hf;have h4:=oH h2;rw [h1] at h4;have hx2:=h2 x hx;have hg:(0:Int)<(Int.gcd x ns.sum:Int):=by
  have:=Int.gcd_pos_of_ne_zero_right x (show ns.sum≠0 by omega);omega
 have a1:(lw x ns.sum).1<=x:=by unfold lw;exact Int.ediv_le_self _ Oo
 have a2:0<=(lw x ns.sum).1:=by unfold lw;exact Int.ediv_nonneg Oo Oo
 have a3:(lw x ns.sum).2<=ns.sum:=by unfold lw;exact Int.ediv_le_self _ Oo
 have a4:0<=(lw x ns.sum).2:=by unfold lw;exact Int.ediv_nonneg Oo Oo
 show (decide (2<=2)&&((decide (-100<=(lw x ns.sum).1)&&decide ((lw x ns.sum).1<=100))&&((decide (-100<=(lw x ns.sum).2)&&decide ((lw x ns.sum).2<=100))&&true)))=true;rw [aM (show -100<=(lw x ns.sum).1 by omega),aM (show (lw x ns.sum).1<=100 by omega),aM (show -100<=(lw x ns.sum).2 by omega),aM (show (lw x ns.sum).2<=100 by omega)]
 rfl
theorem fF{H:Hp}:∀{ds:List PyData}{vs:List V}(n:Nat),aL H ds vs->aL H (ds.take n) (vs.take n)
 | [],_,n,h=>by cases (show _=[] from h);rw [List.take_nil,List.take_nil];exact aL.nil
 | d::ds,_,0,h=>aL.nil
 | d::ds,_,n+1,h=>by
  unfold aL at h;obtain ⟨x,xs,rfl,h1,h2⟩:=h;exact aL.cons h1 (fF n h2)
theorem gP{H:Hp}:∀{ds:List PyData}{vs:List V}(n:Nat),aL H ds vs->aL H (ds.drop n) (vs.drop n)
 | [],_,n,h=>by cases (show _=[] from h);rw [List.drop_nil,List.drop_nil];exact aL.nil
 | d::ds,_,0,h=>h
 | d::ds,_,n+1,h=>by
  unfold aL at h;obtain ⟨x,xs,rfl,h1,h2⟩:=h;exact gP n h2
def aAJ:List PyData:=[.tuple [.int 1,.int 2],.tuple [.int 2,.int 2],.tuple [.int 0,.int 2],.tuple [.int (-1),.int 1],.tuple [.int 3,.int 2],.tuple [.int 1,.int 0],.tuple [.bool true,.int 1],.tuple [.int 1,.bool true]]++[.list [.int 1,.int 1],.int 1,.none,.str (Str.ofString "1"),.tuple [.int 1],.tuple [.int 0,.int 1],.tuple [.int 1,.int 1]]
theorem OY:aAJ.all (λd=>GS d && !d.hasDict)=true:=Kk
theorem GX(xs:List V):kA xs none (some (-1))=xs.take (xs.length-1):=by
 unfold kA;rw [HT.sP,List.drop_zero,Nat.sub_zero];congr 1;show (if (-1:Int)<0 then (-1+(xs.length:Int)).toNat else min (-1:Int).toNat xs.length)=_;rw [if_pos Dd];omega
theorem yE{K:PySem.W.Frag}{H:Hp}{a:Addr}{xs:List V}{Q:VK}(h:H a=some (.tup xs))(q:∀c H',aX H H'->H' c=some (.tup (xs.take (xs.length-1)))->Q (.ref c) H'):sR K (.ref a) none (some (-1)) H Q:=by
 unfold sR;exact ⟨a,xs,rfl,h,λc H' s e=>q c H' s (by rw [e,GX])⟩
theorem CG{ds:List PyData}(h:ds.length<=6)(h2:∀e∈ds,GS e=true):WS (.tuple ds)=true:=by
 show (decide (ds.length<=6)&&ds.all GS)=true;rw [aM h,List.all_eq_true.mpr h2];rfl
theorem oV{p:PyData->Bool}(hp:∀d,p d=true->d.hasDict=false):∀{ds:List PyData},ds.all p=true->PyData.hasDictAll ds=false
 | [],_=>rfl
 | d::ds,h=>by
  rw [List.all_cons,aQ] at h;show (d.hasDict || PyData.hasDictAll ds)=false;rw [hp d h.1,oV hp h.2];rfl
theorem RJ:∀d,RK d=true->d.hasDict=false:=λd h=>by cases d <;> first | rfl | cases h
theorem RV:∀d,GS d=true->d.hasDict=false:=λd h=>by
 cases d with
 | tuple ds =>
  have h:(decide (ds.length<=2)&&ds.all RK)=true:=h;rw [aQ] at h;exact oV RJ h.2
 | list ds =>
  have h:(decide (ds.length<=2)&&ds.all RK)=true:=h;rw [aQ] at h;exact oV RJ h.2
 | dict _=>cases h
 | _=>rfl
theorem ZS{d:PyData}(h:WS d=true):d.hasDict=false:=by
 cases d with
 | tuple ds =>
  have h:(decide (ds.length<=6)&&ds.all GS)=true:=h;rw [aQ] at h;exact oV RV h.2
 | list ds =>
  have h:(decide (ds.length<=6)&&ds.all GS)=true:=h;rw [aQ] at h;exact oV RV h.2
 | _=>cases h
@[irreducible] def mD:Sp:=λvs H Q _=>∃(p:Addr) (n m:Nat) (x:V) (sy:List Fr),vs=[.ref p,x]/\bP H p (n+3)/\bR H (lO sy) x/\kB m sy/\3<=m/\m<=5/\∀v d H',bP H' p n->aT p H H'->bR H' d v->WS d=true->Q v H'
theorem AU{H:Hp}{Q:VK}{E:XK}{p:Addr}{n m:Nat}{x:V}{sy:List Fr}(T:bP H p (n+3))(r:bR H (lO sy) x)(h:kB m sy)(h1:3<=m)(h2:m<=5)(q:∀v d H',bP H' p n->aT p H H'->bR H' d v->WS d=true->Q v H'):mD [.ref p,x] H Q E:=by unfold mD;exact ⟨p,n,m,x,sy,rfl,T,r,h,h1,h2,q⟩
section
theorem oQ2(F:iK K "_law_bent_says" "_law_bent_says" sQ2 f fd)(T:kR K mg c)(FQ9:hU dM P w K mg base 1 "_law_pick" ["_law_tape_here","_law_many"] gT):dP P w K mg base dM 2 f fd ["_law_tape_here","_law_says_here"] mD:=by
 refine F.oky ZR λvs H Q E h=>?_;unfold mD at h;obtain ⟨p,n,m,x,sy,rfl,TP,r,SO,m3,m5,q⟩:=h;refine ⟨rfl,λcdv A outer s hr=>?_⟩;have hit:=RH m5 SO;have lsy:sy.length=m:=SO.len;obtain ⟨a,xs,rfl,ha,rl⟩:=IZ r;have lx:xs.length=sy.length:=by rw [rl.len,aA]
 have nap:=TP.neT ha;refine ⟨_,(aW (cC (i:=2) ZR.nd rfl (Or.inl rfl) (cF FQ9 (hr.mono Dd) (aH (aJ 0) (aH (cS fS (by rfl) T.b_len Kk (aH (aJ 1) aC)) aC))))
  (aW (cC (i:=3) ZR.nd rfl (Or.inl rfl) (dS (aH (cH (aH aE (aH aE aC))) (aH (cH (aH aE (aH aE aC))) (aH (cH (aH aE (aH aE aC))) (aH (cH (aH (xS sJ aE) (aH aE aC))) (aH (cH (aH aE (aH aE aC))) (aH (cH (aH aE (aH aE aC))) (aH (cH (aH fW (aH aE aC))) (aH (cH (aH aE (aH fW aC))) aC))))))))))
  (aW (cC (i:=3) ZR.nd rfl (Or.inl rfl) (bS VB (aJ 3) (dS (aH (dS (aH aE (aH aE aC))) (aH aE (aH vW (aH iM (aH (cH (aH aE aC)) (aH (cH (aH aE (aH aE aC))) (aH (cH (aH aE (aH aE aC))) aC))))))))))
  (aW (cC (i:=4) ZR.nd rfl (Or.inl rfl) (bS (dA K) (bS (dA K) (cM (cY K) (aJ 1) cX (cT (aJ 2))) (cH (aH (cK cG (aJ 3) (cF FQ9 (hr.mono Dd) (aH (aJ 0) (aH aE aC))) (λ_ _=>rfl)) aC))) (cM (cY K) (aJ 1) (cT (bS dU (aJ 2) aE)) cX)))
  (bG (bV (cK cG (dS (aH (aJ 4) (aH (aJ 4) (aH (aJ 4) (aH (cM (cY K) (aJ 1) cX (cT (xS sJ aE))) (aH (bS (dA K) (aJ 1) (cH (aH (cH (aH aE (aH aE aC))) aC))) (aH (kC lJ (by rfl) T.b_list Kk (aH (aJ 1) aC)) (aH (cH aC) aC)))))))) (cF FQ9 (hr.mono Dd) (aH (aJ 0) (aH aE aC))) (λ_ _=>rfl)))))))),?_⟩
 refine ⟨_,rfl,_,rfl,?_⟩;refine NP ha ?_;refine cQ (n:=n+2) TP Oo (bitsle (bI (show ((xs.length:Nat):Int).natAbs<=9 by omega) Dd)) λz H1 z0 z1 T1 b1=>?_;obtain ⟨k,rfl⟩:∃k:Nat,z=(k:Int):=⟨z.toNat,Oo⟩;have ha1:=b1.at nap ha;have rl1:aL H1 (sy.map iJ) xs:=rl.flat (TP.t b1) (pC sy);refine xN.use (BN (bW (fH (bW dI (bW dI eO)) (Nat.le_of_ble_eq_true rfl)) (bW (fH (bW dI (bW dI eO)) (Nat.le_of_ble_eq_true rfl)) (bW (fH (bW dI (bW dI eO)) (Nat.le_of_ble_eq_true rfl)) (bW (fH (bW VI (bW dI eO)) (Nat.le_of_ble_eq_true rfl)) (bW (fH (bW dI (bW dI eO)) (Nat.le_of_ble_eq_true rfl)) (bW (fH (bW dI (bW dI eO)) (Nat.le_of_ble_eq_true rfl)) (bW (fH (bW RP (bW dI eO)) (Nat.le_of_ble_eq_true rfl)) (bW (fH (bW dI (bW RP eO)) (Nat.le_of_ble_eq_true rfl)) eO)))))))) (Nat.le_of_ble_eq_true rfl)) λv1 H2 s2 r2=>?_;refine ⟨_,rfl,?_⟩;refine xN.use (BN (bW (BN (bW dI (bW dI eO)) (Nat.le_of_ble_eq_true rfl)) (bW dI (bW VH (bW VG (bW (fH (bW dI eO) (Nat.le_of_ble_eq_true rfl)) (bW (fH (bW dI (bW dI eO)) (Nat.le_of_ble_eq_true rfl)) (bW (fH (bW dI (bW dI eO)) (Nat.le_of_ble_eq_true rfl)) eO))))))) (Nat.le_of_ble_eq_true rfl)) λv2 H3 s3 r3=>?_;have r2':=r2.same s3;unfold bR at r2' r3;obtain ⟨a2,ys2,rfl,h2,l2⟩:=r2';obtain ⟨a3,ys3,rfl,h3,l3⟩:=r3;have y2:ys2.length=8:=l2.len;have y3:ys3.length=7:=l3.len;refine aBo h2 h3 Oo λa4 H4 n4 e4 s4=>?_;have s14:=(s2.trans s3).trans s4;have T4:=T1.same s14;have ha4:=s14 _ _ ha1;have rl4:=rl1.same s14;refine ⟨_,rfl,_,rfl,_,rfl,?_⟩
 refine jH ha4 λc5 H5 s5 e5=>?_;refine ⟨_,rfl,?_⟩;refine ⟨_,rfl,?_⟩;have T5:=T4.same s5;refine cQ (n:=n+1) T5 Dd Kk λz2 H6 z20 z21 T6 b6=>?_;obtain ⟨v,hat,hmem,_⟩:=jV (xs:=ys2++ys3) z20 (by rw [aI,y2,y3];exact z21);refine xR (b6.at (T5.neL (s5 _ _ e4)) (s5 _ _ e4)) hat ?_;obtain ⟨dd,hdd,rdd⟩:=aL.mem (aL.app26 (l2.same s4) (l3.same s4)) hmem;have hod:GS dd=true/\dd.hasDict=false:=by
  have:=List.all_eq_true.mp OY dd hdd;rw [aQ] at this;exact ⟨this.1,by simpa using this.2⟩
 have r6:=pS b6 T5.nosq hod.2 (rdd.same s5);refine mS (by show 1<=64;decide) λc7 H7 hc7 e7 s7=>?_;have e56:=s7 _ _ (b6.at (T5.neT e5) e5);refine iP e56 e7 (by rw [bA];show min k xs.length+1<=1000;omega) λc8 H8 s8 e8=>?_;have s78:=s7.trans s8;have ha8:=s78 _ _ (b6.at (T5.neT (s5 _ _ ha4)) (s5 _ _ ha4));refine ⟨_,rfl,_,rfl,_,_,rfl,rfl,?_⟩;refine ⟨_,rfl,?_⟩;refine iF (k:=k+1) Oo ha8 λc9 H9 s9 e9=>?_;refine iP (s9 _ _ e8) e9 (by rw [aI,bA,List.length_drop];show min k xs.length+1+(xs.length-(k+1))<=1000;omega) λc10 H10 s10 e10=>?_;have s810:=s9.trans s10;have s710:=s78.trans s810;have T10:=T6.same s710;have b16:aT p H1 H6:=(s14.trans s5).but.trans b6;have rl6:aL H6 (sy.map iJ) xs:=rl1.flat (T1.t b16) (pC sy);have rl10:=rl6.same s710;have r10:=r6.same s710;have rb10:bR H10 (.tuple ((sy.map iJ).take k++[dd]++(sy.map iJ).drop (k+1))) (.ref c10):=bR.tup e10 (aL.app26 (aL.app26 (fF k rl10) (aL.cons r10 aL.nil)) (gP (k+1) rl10));have ha10:=s810 _ _ ha8;refine ⟨_,rfl,_,rfl,_,rfl,_,rfl,_,rfl,?_⟩;refine ⟨_,rfl,?_⟩;refine yE ha10 λc11 H11 s11 e11=>?_;refine ⟨_,rfl,?_⟩;refine xN.use (fH (bW (fH (bW dI (bW dI eO)) (Nat.le_of_ble_eq_true rfl)) eO) (Nat.le_of_ble_eq_true rfl)) λv12 H12 s12 r12=>?_;unfold bR at r12;obtain ⟨a12,xs12,rfl,h12,l12⟩:=r12;have y12:xs12.length=1:=l12.len;refine iP (s12 _ _ (s11 _ _ ha10)) h12 Oo λc13 H13 s13 e13=>?_;have s1013:=(s11.trans s12).trans s13;refine ⟨_,rfl,a,xs,rfl,.inr (eI.of (s1013 _ _ ha10)),λc14 hc14=>?_⟩
 have s14':=aX.upd (o:=.lst xs) hc14;have e14:(upd H13 c14 (.lst xs)) c14=some (.lst xs):=bL;generalize upd H13 c14 (.lst xs)=H14 at s14' e14;refine mS (by show 0<=64;decide) λc15 H15 hc15 e15 s15=>?_;refine rJ (by show 7<=64;decide) λc16 H16 hc16 e16 s16=>?_;refine ⟨_,rfl,?_⟩;have s1016:=((s1013.trans s14').trans s15).trans s16;have T16:=T10.same s1016;have rl16:=rl10.same s1016;have rl11:=rl10.same s11;have rB:=rb10.same s1016;have rT:bR H16 (.tuple ((sy.map iJ).take (xs.length-1))) (.ref c11):=bR.tup (s16 _ _ (s15 _ _ (s14' _ _ (s13 _ _ (s12 _ _ e11))))) (fF _ rl16);have rP:bR H16 (.tuple (sy.map iJ++[.tuple [.int 0,.int 1]])) (.ref c13):=bR.tup (s16 _ _ (s15 _ _ (s14' _ _ e13))) (aL.app26 rl16 (l12.same (((s13.trans s14').trans s15).trans s16)));have rL:bR H16 (.list (sy.map iJ)) (.ref c14):=bR.lst (s16 _ _ (s15 _ _ e14)) rl16;have rE:bR H16 (.tuple []) (.ref c15):=bR.tup (s16 _ _ e15) aL.nil;have rA:=aL.cons rB (aL.cons rB (aL.cons rB (aL.cons rT (aL.cons rP (aL.cons rL (aL.cons rE aL.nil))))));refine cQ (n:=n) (T16.less Oo) Dd Kk λz3 H17 z30 z31 T17 b17=>?_;obtain ⟨vv,hat3,hmem3,_⟩:=jV (xs:=[V.ref c10,V.ref c10,V.ref c10,V.ref c11,V.ref c13,V.ref c14,V.ref c15]) z30 z31;refine xR (b17.at (T16.neL e16) e16) hat3 ?_;obtain ⟨d3,hd3,rd3⟩:=aL.mem rA hmem3;have lm:(sy.map iJ).length=m:=by rw [aA];exact lsy
 have hb3:WS d3=true:=by
  simp only [aR,List.not_mem_nil,or_false] at hd3;have hbent:WS (.tuple ((sy.map iJ).take k++[dd]++(sy.map iJ).drop (k+1)))=true:=by
   refine CG (by rw [aI,aI,bA,List.length_drop,lm];show min k m+1+(m-(k+1))<=6;omega) λe he=>?_;rcases bE.mp he with he | he
   ·rcases bE.mp he with he | he
    ·exact hit e (List.mem_of_mem_take he)
    ·cases aP.mp he;exact hod.1
   ·exact hit e (List.mem_of_mem_drop he)
  rcases hd3 with rfl | rfl | rfl | rfl | rfl | rfl | rfl
  ·exact hbent
  ·exact hbent
  ·exact hbent
  ·exact CG (by rw [bA];omega) λe he=>hit e (List.mem_of_mem_take he)
  ·refine CG (by rw [aI,lm];show m+1<=6;omega) λe he=>?_;rcases bE.mp he with he | he
   ·exact hit e he
   ·cases aP.mp he;decide +kernel
  ·show (decide ((sy.map iJ).length<=6)&&(sy.map iJ).all GS)=true;rw [aM Oo,List.all_eq_true.mpr hit];rfl
  ·decide +kernel
 have b116:aT p H1 H16:=b16.trans ((s710.trans s1016).but);exact q _ d3 H17 T17 ((b1.trans b116).trans b17) (pS b17 T16.nosq (ZS hb3) rd3) hb3
end
abbrev sQ1:Stmt:=(top 43)
theorem cQ1:bZ ["_law_tape_here","_law_counts","_law_at","_law_odd","_law_bent_here"] ["_law_tape_here","_law_counts"] (bD sQ1):=⟨rfl,rfl,rfl,Kk,rfl,Kk,Kk⟩
def ZD:PyData->Bool
 | .none=>true
 | .bool _=>true
 | .int i=>decide (i.natAbs<2^140)
 | .str x=>decide ((reprText x).length<=100)&&PyData.strOk x
 | _=>false
def iB:List Nat->PyData->Bool
 | [],d=>ZD d
 | w::ws,d=>match d with
  | .tuple ds=>decide (ds.length<=w)&&ds.all (iB ws)
  | .list ds=>decide (ds.length<=w)&&ds.all (iB ws)
  | d=>ZD d
def wW:List Nat->Nat
 | []=>1921
 | w::ws=>1921+w*(wW ws+2)+4
theorem XN:∀ws,1921<=wW ws
 | []=>aK _
 | w::ws=>by show 1921<=1921+w*(wW ws+2)+4;omega
structure XL(d:PyData)(k W:Nat):Prop where
 sh:d.showable=true
 nd:d.hasDict=false
 lay:d.canLay0=true
 dp:d.depth<=k
 wd:MH d<=W
structure XA(ds:List PyData)(k W:Nat):Prop where
 sh:PyData.showableAll ds=true
 nd:PyData.hasDictAll ds=false
 lay:PyData.canLayAll0 ds=true
 dp:PyData.depthAll ds<=k
 wd:pR ds<=ds.length*(W+2)
theorem yM{d:PyData}(h:ZD d=true):XL d 2 1921:=by
 cases d with
 | none=>exact ⟨rfl,rfl,rfl,by simp [PyData.depth],by show 4<=1921;decide⟩
 | bool b=>exact ⟨rfl,rfl,rfl,by simp [PyData.depth],by show 5<=1921;decide⟩
 | int i=>exact ⟨NF (of_decide_eq_true h),rfl,rfl,by simp [PyData.depth],aK _⟩
 | str x =>
  have h:(decide ((reprText x).length<=100)&&PyData.strOk x)=true:=h;rw [aQ] at h;exact ⟨rfl,rfl,by simp only [PyData.canLay0];exact h.2,by simp [PyData.depth],bC (of_decide_eq_true h.1) Dd⟩
 | _=>cases h
theorem wT{k W:Nat}:∀{ds:List PyData},(∀d∈ds,XL d k W)->XA ds k W
 | [],_=>⟨rfl,rfl,rfl,cB _,cB _⟩
 | d::ds,h=>by
  have a:=h d (aF ..);have b:=wT λe he=>h e (aD _ he);refine ⟨?_,?_,?_,?_,?_⟩
  ·show (PyData.showable d&&PyData.showableAll ds)=true;rw [a.sh,b.sh];rfl
  ·show (PyData.hasDict d || PyData.hasDictAll ds)=false;rw [a.nd,b.nd];rfl
  ·show (PyData.canLay0 d&&PyData.canLayAll0 ds)=true;rw [a.lay,b.lay];rfl
  ·show max (PyData.depth d) (PyData.depthAll ds)<=k;have:=a.dp;have:=b.dp;omega
  ·show MH d+2+pR ds<=(ds.length+1)*(W+2);have:=a.wd;have:=b.wd;rw [Nat.add_mul];omega
theorem nA:∀{ws:List Nat}{d:PyData},iB ws d=true->XL d (ws.length+2) (wW ws)
 | [],d,h=>yM h
 | w::ws,d,h=>by
  have up:XL d 2 1921->XL d ((w::ws).length+2) (wW (w::ws)):=λa=>⟨a.sh,a.nd,a.lay,bC a.dp Oo,bC a.wd (XN _)⟩;have sq:∀ds:List PyData,(decide (ds.length<=w)&&ds.all (iB ws))=true->XA ds (ws.length+2) (wW ws)/\ds.length*(wW ws+2)<=w*(wW ws+2):=λds h=>by
   rw [aQ,decide_eq_true_eq] at h;exact ⟨wT λe he=>nA (List.all_eq_true.mp h.2 e he),Nat.mul_le_mul_right _ h.1⟩
  cases d with
  | tuple ds =>
   obtain ⟨a,b⟩:=sq ds h;refine ⟨a.sh,a.nd,a.lay,?_,?_⟩
   ·show PyData.depthAll ds+1<=ws.length+1+2;have:=a.dp;omega
   ·show pR ds+4<=1921+w*(wW ws+2)+4;have:=a.wd;omega
  | list ds =>
   obtain ⟨a,b⟩:=sq ds h;refine ⟨a.sh,a.nd,a.lay,?_,?_⟩
   ·show PyData.depthAll ds+1<=ws.length+1+2;have:=a.dp;omega
   ·show pR ds+4<=1921+w*(wW ws+2)+4;have:=a.wd;omega
  | none=>exact up (yM h)
  | bool b=>exact up (yM h)
  | int i=>exact up (yM h)
  | str x=>exact up (yM h)
  | dict kvs=>cases (show false=true from h)
theorem fJ{w:Nat}{ws:List Nat}{ds:List PyData}(hl:ds.length<=w)(h:∀d∈ds,iB ws d=true):iB (w::ws) (.tuple ds)=true:=by
 show (decide (ds.length<=w)&&ds.all (iB ws))=true;rw [aM hl,List.all_eq_true.mpr h];rfl
theorem oT{w:Nat}{ws:List Nat}{ds:List PyData}(hl:ds.length<=w)(h:∀d∈ds,iB ws d=true):iB (w::ws) (.list ds)=true:=by
 show (decide (ds.length<=w)&&ds.all (iB ws))=true;rw [aM hl,List.all_eq_true.mpr h];rfl
theorem wS{ws:List Nat}{d:PyData}(h:ZD d=true):iB ws d=true:=by
 cases ws with
 | nil=>exact h
 | cons w ws =>
  cases d with
  | tuple _=>cases h
  | list _=>cases h
  | _=>exact h
theorem pZ{w:Nat}{ws:List Nat}{ds:List PyData}(h:iB (w::ws) (.tuple ds)=true):ds.length<=w/\∀d∈ds,iB ws d=true:=by
 have h:(decide (ds.length<=w)&&ds.all (iB ws))=true:=h;rw [aQ,decide_eq_true_eq] at h;exact ⟨h.1,List.all_eq_true.mp h.2⟩
theorem BA{d:PyData}(h:RK d=true):ZD d=true:=by
 cases d with
 | none=>rfl
 | bool b=>rfl
 | int i =>
  have h:(decide (-100<=i)&&decide (i<=100))=true:=h;rw [aQ,decide_eq_true_eq,decide_eq_true_eq] at h;exact aM (bI (show i.natAbs<=100 by omega) Dd)
 | str x =>
  have h:x = "1" := of_decide_eq_true h;subst h;decide +kernel
 | _=>cases h
theorem KP{d:PyData}(h:GS d=true):iB [2] d=true:=by
 have sq:∀ds:List PyData,(decide (ds.length<=2)&&ds.all RK)=true->ds.length<=2/\∀e∈ds,iB [] e=true:=λds h=>by
  rw [aQ,decide_eq_true_eq] at h;exact ⟨h.1,λe he=>BA (List.all_eq_true.mp h.2 e he)⟩
 cases d with
 | tuple ds=>exact fJ (sq ds h).1 (sq ds h).2
 | list ds=>exact oT (sq ds h).1 (sq ds h).2
 | none=>rfl
 | bool b=>rfl
 | int i=>exact BA (d:=.int i) h
 | str x=>exact BA (d:=.str x) h
 | dict _=>cases h
theorem WR{d:PyData}(h:WS d=true):iB [6,2] d=true:=by
 have sq:∀ds:List PyData,(decide (ds.length<=6)&&ds.all GS)=true->ds.length<=6/\∀e∈ds,iB [2] e=true:=λds h=>by
  rw [aQ,decide_eq_true_eq] at h;exact ⟨h.1,λe he=>KP (List.all_eq_true.mp h.2 e he)⟩
 cases d with
 | tuple ds=>exact fJ (sq ds h).1 (sq ds h).2
 | list ds=>exact oT (sq ds h).1 (sq ds h).2
 | _=>cases h
theorem LJ{c:List Int}(hl:c.length<=6)(h:∀x∈c,x.natAbs<2^140):iB [6,2] (dX c)=true:=fJ (by rw [aA];exact hl) λd hd=>by
 obtain ⟨x,hx,rfl⟩:=aU.mp hd;exact wS (aM (h x hx))
theorem ST{n:Nat}{sy:List Fr}(hn:n<=5)(h:kB n sy):iB [6,2] (lO sy)=true:=fJ (by rw [aA,h.len];omega) λd hd=>KP (RH hn h d hd)
structure QW(c:List Int)(d:PyData):Prop where
 ok:iB [6,2] d=true
 key:∀F:Nat,fC (F:Int) d=true->3<=F+1->F=c.length->(jK d).sum<=8\/100<=(jK d).sum
@[irreducible] def oQ:Sp:=λvs H Q _=>∃(p:Addr) (n:Nat) (x:V) (cs:List Int),vs=[.ref p,x]/\bP H p (n+3)/\bR H (dX cs) x/\2<=cs.length/\cs.length<=4/\(∀x∈cs,0<=x)/\cs.sum<=4/\∀v d H',bP H' p n->aT p H H'->bR H' d v->QW cs d->Q v H'
theorem FY{H:Hp}{Q:VK}{E:XK}{p:Addr}{n:Nat}{x:V}{cs:List Int}(T:bP H p (n+3))(r:bR H (dX cs) x)(h1:2<=cs.length)(h2:cs.length<=4)(h3:∀x∈cs,0<=x)(h4:cs.sum<=4)(q:∀v d H',bP H' p n->aT p H H'->bR H' d v->QW cs d->Q v H'):oQ [.ref p,x] H Q E:=by unfold oQ;exact ⟨p,n,x,cs,rfl,T,r,h1,h2,h3,h4,q⟩
def OZ(z:Int):List PyData:=[.int (-1),.bool true,.bool false,.none,.str (Str.ofString "0"),.int (10^(40:Int).toNat),.int (z+1),.tuple [.int 0]]
theorem mY(cs:List Int)(k:Nat)(z y:Int)(h:cs[k]?=some z):(cs.take k++[y]++cs.drop (k+1)).sum=cs.sum-z+y:=by
 have e:cs=cs.take k++[z]++cs.drop (k+1):=by
  conv=>lhs;rw [<-List.take_append_drop k cs]
  rw [List.append_assoc];congr 1;rw [List.drop_eq_getElem_cons (bN.mp h).1,(bN.mp h).2];rfl
 conv=>rhs;rw [e]
 rw [List.sum_append,List.sum_append,List.sum_append,List.sum_append];simp;omega
theorem pG{cs:List Int}(h:∀x∈cs,0<=x)(hs:cs.sum<=4):∀x∈cs,x.natAbs<2^140:=λx hx=>by
 have h1:=iZ h x hx;have h2:=h x hx;exact bI (show x.natAbs<=4 by omega) Dd
theorem DR{z:Int}(h0:0<=z)(h4:z<=4):∀d∈OZ z,iB [2] d=true/\d.hasDict=false/\(fQ d=true->d=.int (10^40)\/d=.int (z+1)):=λd hd=>by
 unfold OZ at hd;simp only [aR,List.not_mem_nil,or_false] at hd;rcases hd with rfl | rfl | rfl | rfl | rfl | rfl | rfl | rfl
 ·exact ⟨Kk,rfl,λh=>by cases h⟩
 ·exact ⟨Kk,rfl,λh=>by cases h⟩
 ·exact ⟨Kk,rfl,λh=>by cases h⟩
 ·exact ⟨Kk,rfl,λh=>by cases h⟩
 ·exact ⟨Kk,rfl,λh=>by cases h⟩
 ·exact ⟨Kk,rfl,λ_=>.inl rfl⟩
 ·exact ⟨aM (bI (show (z+1).natAbs<=5 by omega) Dd),rfl,λ_=>.inr rfl⟩
 ·exact ⟨Kk,rfl,λh=>by cases h⟩
theorem QN{cs:List Int}{k:Nat}{z:Int}{dd:PyData}(hl:cs.length<=4)(nn:∀x∈cs,0<=x)(hs:cs.sum<=4)(hk:cs[k]?=some z)(hd:dd∈OZ z):QW cs (.tuple ((cs.map PyData.int).take k++[dd]++(cs.map PyData.int).drop (k+1))):=by
 have hz0:=nn z (bK hk);have hz4:=iZ nn z (bK hk);obtain ⟨o1,o2,o3⟩:=DR hz0 Oo dd hd;have hkl:=(bN.mp hk).1;have sm:=pG nn hs;have oki:∀d∈cs.map PyData.int,iB [2] d=true:=λd hd=>by
  obtain ⟨x,hx,rfl⟩:=aU.mp hd;exact wS (aM (sm x hx))
 refine ⟨fJ ?_ λd hd=>?_,λF hc _ _=>?_⟩
 ·rw [aI,aI,bA,List.length_drop,aA];show min k cs.length+1+(cs.length-(k+1))<=6;omega
 ·rcases bE.mp hd with hd | hd
  ·rcases bE.mp hd with hd | hd
   ·exact oki d (List.mem_of_mem_take hd)
   ·cases aP.mp hd;exact o1
  ·exact oki d (List.mem_of_mem_drop hd)
 ·have hc:(decide (_=(F:Int))&&List.all _ fQ)=true:=hc;rw [aQ,List.all_eq_true] at hc;have hi:=hc.2 dd (bO _ (aG _ (aP.mpr rfl)));have key:∀y:Int,dd=.int y->(jK (.tuple ((cs.map PyData.int).take k++[dd]++(cs.map PyData.int).drop (k+1)))).sum=cs.sum-z+y:=λy e=>by
   subst e;rw [<-mY cs k z y hk];congr 1;show List.map _ _=_;rw [<-List.map_take,<-List.map_drop,show [PyData.int y]=[y].map PyData.int from rfl,<-bM,<-bM,List.map_map];exact List.map_id _
  have h0:=jY nn;rcases o3 hi with e | e
  ·refine .inr ?_;rw [key _ e];have:(100:Int)+10<=10^40:=Kk;omega
  ·refine .inl ?_;rw [key _ e];omega
section
theorem oQ1(F:iK K "_law_bent_counts" "_law_bent_counts" sQ1 f fd)(T:kR K mg c)(FQ9:hU dM P w K mg base 1 "_law_pick" ["_law_tape_here","_law_many"] gT):dP P w K mg base dM 2 f fd ["_law_tape_here","_law_counts"] oQ:=by
 refine F.oky cQ1 λvs H Q E h=>?_;unfold oQ at h;obtain ⟨p,n,x,cs,rfl,TP,r,l2,l4,nn,sm,q⟩:=h;refine ⟨rfl,λcdv A outer s hr=>?_⟩;obtain ⟨a,rfl,ha⟩:=iO r;have lx:(cs.map V.int).length=cs.length:=aA _;have nap:=TP.neT ha;refine ⟨_,(aW (cC (i:=2) cQ1.nd rfl (Or.inl rfl) (cF FQ9 (hr.mono Dd) (aH (aJ 0) (aH (cS fS (by rfl) T.b_len Kk (aH (aJ 1) aC)) aC))))
  (aW (cC (i:=3) cQ1.nd rfl (Or.inl rfl) (dS (aH (xS sJ aE) (aH fW (aH fW (aH vW (aH iM (aH (bS JZ aE aE) (aH (bS dU (cK cG (aJ 1) (aJ 2) (λ_ _=>rfl)) aE) (aH (cH (aH aE aC)) aC))))))))))
  (aW (cC (i:=4) cQ1.nd rfl (Or.inl rfl) (bS (dA K) (bS (dA K) (cM (cY K) (aJ 1) cX (cT (aJ 2))) (cH (aH (cK cG (aJ 3) (cF FQ9 (hr.mono Dd) (aH (aJ 0) (aH aE aC))) (λ_ _=>rfl)) aC))) (cM (cY K) (aJ 1) (cT (bS dU (aJ 2) aE)) cX)))
  (bG (bV (cK cG (dS (aH (aJ 4) (aH (aJ 4) (aH (aJ 4) (aH (cM (cY K) (aJ 1) cX (cT (xS sJ aE))) (aH (bS (dA K) (aJ 1) (cH (aH aE aC))) (aH (kC lJ (by rfl) T.b_list Kk (aH (aJ 1) aC)) aC))))))) (cF FQ9 (hr.mono Dd) (aH (aJ 0) (aH aE aC))) (λ_ _=>rfl))))))),?_⟩
 refine ⟨_,rfl,_,rfl,?_⟩;refine NP ha ?_;refine cQ (n:=n+2) TP Oo (bitsle (bI (show (((cs.map V.int).length:Nat):Int).natAbs<=9 by omega) Dd)) λz H1 z0 z1 T1 b1=>?_;obtain ⟨k,rfl⟩:∃k:Nat,z=(k:Int):=⟨z.toNat,Oo⟩;have ha1:=b1.at nap ha;have hkl:k<cs.length:=Oo;obtain ⟨zk,hzk⟩:∃zk,cs[k]?=some zk:=⟨_,aN hkl⟩;refine ⟨_,rfl,?_⟩;refine ⟨10,40,rfl,rfl,⟨Dd,Dd,Dd⟩,?_⟩;refine ⟨_,rfl,_,rfl,?_⟩;refine xQ ha1 (v:=.int zk) (fK (by rw [aS,hzk];rfl)) ?_;refine ⟨_,_,rfl,rfl,?_⟩;refine mS (by show 1<=64;decide) λc2 H2 hc2 e2 s2=>?_;refine rJ (by show 8<=64;decide) λc4 H4 hc4 e4 s24=>?_;have s14:=s2.trans s24;have T4:=T1.same s14;have ha4:=s14 _ _ ha1;have l4':aL H4 (OZ zk) [V.int (-1),V.bl true,V.bl false,V.non,V.str (Str.ofString "0"),V.int (10^(40:Int).toNat),V.int (zk+1),V.ref c2]:=aL.cons (bR.int _) (aL.cons (bR.bl _) (aL.cons (bR.bl _) (aL.cons bR.non (aL.cons (bR.str _) (aL.cons (bR.int _) (aL.cons (bR.int _) (aL.cons (bR.tup (s24 _ _ e2) (aL.cons (bR.int 0) aL.nil)) aL.nil)))))));refine ⟨_,rfl,_,rfl,_,rfl,?_⟩;refine jH ha4 λc5 H5 s5 e5=>?_;refine ⟨_,rfl,?_⟩;refine ⟨_,rfl,?_⟩;have T5:=T4.same s5;refine cQ (n:=n+1) T5 Dd Kk λz2 H6 z20 z21 T6 b6=>?_;obtain ⟨v,hat,hmem,_⟩:=jV (xs:=[V.int (-1),V.bl true,V.bl false,V.non,V.str (Str.ofString "0"),V.int (10^(40:Int).toNat),V.int (zk+1),V.ref c2]) z20 z21;refine xR (b6.at (T5.neL (s5 _ _ e4)) (s5 _ _ e4)) hat ?_;obtain ⟨dd,hdd,rdd⟩:=aL.mem l4' hmem;have hz0:=nn zk (bK hzk);have hz4:=iZ nn zk (bK hzk);have hod:=DR hz0 Oo dd hdd
 have hbent:=QN l4 nn sm hzk hdd;have r6:=pS b6 T5.nosq hod.2.1 (rdd.same s5);refine mS (by show 1<=64;decide) λc7 H7 hc7 e7 s7=>?_;have e56:=s7 _ _ (b6.at (T5.neT e5) e5);refine iP e56 e7 (by rw [bA];show min k (cs.map V.int).length+1<=1000;omega) λc8 H8 s8 e8=>?_;have s78:=s7.trans s8;have ha8:=s78 _ _ (b6.at (T5.neT (s5 _ _ ha4)) (s5 _ _ ha4));refine ⟨_,rfl,_,rfl,_,_,rfl,rfl,?_⟩;refine ⟨_,rfl,?_⟩;refine iF (k:=k+1) Oo ha8 λc9 H9 s9 e9=>?_;refine iP (s9 _ _ e8) e9 (by rw [aI,bA,List.length_drop];show min k (cs.map V.int).length+1+((cs.map V.int).length-(k+1))<=1000;omega) λc10 H10 s10 e10=>?_;have s810:=s9.trans s10;have s710:=s78.trans s810;have T10:=T6.same s710;have rl10:aL H10 (cs.map PyData.int) (cs.map V.int):=aL.ints cs;have rb10:bR H10 (.tuple ((cs.map PyData.int).take k++[dd]++(cs.map PyData.int).drop (k+1))) (.ref c10):=bR.tup e10 (aL.app26 (aL.app26 (fF k rl10) (aL.cons (r6.same s710) aL.nil)) (gP (k+1) rl10));have ha10:=s810 _ _ ha8;refine ⟨_,rfl,_,rfl,_,rfl,_,rfl,_,rfl,?_⟩;refine ⟨_,rfl,?_⟩;refine yE ha10 λc11 H11 s11 e11=>?_;refine ⟨_,rfl,?_⟩;refine mS (by show 1<=64;decide) λc12 H12 hc12 e12 s12=>?_;refine iP (s12 _ _ (s11 _ _ ha10)) e12 (by rw [lx];show cs.length+1<=1000;omega) λc13 H13 s13 e13=>?_;have s1013:=(s11.trans s12).trans s13;refine ⟨_,rfl,a,_,rfl,.inr (eI.of (s1013 _ _ ha10)),λc14 hc14=>?_⟩;have s14':=aX.upd (o:=.lst (cs.map V.int)) hc14;have e14:(upd H13 c14 (.lst (cs.map V.int))) c14=some (.lst (cs.map V.int)):=bL
 generalize upd H13 c14 (.lst (cs.map V.int))=H14 at s14' e14;refine rJ (by show 6<=64;decide) λc16 H16 hc16 e16 s16=>?_;refine ⟨_,rfl,?_⟩;have s1016:=(s1013.trans s14').trans s16;have T16:=T10.same s1016;have rl16:aL H16 (cs.map PyData.int) (cs.map V.int):=aL.ints cs;have rB:=rb10.same s1016;have rT:bR H16 (.tuple ((cs.map PyData.int).take ((cs.map V.int).length-1))) (.ref c11):=bR.tup (s16 _ _ (s14' _ _ (s13 _ _ (s12 _ _ e11)))) (fF _ rl16);have rP:bR H16 (.tuple (cs.map PyData.int++[.int 0])) (.ref c13):=bR.tup (s16 _ _ (s14' _ _ e13)) (aL.app26 rl16 (aL.cons (bR.int 0) aL.nil));have rL:bR H16 (.list (cs.map PyData.int)) (.ref c14):=bR.lst (s16 _ _ e14) rl16;have rA:=aL.cons rB (aL.cons rB (aL.cons rB (aL.cons rT (aL.cons rP (aL.cons rL aL.nil)))));refine cQ (n:=n) (T16.less Oo) Dd Kk λz3 H17 z30 z31 T17 b17=>?_;obtain ⟨vv,hat3,hmem3,_⟩:=jV (xs:=[V.ref c10,V.ref c10,V.ref c10,V.ref c11,V.ref c13,V.ref c14]) z30 z31;refine xR (b17.at (T16.neL e16) e16) hat3 ?_;obtain ⟨d3,hd3,rd3⟩:=aL.mem rA hmem3;have hb3:QW cs d3:=by
  have sma:=pG nn sm;have oki:∀d∈cs.map PyData.int,iB [2] d=true:=λd hd=>by
   obtain ⟨x,hx,rfl⟩:=aU.mp hd;exact wS (aM (sma x hx))
  simp only [aR,List.not_mem_nil,or_false] at hd3;rcases hd3 with rfl | rfl | rfl | rfl | rfl | rfl
  ·exact hbent
  ·exact hbent
  ·exact hbent
  ·refine ⟨fJ (by rw [bA,aA];omega) λe he=>oki e (List.mem_of_mem_take he),λF hc _ e=>?_⟩;have hc:(decide (_=(F:Int))&&List.all _ fQ)=true:=hc;rw [aQ,decide_eq_true_eq,bA,aA,aA] at hc;omega
  ·refine ⟨fJ (by rw [aI,aA];show cs.length+1<=6;omega) λe he=>?_,λF hc _ e=>?_⟩
   ·rcases bE.mp he with he | he
    ·exact oki e he
    ·cases aP.mp he;decide +kernel
   ·have hc:(decide (_=(F:Int))&&List.all _ fQ)=true:=hc;rw [aQ,decide_eq_true_eq,aI,aA,List.length_singleton] at hc;omega
  ·refine ⟨oT (by rw [aA];omega) oki,λF hc _ e=>?_⟩;cases hc
 have b16:aT p H1 H6:=(s14.trans s5).but.trans b6;have b116:aT p H1 H16:=b16.trans ((s710.trans s1016).but);exact q _ d3 H17 T17 ((b1.trans b116).trans b17) (pS b17 T16.nosq (nA hb3.ok).nd rd3) hb3
end
theorem AZ{d:PyData}{k W:Nat}(h:XL d k W)(hk:k<=60)(hw:W<=sizeLine):uA d:=⟨h.sh,h.nd,bC h.dp hk,bC (oS _ h.sh h.nd) (bC h.wd hw)⟩
abbrev XB(ds:List PyData):Prop:=∀d∈ds,iB [3,6,2] d=true
theorem KG{ds:List PyData}(hl:ds.length<=52)(h:XB ds):XA ds 5 (wW [3,6,2])/\pR ds<=6000000:=by
 have a:=wT λd hd=>nA (h d hd);refine ⟨a,?_⟩;have h1:=a.wd;have h2:ds.length*(wW [3,6,2]+2)<=52*(wW [3,6,2]+2):=Nat.mul_le_mul_right _ hl;have h3:52*(wW [3,6,2]+2)<=6000000:=Dd;omega
theorem rZ{ds:List PyData}(hl:ds.length<=52)(h:XB ds):uA (.tuple ds):=by
 obtain ⟨a,b⟩:=KG hl h;refine AZ (k:=6) (W:=6000004) ⟨a.sh,a.nd,a.lay,?_,?_⟩ Dd Dd
 ·show PyData.depthAll ds+1<=6;have:=a.dp;omega
 ·show pR ds+4<=_;omega
theorem ND{ds:List PyData}(hl:ds.length<=52)(h:XB ds):uA (.list ds):=by
 obtain ⟨a,b⟩:=KG hl h;refine AZ (k:=6) (W:=6000004) ⟨a.sh,a.nd,a.lay,?_,?_⟩ Dd Dd
 ·show PyData.depthAll ds+1<=6;have:=a.dp;omega
 ·show pR ds+4<=_;omega
theorem wR{d:PyData}(h:iB [3,6,2] d=true):uA d:=AZ (nA h) Dd Dd
theorem KD{d:PyData}(h:iB [6,2] d=true):HL d:=by
 have a:=nA h;refine ⟨a.nd,a.lay,by have:=a.dp;show d.depth<=5;exact bC this Dd,λe he n k z=>?_⟩;cases d with
 | tuple ds =>
  subst z;obtain ⟨_,h2⟩:=pZ h;obtain ⟨_,h3⟩:=pZ (h2 _ he);have h4:k.natAbs<2^140:=of_decide_eq_true (h3 (.int k) (by simp));have h5:k<=(k.natAbs:Int):=Oo;have h6:((k.natAbs:Nat):Int)<=((2^140:Nat):Int):=by exact_mod_cast Nat.le_of_lt h4
  exact Int.le_trans h5 (Int.le_trans h6 Kk)
 | _=>cases he
theorem VC{d:PyData}(h:iB [6,2] d=true):QT d:=⟨(nA h).lay,bC (nA h).dp Dd⟩
theorem DP{a b:PyData}(h:iB [3,6,2] (.tuple [a,b])=true):iB [6,2] a=true/\iB [6,2] b=true:=⟨(pZ h).2 a (by simp),(pZ h).2 b (by simp)⟩
theorem ZF{F W:Nat}{ds:List PyData}(hF:2<=F/\F<=4)(hW:W<=4)(hl:ds.length<=52)(h:∀a b,PyData.tuple [a,b]∈ds->iB [6,2] a=true/\iB [6,2] b=true)(lev:ds.all (dR F W)=true->(HP F (jP (ds.map dN))/\(jP (ds.map dN)).length<=60)/\∃U:List (List Int),U.length<=60/\∀c,BY F (ds.map dN) c->c∈U):kP F W (.tuple ds):=by
 refine ⟨⟨Oo,hW,λes e=>?_,λes e d hd a b z=>?_,λes e hall=>?_⟩,hF.1,λes e a b hm=>?_,λes e hall=>?_⟩
 ·injection e with e;rw [<-e];omega
 ·injection e with e;subst e z;exact (KD (h _ _ hd).2).smd
 ·injection e with e;subst e;exact (lev hall).1
 ·injection e with e;subst e;exact ⟨VC (h _ _ hm).1,KD (h _ _ hm).2⟩
 ·injection e with e;subst e;exact (lev hall).2
theorem KK{F W:Nat}{ds:List PyData}(hF:2<=F/\F<=4)(hW:W<=4)(hl:ds.length<=52)(h:∀a b,PyData.tuple [a,b]∈ds->iB [6,2] a=true/\iB [6,2] b=true)(hn:ds.all (dR F W)=false):kP F W (.tuple ds):=ZF hF hW hl h λz=>by rw [hn] at z;cases z
theorem BP{F W:Nat}{d:PyData}(hF:2<=F/\F<=4)(hW:W<=4)(h:∀ds,d ≠ .tuple ds):kP F W d:=⟨⟨Oo,hW,λes e=>absurd e (h es),λes e=>absurd e (h es),λes e=>absurd e (h es)⟩,hF.1,λes e=>absurd e (h es),λes e=>absurd e (h es)⟩
theorem uY{l:List dB}{e:dB}(h:(l.map (·.1)).Nodup):((jX l e).map (·.1)).Nodup:=by
 unfold jX;split
 ·rw [List.map_map];rw [show (λe:dB=>e.1) ∘ (λx:dB=>if x.1=e.1 then (x.1,e.2) else x)=λe:dB=>e.1 from funext λx=>by show (if x.1=e.1 then (x.1,e.2) else x).1=x.1;split <;> rfl];exact h
 ·rename_i hn
  rw [bM];refine List.nodup_append.mpr ⟨h,by simp,λx hx y hy z=>?_⟩;cases aP.mp hy;obtain ⟨e',he',e1⟩:=aU.mp hx;exact hn (List.any_eq_true.mpr ⟨e',he',aM (e1.trans z)⟩)
theorem wJ(es:List dB):((jP es).map (·.1)).Nodup:=by
 have:∀(es l:List dB),(l.map (·.1)).Nodup->((es.foldl jX l).map (·.1)).Nodup:=λes=>by
  induction es with
  | nil=>intro l h;exact h
  | cons e es ih=>intro l h;exact ih _ (uY h)
 exact this es [] List.nodup_nil
def MC(es l:List dB):Prop:=∃x:List Int,(x.sum<=8\/100<=x.sum)/\∀e∈l,e.1∈es.map (·.1)\/e.1=x
theorem QE{F W M:Nat}(Z:jO F W M):((List.range (M+2)).flatMap λm=>vM F m).length<=35:=by
 have h2:∀m≤4,((List.range (m+2)).flatMap λm=>vM 2 m).length<=35:=Dd;have h3:∀m≤3,((List.range (m+2)).flatMap λm=>vM 3 m).length<=35:=Dd;have h4:∀m≤2,((List.range (m+2)).flatMap λm=>vM 4 m).length<=35:=Dd;rcases Z.f with ⟨rfl,h⟩ | ⟨rfl,h⟩ | ⟨rfl,h⟩
 ·exact h2 M h
 ·exact h3 M h
 ·exact h4 M h
theorem VO{F W W' M:Nat}{es l:List dB}(R:iU F W M es)(Z:jO F W M)(hl:∀e∈l,ME F W' e)(hk:MC es l):(HP F (jP l)/\(jP l).length<=60)/\∃U:List (List Int),U.length<=60/\∀c,BY F l c->c∈U:=by
 obtain ⟨x,hx,hk⟩:=hk;have hF:1<=F/\F<=4/\M<=4:=by have:=Z.f;omega
 refine ⟨⟨⟨⟨hF.1,hF.2.1⟩,wJ l,λe he=>(hl e (sQ he)).len,λe he=>?_,λm=>?_⟩,?_⟩,(List.range (M+2)).flatMap (λm=>vM F m)++(List.range F).map (bump x),?_,λc hc=>?_⟩
 ·rcases hk e (sQ he) with h | h
  ·obtain ⟨e',he',e1⟩:=aU.mp h;have:=(R.each e' he').2.2.1;rw [<-e1];omega
  ·rw [h];exact hx
 ·have h1:(((jP l).filter λe=>decide (e.1.sum=(m:Int))).map (·.1)).Nodup:=(wJ l).sublist ((List.filter_sublist ..).map _);have h2:=eJ h1 (m:=((es.map (·.1)).filter λc=>decide (c.sum=(m:Int)))++[x]) λc hc=>by
   obtain ⟨e,he,rfl⟩:=aU.mp hc;obtain ⟨e1,e2⟩:=dC.mp he;rcases hk e (sQ e1) with h | h
   ·exact bO _ (dC.mpr ⟨h,e2⟩)
   ·exact aG _ (aP.mpr h)
  have h3:=R.lev Z m;rw [aA,aI,List.length_singleton] at h2;omega
 ·have h2:=eJ (wJ l) (m:=es.map (·.1)++[x]) λc hc=>by
   obtain ⟨e,he,rfl⟩:=aU.mp hc;rcases hk e (sQ he) with h | h
   ·exact bO _ h
   ·exact aG _ (aP.mpr h)
  have h3:=R.few Z;rw [aA,aI,aA,List.length_singleton] at h2;omega
 ·have:=QE Z;rw [aI,aA,cE];omega
 ·rcases hc with rfl | ⟨e,he,hc⟩
  ·exact bO _ (List.mem_flatMap.mpr ⟨0,cU.mpr Oo,eS.mpr ⟨bX ..,λy hy=>by rw [List.eq_of_mem_replicate hy];exact Int.le_refl _,uN F⟩⟩)
  ·rcases hk e he with h | h
   ·obtain ⟨e',he',e1⟩:=aU.mp h;obtain ⟨r1,r2,r3,_⟩:=R.each e' he';rw [<-e1] at hc;obtain ⟨n1,n2,n3⟩:=iY hc r2;have:=jY r2;exact bO _ (List.mem_flatMap.mpr ⟨(e'.1.sum+1).toNat,cU.mpr Oo,eS.mpr ⟨Oo,n2,Oo⟩⟩)
   ·have hlen:=(hl e he).len;unfold nexts at hc;split at hc
    ·cases hc
    ·rw [hlen,h] at hc;exact aG _ hc
theorem BQ{F W W' M:Nat}{es:List dB}{ds:List PyData}(R:iU F W M es)(Z:jO F W M)(hW:W'<=4)(hl:ds.length<=52)(h:XB ds)(hk:ds.all (dR F W')=true->MC es (ds.map dN)):kP F W' (.tuple ds):=ZF (by have:=Z.f;omega) hW hl (λa b hm=>DP (h _ hm)) λhall=>VO (W':=W') R Z (λe he=>by
 obtain ⟨d,hd,rfl⟩:=aU.mp he;exact (tR (List.all_eq_true.mp hall d hd)).2) (hk hall)
theorem tU{F W M:Nat}{es:List dB}(R:iU F W M es)(Z:jO F W M){e:dB}(he:e∈es):iB [3,6,2] (jZ e)=true/\iB [6,2] (dX e.1)=true/\iB [6,2] (lO e.2)=true:=by
 obtain ⟨r1,r2,r3,r4⟩:=R.each e he;have hF:2<=F/\F<=4/\M<=4:=by have:=Z.f;omega
 have hW:=Z.w;have a:=LJ (c:=e.1) Oo (pG r2 Oo);have b:=ST Oo r4;exact ⟨fJ (by show 2<=3;decide) λd hd=>by
  simp only [aR,List.not_mem_nil,or_false] at hd;rcases hd with rfl | rfl
  ·exact a
  ·exact b,a,b⟩
theorem qE(c:List Int):jK (dX c)=c:=by
 show (c.map PyData.int).map _=c;rw [List.map_map];exact List.map_id _
theorem tS(e:dB):dN (jZ e)=e:=by
 show (jK (dX e.1),(e.2.map iJ).map iI)=e;rw [qE,List.map_map,show iI ∘ iJ=id from funext λf=>rfl,List.map_id]
theorem kK{F W M:Nat}{es:List dB}(R:iU F W M es)(Z:jO F W M):XB (es.map jZ):=λd hd=>by
 obtain ⟨e,he,rfl⟩:=aU.mp hd;exact (tU R Z he).1
theorem qG(es:List dB):(es.map jZ).map dN=es:=by
 rw [List.map_map,show dN ∘ jZ=id from funext λe=>tS e,List.map_id]
theorem IS{n:Nat}{W:Nat}{sy:List Fr}(h:kB n sy)(hn:n=1+W):dJ (1+(W:Int)) (lO sy)=true:=by
 obtain ⟨ns,h1,h2,h3,rfl⟩:=h.ex;show ((decide ((((ns.map λx=>lw x ns.sum).map iJ).length:Int)=1+(W:Int))&&((ns.map λx=>lw x ns.sum).map iJ).all cI)&&decide (fY (((ns.map λx=>lw x ns.sum).map iJ).map iI)=(1,1)))=true;rw [show ((ns.map λx=>lw x ns.sum).map iJ).map iI=ns.map λx=>lw x ns.sum by rw [List.map_map,show iI ∘ iJ=id from funext λf=>rfl,List.map_id],FM h3,VL h3];rw [aM (show ((((ns.map λx=>lw x ns.sum).map iJ).length:Int))=1+(W:Int) by rw [aA,aA];omega),aM (show ((1:Int),(1:Int))=(1,1) from rfl),Bool.true_and,Bool.and_true,List.all_eq_true];intro d hd;obtain ⟨f,hf,rfl⟩:=aU.mp hd;obtain ⟨x,hx,rfl⟩:=aU.mp hf;have low:=lC (n:=x) h3;have hx2:=h2 x hx;have hxs:x<=ns.sum:=iZ (λy hy=>(h2 y hy).1) x hx;have hg:(0:Int)<(Int.gcd x ns.sum:Int):=by
  have:=Int.gcd_pos_of_ne_zero_right x (show ns.sum≠0 by omega);omega
 have a2:0<=(lw x ns.sum).1:=by unfold lw;exact Int.ediv_nonneg Oo Oo
 have a3:(lw x ns.sum).1<=(lw x ns.sum).2:=by unfold lw;exact Int.ediv_le_ediv hg hxs
 show ((decide (1<=(lw x ns.sum).2)&&decide (Int.gcd (lw x ns.sum).1 (lw x ns.sum).2=1))&&(decide (0<=(lw x ns.sum).1)&&decide ((lw x ns.sum).1<=(lw x ns.sum).2)))=true;have lp:=low.pos;rw [aM (show 1<=(lw x ns.sum).2 by omega),aM low.low,aM a2,aM a3];rfl
theorem EH{F W M:Nat}{es:List dB}(R:iU F W M es):(es.map jZ).all (dR F W)=true:=List.all_eq_true.mpr λd hd=>by
 obtain ⟨e,he,rfl⟩:=aU.mp hd;obtain ⟨r1,r2,r3,r4⟩:=R.each e he;show (fC (F:Int) (dX e.1)&&dJ (1+(W:Int)) (lO e.2))=true;rw [qD.mpr ⟨r1,r2⟩,IS r4 rfl];rfl
theorem BV(es:List dB):MC es es:=⟨[],.inl Dd,λe he=>.inl (List.mem_map_of_mem he)⟩
theorem BB{F W M:Nat}{es:List dB}(R:iU F W M es)(Z:jO F W M){W':Nat}(hW:W'<=4):kP F W' (CZ es)/\uA (CZ es):=by
 have few:=R.few Z;exact ⟨BQ R Z hW (by rw [aA];omega) (kK R Z) λ_=>by rw [qG];exact BV es,rZ (by rw [aA];omega) (kK R Z)⟩
theorem NN{F F' W M:Nat}{es:List dB}(R:iU F W M es)(Z:jO F W M)(hF:2<=F'/\F'<=4)(hn:F' ≠ F):kP F' W (CZ es)/\uA (CZ es):=by
 have few:=R.few Z;refine ⟨KK hF (by have:=Z.w;omega) (by rw [aA];omega) (λa b hm=>DP (kK R Z _ hm)) ?_,rZ (by rw [aA];omega) (kK R Z)⟩;rw [Bool.eq_false_iff];intro h;obtain ⟨e,he⟩:∃e,e∈es:=List.exists_mem_of_ne_nil _ R.ne;have h1:(fC (F':Int) (dX e.1)&&dJ (1+(W:Int)) (lO e.2))=true:=List.all_eq_true.mp h (jZ e) (List.mem_map_of_mem he);rw [aQ] at h1;have:=(qD.mp h1.1).1;have:=(R.each e he).1;omega
theorem NO{F W M:Nat}{es:List dB}(R:iU F W M es)(Z:jO F W M):tJ F W (CZ es)=true:=by
 have L:=(BB R Z (W':=W) (by have:=Z.w;omega)).1;obtain ⟨smt,_⟩:=L.th.lev _ rfl (EH R);rw [qG] at smt;show ((es.map jZ).all (dR F W)&&decide (((es.map jZ).map dN).map (·.1)=qK F (jP ((es.map jZ).map dN))))=true;rw [EH R,qG,Bool.true_and];refine aM ((yF (rs:=jP es) (λe he=>⟨(R.each e he).1,(R.each e he).2.1⟩) JD smt.fin).mpr ⟨R.rise,λc=>⟨λh=>?_,λh=>?_⟩⟩)
 ·exact R.clo.bwd c (.inl h)
 ·rcases h with rfl | ⟨e,he,hc⟩
  ·rcases R.clo.zero with z | z
   ·exact z
   ·cases z
  ·rcases R.clo.fwd e he c hc with z | z
   ·exact z
   ·cases z
end Kw
namespace L2
open PySem PySem.Spec PySem.W PyProof.Rows
structure FE(tabs:List (Addr × Addr))(H:Hp):Prop where
 all:∀b,H b=none\/(∃o xs,H b=some (.frz o (.lst xs)))\/(H b=some (.tbl #[])/\b∈tabs.map (·.2))
 tab:∀q∈tabs,H q.2=some (.tbl #[])
theorem GN{P:Program}{w:World}{K:PySem.W.Frag}{mg mb:Str->Option Value}{CX:IB}{k:Nat}{fa a:Addr}{fd:FuncData}{x:Str}{sp:Sp}{s₁:Shared}{vs:List Value}{ns:List Int}{tabs:List (Addr × Addr)}
  (KX:K.In s₁.heap) (hns:s₁.heap.Ns mainGlobals mg) (hb:s₁.heap.Ns builtinsNs mb) (hbb:∀x:Str,x ≠ "__name__" -> mb x=bootBuiltins x) (hlim:s₁.heap.NoLimit) (hg:s₁.gens=#[])
  (ha:s₁.heap.get? a=some { cls:=.type "list",data:=.seq vs.toArray }) (hi:IntsAre vs ns) (hl:ns.length<=sizeLine) (hr:gA k callerA) (hT:∀q∈tabs,CodeHd s₁.heap q.1 q.2/\s₁.heap.get? q.2=some (tabObj #[])) (hTK:∀q∈tabs,K.lookup q.2=none) (hbm:BM mg s₁.heap)
  (F:∀base:Heap,K.In base->base.Ns mainGlobals mg->BM mg base->dP P w K mg base CX k fa fd [x] sp) (hbind:∀(s:Shared) (u:Value),BindsTo s fd ⟨[u],[]⟩ [(x,u)])
  (hsp:∀H:Hp,FE tabs H->gG K H a (ns.map V.int)->sp [.ref a] H (λv _=>v=.bl true) λ_ _ _=>False)
  (hCX:∀H e s',CX [] H s₁ (λ_ _ _=>False) e s'->False) :
  codeAny (model P w) callerA (.call (.ref fa) ⟨[.ref a],[]⟩) (λr s'=>r=.ok (.ret (.bool true))/\OldK s₁.heap s'.heap/\s'.os=s₁.os/\AllBare s'.gens) s₁:=by
 have rv:=uO hi;have lenV:=hi.length;have tabAt:∀b∈tabs.map (·.2),s₁.heap.get? b=some (tabObj #[])/\K.lookup b=none/\isCodeTable s₁.heap b:=λb hb=>by
  obtain ⟨q,hq,rfl⟩:=aU.mp hb;exact ⟨(hT q hq).2,hTK q hq,((hT q hq).1.tab (hT q hq).2).isCodeTable⟩
 have naT:a ∉ tabs.map (·.2):=λz=>by
  have:=(tabAt a z).1;rw [ha] at this;cases this
 have core:∀H:Hp,FE tabs H->gG K H a (ns.map V.int)->mW P w H s₁.heap->(∀b,H b≠none->b=a\/b∈tabs.map (·.2))->(H a≠none->K.lookup a=none) ->
   codeAny (model P w) callerA (.call (.ref fa) ⟨[.ref a],[]⟩) (λr s'=>r=.ok (.ret (.bool true))/\OldK s₁.heap s'.heap/\s'.os=s₁.os/\AllBare s'.gens) s₁:=by
  intro H hO hS hok hA hK;have base_of:∀{b:Addr} {o:Obj},s₁.heap.get? b=some o->H b=none->(tL s₁.heap H).get? b=some o:=λe n=>tK e n;have untr:∀{b:Addr} {o:Obj},s₁.heap.get? b=some o->o ≠ { cls:=.type "list",data:=.seq vs.toArray }->o≠tabObj #[]->H b=none:=λ{b o} e n1 n2=>by
   cases q:H b with
   | none=>rfl
   | some u =>
    exfalso;rcases hA b (by rw [q];simp) with rfl | z
    ·rw [ha] at e;cases e;exact n1 rfl
    ·rw [(tabAt b z).1] at e;cases e;exact n2 rfl
  have noA:∀{b:Addr} {o:Obj} {es:Array DictEntry} {ep:Nat},s₁.heap.get? b=some o->o.data=.dict es ep->H b=none:=λ{b o es ep} e d =>
   untr e (λz=>by rw [z] at d;cases d) (λz=>by rw [z] at d;cases d)
  have nsK:∀{b:Addr} {m:Str->Option Value},s₁.heap.Ns b m->(tL s₁.heap H).Ns b m:=λ{b m} ⟨o,es,ep,e,d,r⟩=>⟨o,es,ep,base_of e (noA e d),d,r⟩;have hKb:K.In (tL s₁.heap H):=λb o e=>base_of (KX b o e) (by
   cases q:H b with
   | none=>rfl
   | some u =>
    exfalso;rcases hA b (by rw [q];simp) with rfl | z
    ·rw [hK (by rw [q];simp)] at e;cases e
    ·rw [(tabAt b z).2.1] at e;cases e)
  have hbmB:BM mg (tL s₁.heap H):=by
   obtain ⟨bm,ob,h1,h2,h3,h4,h5,h6⟩:=hbm;exact ⟨bm,ob,h1,h2,base_of h3 (untr h3 (λz=>by rw [z] at h6;cases h6) (λz=>by rw [z] at h6;cases h6)),h4,h5,h6⟩
  have hM:IA K mg (tL s₁.heap H):=⟨hKb,nsK hns,⟨mb,nsK hb,hbb⟩,let ⟨mc,h1,h2⟩:=hlim;⟨mc,nsK h1,h2⟩⟩;have e0:AA P w K mg (tL s₁.heap H) callerA [] s₁ H:=⟨rfl,hM,λb o e=>DQ e,Nat.le_of_eq (vH _ _),trivial,λb hb=>absurd (show b∈([]:List Addr) from hb) (by simp),hok,.of_eq hg⟩;refine codeAny_mono ((F _ hKb (nsK hns) hbmB).run callerA [] s₁ H ⟨[.ref a],[]⟩ [.ref a] [.ref a] _ _ hr e0 (hbind s₁ (.ref a)) (.cons rfl .nil) (hsp H hO hS)) λr s' h=>?_;cases r with
  | error e=>exact (hCX H e s' h).elim
  | ok fl =>
   cases fl with
   | next=>exact False.elim h
   | brk=>exact False.elim h
   | cont=>exact False.elim h
   | ret u =>
    obtain ⟨v,H',os,bare,un,hok',r',q⟩:=h;have q':v=.bl true:=q;subst q';obtain rfl:u=Value.bool true:=r';have key:∀b o,s₁.heap.get? b=some o->s'.heap.get? b=some o\/(isCodeTable s₁.heap b/\o=tabObj #[]/\∃ps,s'.heap.get? b=some (tabObj ps)):=λb o e=>by
     rcases hO.all b with z | ⟨ob,xs,z⟩ | ⟨z,hm⟩
     ·exact .inl (un.keep b o e z (by intro z;exact absurd (show b∈([]:List Addr) from z) (by simp)) (by simp))
     ·have z2:=un.frzs b ob _ z;obtain ⟨e1,_⟩:=hok b _ z;obtain ⟨e2,_⟩:=hok' b _ z2;rw [e] at e1;cases e1;exact .inl e2
     ·obtain ⟨more,z2⟩:=un.tbls b _ z;have e1:=(tabAt b hm).1;rw [e] at e1;cases e1;exact .inr ⟨(tabAt b hm).2.2,rfl,_,hok' b _ z2⟩
    refine ⟨rfl,⟨λb o e=>?_,λb o e=>?_⟩,os,bare⟩
    ·rcases key b o e with z | ⟨ht,rfl,ps,z⟩
     ·exact .inl z
     ·exact .inr (.inl ⟨ht,rfl,#[],ps,rfl,by rw [Array.empty_append];exact z⟩)
    ·rcases key b o e with z | ⟨_,_,ps,z⟩
     ·exact ⟨o,z⟩
     ·exact ⟨_,z⟩
 cases hk:K.lookup a with
 | some o =>
  have e:=KX a o hk;rw [ha] at e;cases e;refine core (λb=>if b∈tabs.map (·.2) then some (.tbl #[]) else none) ⟨λb=>?_,λq hq=>if_pos (List.mem_map_of_mem hq)⟩ (.inr ⟨_,vs.toArray,_,hk,rfl,rfl,rfl,by rw [aO,lenV];exact hl,by simpa using rv⟩) (λb u z=>?_) (λb z=>?_) λz=>absurd (if_neg naT) z
  ·by_cases hb:b∈tabs.map (·.2)
   ·exact .inr (.inr ⟨if_pos hb,hb⟩)
   ·exact .inl (if_neg hb)
  ·by_cases hb:b∈tabs.map (·.2)
   ·have z':=(if_pos hb).symm.trans z;cases z';exact (tabAt b hb).1
   ·have z':=(if_neg hb).symm.trans z;cases z'
  ·by_cases hb:b∈tabs.map (·.2)
   ·exact .inr hb
   ·exact absurd (if_neg hb) z
 | none =>
  refine core (λb=>if b=a then some (.frz { cls:=.type "list",data:=.seq vs.toArray } (.lst (ns.map V.int))) else if b∈tabs.map (·.2) then some (.tbl #[]) else none) ⟨λb=>?_,λq hq=>?_⟩ (.inl (.inr ⟨{ cls:=.type "list",data:=.seq vs.toArray },if_pos rfl⟩)) (λb u z=>?_) (λb z=>?_) λ_=>hk
  ·by_cases hb:b=a
   ·exact .inr (.inl ⟨_,_,if_pos hb⟩)
   ·by_cases hb2:b∈tabs.map (·.2)
    ·exact .inr (.inr ⟨(if_neg hb).trans (if_pos hb2),hb2⟩)
    ·exact .inl ((if_neg hb).trans (if_neg hb2))
  ·have hm:q.2∈tabs.map (·.2):=List.mem_map_of_mem hq;exact (if_neg (show ¬q.2=a from λz=>naT (z ▸ hm))).trans (if_pos hm)
  ·by_cases hb:b=a
   ·have z':=(if_pos hb).symm.trans z;cases z';subst hb;exact ⟨ha,by rw [aA];exact hl,vs,_,rv,ha⟩
   ·have z1:=(if_neg hb).symm.trans z;by_cases hb2:b∈tabs.map (·.2)
    ·have z':=(if_pos hb2).symm.trans z1;cases z';exact (tabAt b hb2).1
    ·have z':=(if_neg hb2).symm.trans z1;cases z'
  ·by_cases hb:b=a
   ·exact .inl hb
   ·by_cases hb2:b∈tabs.map (·.2)
    ·exact .inr hb2
    ·exact absurd ((if_neg hb).trans (if_neg hb2)) z
theorem IJ{l:PySem.W.OpenLaw}{n k:Nat}{q:Program}{loose:List Str}{XP:(Str->Option Value)->Heap->Prop}{YP:World->Heap->Prop}{d:DefRec}{K:Params->PySem.W.Frag}{CX:IB}{tabs:Params->List (Addr × Addr)}{sp:PySem.W.Frag->List (Addr × Addr)->Sp}{x:Str}(nms:List Str)
  (hn:l.most=some n) (hn2:n<=sizeLine) (hdf:d.params.defaults=[]) (hr:gA k callerA)
  (hY:∀(w:World) (h:Heap),YP w h->(K w.params).In h)
  (hrec:∀y∈nms,∃e,(recsOf q).find? (λe=>e.name == y)=some e) (htab:∀w:World,nms.map (tabIn (K w.params))=(tabs w.params).map some) (hTK:∀(w:World),∀t∈tabs w.params,(K w.params).lookup t.2=none)
  (F:∀(w:World) (mg:Str->Option Value) (fa:Addr) (h:Heap),(K w.params).In h->h.Ns mainGlobals mg->mg d.name=some (.ref fa) ->
   ∃fd:FuncData,(∀(s:Shared) (u:Value),BindsTo s fd ⟨[u],[]⟩ [(x,u)]) /\
    ∀base:Heap,(K w.params).In base->base.Ns mainGlobals mg->BM mg base->dP l.prog w (K w.params) mg base CX k fa fd [x] (sp (K w.params) (tabs w.params)))
  (hsp:∀(K:PySem.W.Frag) (tabs:List (Addr × Addr)) (H:Hp) (a:Addr) (ns:List Int),ns.length<=n->FE tabs H->gG K H a (ns.map V.int)->sp K tabs [.ref a] H (λv _=>v=.bl true) λ_ _ _=>False)
  (hCX:∀(H:Hp) (s:Shared) (e:Value) (s':Shared),CX [] H s (λ_ _ _=>False) e s'->False) :
  PySem.W.WalkO q loose XP YP l.row.toRowW d [] (λf vs=>PySem.call f vs):=by
 refine Att.zV hn hdf λw s₀ s₁ mg mb fa o pm cd doc a vs ns G Y ho hd hcd hmg hobj hints hlen hg=>?_;have KX:=hY w _ Y;obtain ⟨fd,hb,hF⟩:=F w mg fa _ KX G.T.g hmg;have hT:∀t∈tabs w.params,CodeHd s₁.heap t.1 t.2/\s₁.heap.get? t.2=some (tabObj #[]):=λt ht=>by
  have hm:some t∈nms.map (tabIn (K w.params)):=by rw [htab w];exact List.mem_map_of_mem ht
  obtain ⟨y,hy,e⟩:=aU.mp hm;obtain ⟨dr,hdr⟩:=hrec y hy;exact tab_of G.T KX hdr e
 exact GN KX G.T.g G.T.b G.T.builtins G.T.nolimit hg hobj hints (bC hlen hn2) hr hT (hTK w) G.T.bmain hF hb (λH hO hS=>hsp _ _ H a ns hlen hO hS) λH e s'=>hCX H s₁ e s'
theorem iK.okwL{P:Program}{w:World}{K:PySem.W.Frag}{mg:Str->Option Value}{base:Heap}{x qual:Str}{st:Stmt}{f cA:Addr}{fd:FuncData}{N ps:List Str}{k:Nat}{sp:Sp}(F:iK K x qual st f fd)(hc:fd.code=.ref cA)(S:bZ N ps (bD st))(len:∀vs H Q E,sp vs H Q E->vs.length=ps.length)
  (hbody:∀(A:Around) (outer:List Env) (s:Shared) (H:Hp) (vs:List V) (Q:VK) (E:XK),gA k (A.deeper (envOfC qual (bD st) s.heap.objs.size f (.ref cA)))->sp vs H Q E ->
   ∃t,uC (rN dM P w K mg base N qual (bD st) f (.ref cA) A outer s H E).nox (hJ st) t/\t { nx:=λ_ H'=>Q .non H',rt:=Q } (start N vs) H):dP P w K mg base dM (k+1) f fd ps sp:=by
 obtain ⟨oc,od,kV,doc,pm,an,cdv,ct,osl,rfl,lk,hcd⟩:=F.ex;obtain rfl:cdv=.ref cA:=hc;refine SB lk hcd S len λA outer s H vs Q E hr hsp=>?_;obtain ⟨t,h,q⟩:=hbody A outer s H vs Q E hr hsp;exact ⟨t,h.p.nox,q⟩
end L2
namespace Kw
open PySem L2 Mf
theorem tV{H H':Hp}{kvs:List (List dE × V)}{ts:FB}(s:aX H H')(h:Paired (CO H) kvs ts):Paired (CO H') kvs ts:=Paired.imp' (λ_ _ r=>⟨r.1,r.2.same s⟩) h
theorem XO{H:Hp}:∀{kvs:List (List dE × V)}{ts:FB},Paired (CO H) kvs ts->(ts.map (·.1)).Nodup->∀{e:List Int × PyData},e∈ts->∃v,gS kvs (kT e.1)=some v/\bR H e.2 v
 | _,_,.nil,_,e,he=>by cases he
 | p::kvs,t::ts,.cons h r,nd,e,he=>by
  rw [aV,List.nodup_cons] at nd;rcases aR.mp he with rfl | he
  ·exact ⟨p.2,lQ h.1,h.2⟩
  ·have n:p.1≠kT e.1:=λz=>nd.1 (by rw [h.1] at z;rw [lE z];exact List.mem_map_of_mem he);obtain ⟨v,e1,r1⟩:=XO r nd.2 he;exact ⟨v,by rw [lR n];exact e1,r1⟩
theorem pE{H:Hp}:∀{kvs:List (List dE × V)}{ts:FB},Paired (CO H) kvs ts->kvs.map (·.1)=(ts.map (·.1)).map kT
 | _,_,.nil=>rfl
 | _,_,.cons h t=>by rw [aV,aV,aV,h.1,pE t]
def tN(es:List dB):FB:=es.map λe=>(e.1,lO e.2)
theorem BI{H:Hp}:∀{es:List dB}{xs:List V},aL H (es.map jZ) xs->∃kvs,Paired (nJ H) xs kvs/\Paired (CO H) kvs (tN es)
 | [],xs,r=>by
  unfold aL at r;cases (show xs=[] from r);exact ⟨[],.nil,.nil⟩
 | e::es,xs,r=>by
  rw [aV] at r;unfold aL at r;obtain ⟨x,xs',rfl,r1,r2⟩:=r;obtain ⟨kvs,h1,h2⟩:=BI r2;obtain ⟨b,u,v,rfl,hb,ru,rv⟩:=qI r1;obtain ⟨cu,rfl,hcu⟩:=iO ru;exact ⟨(kT e.1,v)::kvs,.cons ⟨b,cu,rfl,hb,by rw [nT];exact hcu⟩ h1,.cons ⟨rfl,rv⟩ h2⟩
def GC(l:FB)(c:List Int)(d:PyData):FB:=if (l.any λx=>decide (x.1=c))=true then l.map (λx=>if x.1=c then (x.1,d) else x) else l++[(c,d)]
theorem EI{H:Hp}{c:List Int}{d:PyData}{v:V}(r:bR H d v):∀{kvs:List (List dE × V)}{ts:FB},Paired (CO H) kvs ts->Paired (CO H) (kvs.map λkv=>if kv.1=kT c then (kv.1,v) else kv) (ts.map λe=>if e.1=c then (e.1,d) else e)
 | _,_,.nil=>.nil
 | p::kvs,e::ts,.cons h t=>by
  have ih:=EI r (c:=c) t;rw [aV,aV];refine .cons ?_ ih;by_cases q:e.1=c
  ·rw [if_pos q,if_pos (by rw [h.1,q])];exact ⟨h.1,r⟩
  ·rw [if_neg q,if_neg (by rw [h.1];exact λz=>q (lE z))];exact h
theorem EJ{H:Hp}{c:List Int}:∀{kvs:List (List dE × V)}{ts:FB},Paired (CO H) kvs ts->(kvs.any λkv=>decide (kv.1=kT c))=(ts.any λx=>decide (x.1=c))
 | _,_,.nil=>rfl
 | a::_,b::_,.cons r t=>by
  rw [List.any_cons,List.any_cons,EJ t];congr 1;rw [r.1];exact decide_eq_decide.mpr ⟨λz=>lE z,λz=>by rw [z]⟩
theorem PZ{H:Hp}{kvs:List (List dE × V)}{ts:FB}{c:List Int}{d:PyData}{v:V}(h:Paired (CO H) kvs ts)(r:bR H d v):Paired (CO H) (fL kvs (kT c) v) (GC ts c d):=by
 unfold fL GC;rw [EJ h];split
 ·exact EI r h
 ·exact mH h ⟨rfl,r⟩
theorem JM{ts:FB}{c:List Int}{d:PyData}:(GC ts c d).length<=ts.length+1:=by
 unfold GC;split
 ·rw [aA];omega
 ·rw [aI];exact aK _
def MB(ts:FB):Prop:=∀e∈ts,iB [6,2] (dX e.1)=true/\iB [6,2] e.2=true
theorem ZJ:∀{ts:FB},MB ts->PyData.showableKv (ts.map λe=>(PyData.tuple (e.1.map .int),e.2))=true/\PyData.depthKv (ts.map λe=>(PyData.tuple (e.1.map .int),e.2))<=4/\piled (PyData.shownKv (ts.map λe=>(PyData.tuple (e.1.map .int),e.2)))<=ts.length*73200/\PyData.hasDictAll (ts.map (·.2))=false
 | [],_=>⟨rfl,cB _,cB _,rfl⟩
 | e::ts,h=>by
  obtain ⟨h1,h2,h3,h4⟩:=ZJ λx hx=>h x (aD e hx);obtain ⟨a0,b0⟩:=h e (aF ..);have a:=nA a0;have b:=nA b0;have ka:wW [6,2]<=36580:=Dd;have la:=bC (oS _ a.sh a.nd) a.wd;have lb:=bC (oS _ b.sh b.nd) b.wd;have d1:(dX e.1).depth<=4:=a.dp;have d2:e.2.depth<=4:=b.dp;refine ⟨?_,?_,?_,?_⟩
  ·show ((PyData.showable (dX e.1)&&PyData.showable e.2)&&_)=true;rw [a.sh,b.sh,h1];rfl
  ·show max (max (dX e.1).depth e.2.depth) _<=4;omega
  ·show piled (((dX e.1).shown++Str.ofString ": " ++ e.2.shown)::_)<=(ts.length+1)*73200;rw [piled_cons,strLen_append,strLen_append,show (Str.ofString ": ").length=2 from rfl];omega
  ·show (e.2.hasDict || PyData.hasDictAll (ts.map (·.2)))=false;rw [b.nd,h4];rfl
theorem NE{ts:FB}(h:MB ts)(hl:ts.length<=52):ZU ts:=by
 obtain ⟨h1,h2,h3,h4⟩:=ZJ h;refine ⟨h1,h4,?_,?_⟩
 ·show PyData.depthKv _+1<=60;omega
 ·show (dictText (PyData.shownKv _)).length<=sizeLine;unfold dictText;rw [strLen_append,strLen_append,show (Str.ofString "{").length=1 from rfl,show (Str.ofString "}").length=1 from rfl];have hs:52*73200+100<=sizeLine:=Dd;by_cases z:PyData.shownKv (ts.map λe=>(PyData.tuple (e.1.map .int),e.2))=[]
  ·rw [z,show (Str.join (Str.ofString ", ") []).length=0 from rfl];exact bC (show 1+0+1<=52*73200+100 by decide) hs
  ·have:=join_length_add _ z;have e1:ts.length*73200<=52*73200:=Nat.mul_le_mul_right _ hl;refine bC ?_ hs;show 1+(Str.join (", " : String) _).length+1<=_;omega
theorem WF{F W M:Nat}{es:List dB}(R:iU F W M es)(Z:jO F W M):MB (tN es):=λe he=>by
 obtain ⟨e',he',rfl⟩:=aU.mp he;exact (tU R Z he').2
theorem KY{F W M:Nat}{es:List dB}(R:iU F W M es):((tN es).map (·.1)).Nodup:=by
 unfold tN;rw [List.map_map];exact R.nd
theorem DS{F W M:Nat}{es:List dB}{ds:List PyData}{dd:PyData}(R:iU F W M es)(Z:jO F W M)(hl:ds.length<=52)(h:∀d∈ds,d∈es.map jZ\/d=dd)(ok:iB [3,6,2] dd=true)(hk:dR F W dd=true->(dN dd).1.sum<=8\/100<=(dN dd).1.sum):kP F W (.tuple ds)/\uA (.tuple ds):=by
 have oke:XB ds:=λd hd=>by
  rcases h d hd with q | rfl
  ·exact kK R Z d q
  ·exact ok
 refine ⟨BQ R Z (by have:=Z.w;omega) hl oke λhall=>?_,rZ hl oke⟩;by_cases q:dR F W dd=true
 ·refine ⟨(dN dd).1,hk q,λe he=>?_⟩;obtain ⟨d,hd,rfl⟩:=aU.mp he;rcases h d hd with z | rfl
  ·obtain ⟨e',he',rfl⟩:=aU.mp z;rw [tS];exact .inl (List.mem_map_of_mem he')
  ·exact .inr rfl
 ·refine ⟨[],.inl Dd,λe he=>?_⟩;obtain ⟨d,hd,rfl⟩:=aU.mp he;rcases h d hd with z | rfl
  ·obtain ⟨e',he',rfl⟩:=aU.mp z;rw [tS];exact .inl (List.mem_map_of_mem he')
  ·exact absurd (List.all_eq_true.mp hall _ hd) q
theorem rY{F W M:Nat}{es:List dB}{ds:List PyData}(R:iU F W M es)(Z:jO F W M)(hl:ds.length<=52)(h:∀d∈ds,d∈es.map jZ):kP F W (.tuple ds)/\uA (.tuple ds):=DS (dd:=.none) R Z hl (λd hd=>.inl (h d hd)) rfl (λz=>by cases z)
theorem MU{F W M:Nat}{es:List dB}{ts:FB}{x:List Int}{ds:List PyData}(R:iU F W M es)(Z:jO F W M)(hl:ds.length<=52)(ok:MB ts)(hx:x.sum<=8)(hk:∀e∈ts,e.1∈es.map (·.1)\/e.1=x)(h:∀d∈ds,∃e∈ts,d=.tuple [dX e.1,e.2]):kP F W (.tuple ds)/\uA (.tuple ds):=by
 have oke:XB ds:=λd hd=>by
  obtain ⟨e,he,rfl⟩:=h d hd;refine fJ (by show 2<=3;decide) λd hd=>?_;simp only [aR,List.not_mem_nil,or_false] at hd;rcases hd with rfl | rfl
  ·exact (ok e he).1
  ·exact (ok e he).2
 refine ⟨BQ R Z (by have:=Z.w;omega) hl oke λhall=>⟨x,.inl hx,λe he=>?_⟩,rZ hl oke⟩;obtain ⟨d,hd,rfl⟩:=aU.mp he;obtain ⟨e,he2,rfl⟩:=h d hd;show jK (dX e.1)∈_\/jK (dX e.1)=x;rw [qE];exact hk e he2
theorem eQ.tape{H H':Hp}{p P:Addr}{n:Nat}{q:Str}{pos:Pos}(b:aT p H H')(hp:bP H p n)(t:eQ H P q pos):eQ H' P q pos:=by
 obtain ⟨c,l,tt,h,_⟩:=hp.ex;exact ⟨t.ex.elim (λh'=>.inl (b.at (λz=>by rw [z,h] at h';cases h') h')) λ⟨c',h1,h2⟩=>.inr ⟨c',b.at (λz=>by rw [z,h] at h1;cases h1) h1,b.at (λz=>by rw [z,h] at h2;cases h2) h2⟩⟩
theorem bP.tab{H H':Hp}{p P:Addr}{n:Nat}{q:Str}{pos:Pos}(b:aT P H H')(hp:bP H p n)(t:eQ H P q pos):bP H' p n:=by
 obtain ⟨c,l,tt,h,rest⟩:=hp.ex;refine ⟨c,l,tt,b.at (λz=>?_) h,rest⟩;rcases t.ex with h' | ⟨c',h',_⟩
 ·rw [<-z,h] at h';cases h'
 ·rw [<-z,h] at h';cases h'
theorem yG{H:Hp}:∀{ds:List PyData}{vs:List V},aL H ds vs->aL H ds.reverse vs.reverse
 | [],_,h=>by cases (show _=[] from h);exact aL.nil
 | d::ds,_,h=>by
  unfold aL at h;obtain ⟨x,xs,rfl,h1,h2⟩:=h;rw [List.reverse_cons,List.reverse_cons];exact aL.app26 (yG h2) (aL.cons h1 aL.nil)
theorem LI(xs:List V){k:Nat}(h:k<xs.length):kA xs (some (k:Int)) (some ((k+2:Nat):Int))=(xs.drop k).take 2:=by
 unfold kA;rw [HT.sA,HT.sA,Nat.min_eq_left (Nat.le_of_lt h)];rcases Nat.lt_or_ge xs.length (k+2) with q | q
 ·rw [Nat.min_eq_right Oo,List.take_of_length_le (by rw [List.length_drop];omega),List.take_of_length_le (by rw [List.length_drop];omega)]
 ·rw [Nat.min_eq_left q,show k+2-k=2 by omega]
theorem NC{K:PySem.W.Frag}{H:Hp}{a:Addr}{xs:List V}{k:Nat}{z:Int}{Q:VK}(hz:z=((k+2:Nat):Int))(hk:k<xs.length)(h:H a=some (.tup xs))(q:∀c H',aX H H'->H' c=some (.tup ((xs.drop k).take 2))->Q (.ref c) H'):sR K (.ref a) (some (k:Int)) (some z) H Q:=by
 subst hz;unfold sR;exact ⟨a,xs,rfl,h,λc H' s e=>q c H' s (by rw [e,LI xs hk])⟩
def qT(W:Nat):List Fr:=[(0,1),(1,1)]++List.replicate (W-1) (0,1)
theorem NA(W:Nat):PyData.tuple ([.tuple [.int 0,.int 1],.tuple [.int 1,.int 1]]++List.replicate (W-1) (.tuple [.int 0,.int 1]))=lO (qT W):=by
 show _=PyData.tuple ((qT W).map iJ);unfold qT;rw [bM,List.map_replicate];rfl
theorem MZ{W:Nat}(h:2<=W/\W<=4):iB [6,2] (lO (qT W))=true:=by
 rcases (show W=2\/W=3\/W=4 by omega) with rfl | rfl | rfl <;> decide +kernel
theorem JL(es:List dB)(c:List Int)(s:List Fr):GC (tN es) c (lO s)=tN (jX es (c,s)):=by
 unfold GC jX tN;rw [List.any_map];show (if (es.any λx=>decide (x.1=c))=true then _ else _)=_;split
 ·rw [List.map_map,List.map_map];refine List.map_congr_left λx _=>?_;show (if x.1=c then (x.1,lO s) else (x.1,lO x.2))=_;show _=((if x.1=c then (x.1,s) else x).1,lO (if x.1=c then (x.1,s) else x).2);split <;> rfl
 ·rw [bM];rfl
theorem UF{F W M:Nat}{es:List dB}(R:iU F W M es)(Z:jO F W M){c:List Int}{s:List Fr}(hc:iB [6,2] (dX c)=true)(hs:iB [6,2] (lO s)=true):MB (tN (jX es (c,s))):=λe he=>by
 obtain ⟨e',he',rfl⟩:=aU.mp he;rcases sT he' with rfl | h
 ·exact ⟨hc,hs⟩
 ·exact (tU R Z h).2
theorem tW{H H':Hp}(t:eY H H'):∀{kvs:List (List dE × V)}{es:List dB},Paired (CO H) kvs (tN es)->Paired (CO H') kvs (tN es)
 | _,[],.nil=>.nil
 | _,_::_,.cons h r=>.cons ⟨h.1,h.2.flat t (mG _)⟩ (tW t r)
theorem DE{H:Hp}{P:PyData->Prop}:∀{zs:List V},(∀(i:Nat) y,zs[i]?=some y->∃d,P d/\bR H d y)->∃ds:List PyData,aL H ds zs/\∀d∈ds,P d
 | [],_=>⟨[],aL.nil,λd hd=>by cases hd⟩
 | z::zs,h=>by
  obtain ⟨d,h1,h2⟩:=h 0 z rfl;obtain ⟨ds,h3,h4⟩:=DE λi y hi=>h (i+1) y (by simpa using hi);exact ⟨d::ds,aL.cons h2 h3,λe he=>by
   rcases aR.mp he with rfl | he
   ·exact h1
   ·exact h4 e he⟩
theorem BK{H H':Hp}(s:aX H H'){xs:List V}{kvs:List (List dE × V)}(h:Paired (nJ H) xs kvs):Paired (nJ H') xs kvs:=Paired.imp' (λ_ _ ⟨b,cu,e1,h1,h2⟩=>⟨b,cu,e1,s _ _ h1,s _ _ h2⟩) h
theorem LK{F W:Nat}(c:List Int):dR F W (dX c)=false:=by
 match c with
 | []=>rfl
 | [_]=>rfl
 | [_,_]=>rfl
 | _::_::_::_=>rfl
theorem KF{d:PyData}(h:iB [2] d=true):iB [6,2] d=true:=by
 have sq:∀ds:List PyData,(decide (ds.length<=2)&&ds.all (iB []))=true->ds.length<=6/\∀e∈ds,iB [2] e=true:=λds h=>by
  rw [aQ,decide_eq_true_eq] at h;exact ⟨Oo,λe he=>wS (List.all_eq_true.mp h.2 e he)⟩
 cases d with
 | tuple ds=>exact fJ (sq ds h).1 (sq ds h).2
 | list ds=>exact oT (sq ds h).1 (sq ds h).2
 | _=>exact h
theorem IL{a b:PyData}{d:PyData}(h:iB [6,2] d=true)(e:PyData.tuple [a,b]=d):iB [6,2] a=true/\iB [6,2] b=true:=by
 subst e;exact ⟨KF ((pZ h).2 a (by simp)),KF ((pZ h).2 b (by simp))⟩
abbrev TY:Stmt:=(top 44)
theorem SG:bZ ["_law_tape_here","_law_rule_here","_law_ways","_law_at","_law_counts","_law_says_here","_law_way","_law_stop","_law_more","_law_odd"] ["_law_tape_here","_law_rule_here","_law_ways"] (bD TY):=⟨rfl,rfl,rfl,Kk,rfl,Kk,Kk⟩
abbrev nI:Pos:=⟨190,92,190,134⟩
abbrev nH:Str := "_law_bent" ++ ".<locals>." ++ "<lambda>"
@[irreducible] def mQ(K:PySem.W.Frag)(tA:Addr):Sp:=λvs H Q _=>∃(p:Addr) (n:Nat) (x:V) (es:List dB) (F W M:Nat),vs=[.ref p,x,.int (W:Int)]/\bP H p (n+5)/\bR H (CZ es) x/\iU F W M es/\jO F W M/\eQ H tA nH nI /\
 ∀v Hm H',bP H' p n->aT p H Hm->aT tA Hm H'->eQ H' tA nH nI->FF F W H' v->Q v H'
theorem FX{K:PySem.W.Frag}{tA:Addr}{H:Hp}{Q:VK}{E:XK}{p:Addr}{n:Nat}{x:V}{es:List dB}{F W M:Nat}(T:bP H p (n+5))(r:bR H (CZ es) x)(R:iU F W M es)(Z:jO F W M)(t:eQ H tA nH nI)(q:∀v Hm H',bP H' p n->aT p H Hm->aT tA Hm H'->eQ H' tA nH nI->FF F W H' v->Q v H'):mQ K tA [.ref p,x,.int (W:Int)] H Q E:=by unfold mQ;exact ⟨p,n,x,es,F,W,M,rfl,T,r,R,Z,t,q⟩
section
theorem oQ0{f cA tA:Addr}{fd:FuncData}(F:iK K "_law_bent" "_law_bent" TY f fd)(T:kR K mg c)(hcd:fd.code=.ref cA)(hh:GT K cA tA=true)(hbm:BM mg base)(FQ9:hU dM P w K mg base 1 "_law_pick" ["_law_tape_here","_law_many"] gT)(FQ2:hU dM P w K mg base 2 "_law_bent_says" ["_law_tape_here","_law_says_here"] mD)(FQ1:hU dM P w K mg base 2 "_law_bent_counts" ["_law_tape_here","_law_counts"] oQ):dP P w K mg base dM 8 f fd ["_law_tape_here","_law_rule_here","_law_ways"] (mQ K tA):=by
 refine F.okwL hcd SG (λvs H Q E h=>?_) (λA outer s H vs Q E hr h=>?_)
 ·unfold mQ at h;obtain ⟨p,n,x,es,F,W,M,rfl,_⟩:=h
  rfl
 ·unfold mQ at h;obtain ⟨p,n,x,es,F,W,M,rfl,TP,r,R,Z,TO,q⟩:=h;obtain ⟨a,xs,rfl,ha,rxs⟩:=UB r;have lx:xs.length=es.length:=by rw [rxs.len,aA]
  have few:=R.few Z;have hF:2<=F/\F<=4/\M<=4:=by have:=Z.f;omega
  have hW:=Z.w;have ne:0<es.length:=List.length_pos_iff.mpr R.ne;have nap:=TP.neT ha;have fin:∀{v:V} {d:PyData} {H':Hp},bP H' p n->aT p H H'->bR H' d v->kP F W d/\uA d->Q v H':=λ{v d H'} T' b' r' L=>q v H' H' T' b' (aX.refl _).but (eQ.tape b' TP TO) (.inl ⟨d,r',L.1,L.2⟩);refine ⟨_,(aW (cC (i:=3) SG.nd rfl (Or.inl rfl) (cF FQ9 (hr.mono Dd) (aH (aJ 0) (aH (cS fS (by rfl) T.b_len Kk (aH (aJ 1) aC)) aC))))
   (aW (AE (cK cG (aJ 1) (aJ 3) (λ_ _=>rfl)) (vV rfl (gR (eK (i:=4) SG.nd rfl (Or.inl rfl)) (gR (eK (i:=5) SG.nd rfl (Or.inl rfl)) rW))))
   (aW (cC (i:=6) SG.nd rfl (Or.inl rfl) (cF FQ9 (hr.mono Dd) (aH (aJ 0) (aH aE aC))))
   (aW (cC (i:=7) SG.nd rfl (Or.inl rfl) (bS (dA K) (cH (aH (cH (aH aE (aH aE aC))) (aH (cH (aH aE (aH aE aC))) aC))) (bS OV (cH (aH (cH (aH aE (aH aE aC))) aC)) (bS pY (aJ 2) aE))))
   (aW (eP (dH jI (aJ 6) aE (nomark _)) (bG (bV (bS (dA K) (cM (cY K) (aJ 1) cX (cT (aJ 3))) (cM (cY K) (aJ 1) (cT (bS dU (aJ 3) aE)) cX)))) cR)
   (aW (eP (dH jI (aJ 6) aE (nomark _)) (aW (cC (i:=8) SG.nd rfl (Or.inr rfl) (kC (zP hr.units rfl) (by rfl) T.b_dict Kk (aH (aJ 1) aC)))
   (aW (oC hr.u1 (aJ 8) (bS (dA K) (bS (dA K) (cM (cY K) (aJ 4) cX (cT aE)) (cH (aH (bS dU (cK cG (aJ 4) aE (λ_ _=>rfl)) aE) aC))) (cM (cY K) (aJ 4) (cT aE) cX)) (aJ 7))
   (bG (bV (kC gF (by rfl) T.b_tuple Kk (aH (eZ (eA.of (psc:=bD TY) (N:=["_law_tape_here","_law_rule_here","_law_ways","_law_at","_law_counts","_law_says_here","_law_way","_law_stop","_law_more","_law_odd"]) (N':=["_law_one","_law_more"]) (js:=[8]) Kk rfl rfl rfl) (kU (IE (k:=4) (N:=["_law_one"]) (z := "_law_one") rfl hh hbm ⟨rfl,rfl,rfl,Kk,rfl,Kk,Kk⟩ (λ_ _ _ _=>rfl) (λB f c1 A outer s H E hr=>(cH (aH (cS (xG K rfl) (by rfl) T.b_sum Kk (aH (aJ 0) aC)) (aH (aJ 0) aC)))) (hr.mono Dd) (by rfl) T.b_sorted (aJ 8) rfl)) (λ_ _ _ _=>gH) (λ_ _ _ _=>(cH (aH (aJ 0) (aH (kX hr.u1 (aJ 1) (aJ 0)) aC))))) aC)))))) cR)
   (aW (eP (dH jI (aJ 6) aE (nomark _)) (bG (bV (bS (dA K) (bS (dA K) (cM (cY K) (aJ 1) cX (cT (aJ 3))) (MR K (cM (cY K) (aJ 1) (cT (aJ 3)) (cT (bS dU (aJ 3) aE))) (xS sJ aE) (λ_ _ _=>⟨λ⟨i,h,q⟩=>by cases h;exact q,λq=>⟨1,rfl,q⟩⟩))) (cM (cY K) (aJ 1) (cT (bS dU (aJ 3) aE)) cX)))) cR)
   (aW (eP (dH jI (aJ 6) aE (nomark _)) (bG (bV (bS (dA K) (bS (dA K) (cM (cY K) (aJ 1) cX (cT (aJ 3))) (cH (aH (cK cG (aJ 1) (aJ 3) (λ_ _=>rfl)) aC))) (cM (cY K) (aJ 1) (cT (aJ 3)) cX)))) cR)
   (aW (eP (dH KB (aJ 6) aE (nomark _)) (bG (bV (bS (dA K) (bS (dA K) (cM (cY K) (aJ 1) cX (cT (aJ 3))) (cH (aH (cH (aH (aJ 4) (aH (cF FQ2 (hr.mono Dd) (aH (aJ 0) (aH (aJ 5) aC))) aC))) aC))) (cM (cY K) (aJ 1) (cT (bS dU (aJ 3) aE)) cX)))) cR)
   (aW (eP (dH KB (aJ 6) aE (nomark _)) (bG (bV (bS (dA K) (bS (dA K) (cM (cY K) (aJ 1) cX (cT (aJ 3))) (cH (aH (cH (aH (cF FQ1 (hr.mono Dd) (aH (aJ 0) (aH (aJ 4) aC))) (aH (aJ 5) aC))) aC))) (cM (cY K) (aJ 1) (cT (bS dU (aJ 3) aE)) cX)))) cR)
   (aW (eP (dH jI (aJ 6) aE (nomark _)) (aW (cC (i:=9) SG.nd rfl (Or.inl rfl) (dS (aH (dS (aH (aJ 4) (aH (aJ 5) aC))) (aH (cH (aH (aJ 4) aC)) (aH (cH (aH (aJ 4) (aH (aJ 5) (aH aE aC)))) (aH vW aC))))))
   (bG (bV (bS (dA K) (bS (dA K) (cM (cY K) (aJ 1) cX (cT (aJ 3))) (cH (aH (cK cG (aJ 9) (cF FQ9 (hr.mono Dd) (aH (aJ 0) (aH aE aC))) (λ_ _=>rfl)) aC))) (cM (cY K) (aJ 1) (cT (bS dU (aJ 3) aE)) cX))))) cR)
   (bG (bV (cK cG (dS (aH (kC lJ (by rfl) T.b_list Kk (aH (aJ 1) aC)) (aH (cH aC) (aH vW (aH (kC (zP hr.units rfl) (by rfl) T.b_dict Kk (aH (aJ 1) aC)) (aH (cK cG (aJ 1) aE (λ_ _=>rfl)) (aH aE aC))))))) (cF FQ9 (hr.mono Dd) (aH (aJ 0) (aH aE aC))) (λ_ _=>rfl))))))))))))))),?_⟩
  refine ⟨_,rfl,_,rfl,?_⟩;refine NP ha ?_;refine cQ (n:=n+4) TP Oo (bitsle (bI (show ((xs.length:Nat):Int).natAbs<=99 by omega) Dd)) λz H1 z0 z1 T1 b1=>?_;obtain ⟨k,rfl⟩:∃k:Nat,z=(k:Int):=⟨z.toNat,Oo⟩;have hk:k<es.length:=Oo;have ha1:=b1.at nap ha;have rl1:aL H1 (es.map jZ) xs:=rxs.flat (TP.t b1) (fD es);obtain ⟨e,he⟩:∃e,es[k]?=some e:=⟨_,aN hk⟩;have hem:=bK he;obtain ⟨y,hy,ry⟩:=aL.atX rl1 he;obtain ⟨b,u,v,rfl,hb,ru,rv⟩:=qI ry;obtain ⟨cu,rfl,hcu⟩:=iO ru;obtain ⟨r1,r2,r3,r4⟩:=R.each e hem;refine ⟨_,rfl,_,rfl,?_⟩;refine xQ ha1 (fK hy) ?_;refine ⟨b,[.ref cu,v],rfl,eI.of hb,rfl,.ref cu,[v],rfl,v,[],rfl,rfl,?_⟩;refine ⟨_,rfl,?_⟩;refine cQ (n:=n+3) T1 Dd Kk λz H2 z0' z1' T2 b2=>?_;have ha2:=b2.at (T1.neT ha1) ha1;have rl2:aL H2 (es.map jZ) xs:=rl1.flat (T1.t b2) (fD es);have b02:=b1.trans b2;refine xN.use (VJ (fH (bW (fH (bW dI (bW dI eO)) (Nat.le_of_ble_eq_true rfl)) (bW (fH (bW dI (bW dI eO)) (Nat.le_of_ble_eq_true rfl)) eO)) (Nat.le_of_ble_eq_true rfl)) (PC (fH (bW (fH (bW dI (bW dI eO)) (Nat.le_of_ble_eq_true rfl)) eO) (Nat.le_of_ble_eq_true rfl)) (PB rfl Oo) Oo) (by rw [bX];show 2+(W-1)<=1000;omega)) λst H3 s3 r3=>?_;have T3:=T2.same s3;have ha3:=s3 _ _ ha2;have rl3:=rl2.same s3;have b03:aT p H H3:=b02.trans s3.but;have hb3:=s3 _ _ (b2.at (T1.neT hb) hb);have hcu3:=s3 _ _ (b2.at (T1.neT hcu) hcu);have rv3:bR H3 (lO e.2) v:=(rv.flat (T1.t b2) (mG _)).same s3
  have hmem:∀d,d∈(es.map jZ).take k\/d∈(es.map jZ).drop (k+1)->d∈es.map jZ:=λd h=>h.elim List.mem_of_mem_take List.mem_of_mem_drop;have lm:(es.map jZ).length=es.length:=aA _;have mid:∀{dd:PyData} {v':V} {H':Hp} {c':Addr},bP H' p n->aT p H H'->H' c'=some (.tup (xs.take k++[v']++xs.drop (k+1)))->aL H' (es.map jZ) xs->bR H' dd v'->iB [3,6,2] dd=true->(dR F W dd=true->(dN dd).1.sum<=8\/100<=(dN dd).1.sum)->Q (.ref c') H':=λ{dd v' H' c'} T' b' e' rl' r' ok' hk'=>by
   refine fin T' b' (bR.tup e' (aL.app26 (aL.app26 (fF k rl') (aL.cons r' aL.nil)) (gP (k+1) rl'))) (DS (dd:=dd) R Z ?_ (λd hd=>?_) ok' hk')
   ·rw [aI,aI,bA,List.length_drop,lm];show min k es.length+1+(es.length-(k+1))<=52;omega
   ·rcases bE.mp hd with hd | hd
    ·rcases bE.mp hd with hd | hd
     ·exact .inl (hmem d (.inl hd))
     ·exact .inr (aP.mp hd)
    ·exact .inl (hmem d (.inr hd))
  have lcat:(xs.take k).length+1<=1000:=by rw [bA];omega
  have lcat2:∀v':V,(xs.take k++[v']).length+(xs.drop (k+1)).length<=1000:=λv'=>by rw [aI,bA,List.length_drop];show min k xs.length+1+(xs.length-(k+1))<=1000;omega
  obtain ⟨oe,oc,os⟩:=tU R Z hem;refine ⟨_,rfl,rfl,_,rfl,?_⟩;refine lP (λzw=>?_) (λzw=>?_)
  ·-- 0: an entry left out
   refine ⟨_,rfl,_,rfl,_,rfl,?_⟩;refine jH ha3 λc5 H5 s5 e5=>?_;refine ⟨_,rfl,_,rfl,_,_,rfl,rfl,?_⟩;refine ⟨_,rfl,?_⟩;refine iF (k:=k+1) Oo (s5 _ _ ha3) λc6 H6 s6 e6=>?_;refine iP (s6 _ _ e5) e6 (by rw [bA,List.length_drop];omega) λc7 H7 s7 e7=>?_;have S:=(s5.trans s6).trans s7;refine fin ((T3.same S).less Oo) (b03.trans S.but) (bR.tup e7 (aL.app26 (fF k (rl3.same S)) (gP (k+1) (rl3.same S)))) (rY R Z ?_ λd hd=>?_)
   ·rw [aI,bA,List.length_drop,lm];omega
   ·exact hmem d (bE.mp hd)
  refine ⟨_,rfl,rfl,_,rfl,?_⟩;refine lP (λzw1=>?_) (λzw1=>?_)
  ·-- 1: one that it does not come to
   obtain ⟨kvs,p1,p2⟩:=BI rl3;have lk:kvs.length=es.length:=by rw [p2.length];unfold tN;rw [aA]
   refine ⟨_,rfl,?_⟩;refine rdcp ha3 p1 (by rw [pE p2];exact List.pairwise_map.mpr ((KY R).imp λh e=>h (lE e))) Oo λD H4 hD e4 s4=>?_;obtain ⟨y1,hy1⟩:∃y1,e.1[1]?=some y1:=⟨_,aN Oo⟩;have hcu4:=s4 _ _ hcu3;refine ⟨_,rfl,_,rfl,?_⟩;refine ⟨_,rfl,_,rfl,?_⟩;refine jH (k:=1) hcu4 λc5 H5 s5 e5=>?_;refine ⟨_,rfl,?_⟩;refine xQ (s5 _ _ hcu4) (v:=.int y1) (fK (j:=1) (by rw [aS,hy1];rfl)) ?_;refine ⟨_,_,rfl,rfl,?_⟩;refine mS (by show 1<=64;decide) λc6 H6 hc6 e6 s6=>?_;refine iP (s6 _ _ e5) e6 (by rw [bA];show min 1 _+1<=1000;omega) λc7 H7 s7 e7=>?_;have s47:=(s5.trans s6).trans s7;refine ⟨_,rfl,_,rfl,?_⟩;refine iF (k:=2) rfl (s47 _ _ hcu4) λc8 H8 s8 e8=>?_;refine iP (s8 _ _ e7) e8 (by rw [aI,bA,List.length_drop,aA];show min 1 e.1.length+1+(e.1.length-2)<=1000;omega) λc9 H9 s9 e9=>?_;have s49:=(s47.trans s8).trans s9;obtain ⟨x1,hx1⟩:∃x1,x1=e.1.take 1++[y1+2]++e.1.drop 2:=⟨_,rfl⟩;have ex1:(e.1.map V.int).take 1++[V.int (y1+2)]++(e.1.map V.int).drop 2=x1.map V.int:=by rw [hx1,bM,bM,List.map_take,List.map_drop];rfl
   rw [ex1] at e9;have xs1:x1.sum=e.1.sum-y1+(y1+2):=by rw [hx1];exact mY e.1 1 y1 (y1+2) hy1
   have ox1:iB [6,2] (dX x1)=true:=by
    refine LJ (by rw [hx1,aI,aI,bA,List.length_drop];show min 1 e.1.length+1+(e.1.length-2)<=6;omega) λx hx=>?_;have hs:=pG r2 Oo;have hy0:=r2 y1 (bK hy1);have hy4:=iZ r2 y1 (bK hy1);rw [hx1] at hx;rcases bE.mp hx with hx | hx
    ·rcases bE.mp hx with hx | hx
     ·exact hs x (List.mem_of_mem_take hx)
     ·cases aP.mp hx;exact bI (show (y1+2).natAbs<=6 by omega) Dd
    ·exact hs x (List.mem_of_mem_drop hx)
   refine dpT (s49 _ _ e4) (c:=x1) e9 Oo λH10 e10 b10=>?_;have S10:aX H3 H10:=aX.thru hD (s4.trans s49) b10;have b0_10:aT p H H10:=b03.trans S10.but;have t10:eY H3 H10:=S10.t;rw [NA] at r3;have rst:bR H10 (lO (qT W)) st:=r3.same S10;have p10:Paired (CO H10) (fL kvs (kT x1) st) (tN (jX es (x1,qT W))):=by
    rw [<-JL];exact PZ (tV S10 p2) rst
   obtain ⟨es',hes'⟩:∃es',es'=jX es (x1,qT W):=⟨_,rfl⟩;rw [<-hes'] at p10;generalize fL kvs (kT x1) st=kv at e10 p10;have nd':(es'.map (·.1)).Nodup:=by rw [hes'];exact uY R.nd
   have len':es'.length<=51:=by
    have:(tN es').length<=(tN es).length+1:=by rw [hes',<-JL];exact JM
    unfold tN at this;rw [aA,aA] at this;omega
   have mem':∀e' ∈ es',e'=(x1,qT W)\/e' ∈ es:=λe' h=>sT (by rw [<-hes'];exact h);have TO10:eQ H10 tA nH nI:=eQ.tape b0_10 TP TO;obtain ⟨pt,hpt⟩:=TO10.at_;have keys:kv.map (·.1)=(es'.map (·.1)).map kT:=by
    rw [pE p10,show (tN es').map (·.1)=es'.map (·.1) by unfold tN;rw [List.map_map];rfl]
   refine ⟨_,rfl,?_⟩;unfold BE;refine ⟨D,kv,es'.map (·.1),es'.map (λe=>e.1.sum::e.1),rfl,e10,keys,by rw [aA];omega,TO10,by rw [aA,aA],λk hk=>?_,λi b c k H' hc hk b' hb=>?_,λD2 ix ys H11 ky pm srt hD2 e11 b11 T11=>?_⟩
   ·obtain ⟨c,_,rfl⟩:=aU.mp hk;exact List.cons_ne_nil _ _
   ·rw [aS] at hc hk;obtain ⟨c0,hc0,rfl⟩:=dG.mp hc;rw [hc0] at hk;cases hk;refine ⟨_,rfl,?_⟩;refine rsT (eI.of hb) ?_;refine ⟨_,rfl,?_⟩;refine mS (by show 2<=64;decide) λq7 H7 hq7 e7 s7=>⟨s7,?_⟩;exact bR.tup e7 (aL.cons (bR.int _) (aL.cons (iE (s7 _ _ hb)) aL.nil))
   ·have lix:ix.length=ys.length:=by rw [pm.length_eq,cE]
    have lyc:ys.length=es'.length:=by rw [ky.1,aA]
    have ilt:∀i∈ix,i<es'.length:=λi hi=>by
     have:=cU.mp (pm.mem_iff.mp hi);omega
    have e11D:H11 D=some (.dT kv):=b11.at (λz=>by rw [z,hpt] at e10;cases e10) e10;have t11:eY H10 H11:=λb us hb=>b11.at (λz=>by rw [z,hpt] at hb;cases hb) hb;have p11:Paired (CO H11) kv (tN es'):=Paired.imp' (λ_ _ r=>r) (tW t11 p10);refine ⟨D2,rfl,⟨_,gG.of e11⟩,?_⟩;refine vN (λi y H'=>∃e' ∈ es',bR H' (jZ e') y) (λi y Ha Hb s ⟨e',h1,h2⟩=>⟨e',h1,h2.flat s (tX _)⟩) (by rw [aA];omega) e11 (λi y H' Q' hy' s' k'=>?_) (λD3 zs H12 hD3 e12 s12 hz hr12=>?_)
    ·rw [aS] at hy';obtain ⟨j,hj,rfl⟩:=dG.mp hy';have hjl:=ilt j (bK hj);obtain ⟨e',he'⟩:∃e',es'[j]?=some e':=⟨_,aN hjl⟩;have hyj:ys[j]?=some (ys[j]'Oo):=aN Oo;obtain ⟨bb,ebb,hbb⟩:=ky.2 j _ e'.1 hyj (by rw [aS,he'];rfl);have egd:ys.getD j .non=.ref bb:=by rw [bJ,hyj];exact ebb
     rw [egd];have hem':=bK he';obtain ⟨w',hw',rw'⟩:=XO (tV s' p11) (by unfold tN;rw [List.map_map];exact nd') (e:=(e'.1,lO e'.2)) (List.mem_map_of_mem hem');refine ⟨_,rfl,_,rfl,_,rfl,?_⟩;refine dgT (s' _ _ e11D) (c:=e'.1) (s' _ _ hbb) hw' ?_;refine mS (by show 2<=64;decide) λq7 H7 hq7 e7 s7=>?_;exact k' _ H7 s7 ⟨e',hem',bR.tup e7 (aL.cons (iE (s7 _ _ (s' _ _ hbb))) (aL.cons (rw'.same s7) aL.nil))⟩
    ·refine ⟨D3,_,rfl,.inl ⟨gG.of e12,λl hl=>?_⟩⟩;have sl:=aX.upd (o:=.tup zs) hl;have el:(upd H12 l (.tup zs)) l=some (.tup zs):=bL;generalize upd H12 l (.tup zs)=H13 at sl el ⊢;have s1113:=s12.trans sl;obtain ⟨ds,hds,hdm⟩:∃ds:List PyData,aL H13 ds zs/\∀d∈ds,∃e' ∈ es',d=jZ e':=DE λi y hi=>by
      obtain ⟨e',h1,h2⟩:=hr12 i y hi;exact ⟨jZ e',⟨e',h1,rfl⟩,h2.same sl⟩
     have T10:=T3.same S10;have T13:bP H13 p n:=((T10.tab b11 TO10).same s1113).less Oo;have L:=MU (ts:=tN es') (x:=x1) (ds:=ds) R Z (by rw [<-hds.len,hz,aA];omega) (by rw [hes'];exact UF R Z ox1 (MZ hW)) Oo (λe'' he''=>by
      obtain ⟨e3,he3,rfl⟩:=aU.mp he'';rcases mem' e3 he3 with rfl | h
      ·exact .inr rfl
      ·exact .inl (List.mem_map_of_mem h)) (λd hd=>by
      obtain ⟨e3,he3,rfl⟩:=hdm d hd;exact ⟨(e3.1,lO e3.2),List.mem_map_of_mem he3,rfl⟩)
     exact q _ H10 H13 T13 b0_10 (b11.same s1113) (T11.same s1113) (.inl ⟨.tuple ds,bR.tup el hds,L.1,L.2⟩)
  refine ⟨_,rfl,rfl,_,rfl,?_⟩;refine lP (λzw2=>?_) (λzw2=>?_)
  ·-- 2: two exchanged
   refine ⟨_,rfl,_,rfl,_,rfl,?_⟩;refine jH ha3 λc5 H5 s5 e5=>?_;refine ⟨_,rfl,_,rfl,_,rfl,_,rfl,_,_,rfl,rfl,?_⟩;refine ⟨_,rfl,?_⟩;refine NC (k:=k) Oo Oo (s5 _ _ ha3) λc6 H6 s6 e6=>?_;refine aAE e6 λc7 H7 s7 _ e7=>?_;have l2:((xs.drop k).take 2).reverse.length<=2:=by rw [List.length_reverse,bA];omega
   refine iP (s7 _ _ (s6 _ _ e5)) e7 (by rw [bA];omega) λc8 H8 s8 e8=>?_;have S8:=((s5.trans s6).trans s7).trans s8;refine ⟨_,rfl,_,rfl,_,_,rfl,rfl,?_⟩;refine ⟨_,rfl,?_⟩;refine iF (k:=k+2) Oo (S8 _ _ ha3) λc9 H9 s9 e9=>?_;refine iP (s9 _ _ e8) e9 (by rw [aI,bA,List.length_drop];omega) λc10 H10 s10 e10=>?_;have S:=(S8.trans s9).trans s10;have rlS:=rl3.same S;refine fin ((T3.same S).less Oo) (b03.trans S.but) (bR.tup e10 (aL.app26 (aL.app26 (fF k rlS) (yG (fF 2 (gP k rlS)))) (gP (k+2) rlS))) (rY R Z ?_ λd hd=>?_)
   ·rw [aI,aI,List.length_reverse,bA,bA,List.length_drop,List.length_drop,lm];omega
   ·rcases bE.mp hd with hd | hd
    ·rcases bE.mp hd with hd | hd
     ·exact List.mem_of_mem_take hd
     ·exact List.mem_of_mem_drop (List.mem_of_mem_take (List.mem_reverse.mp hd))
    ·exact List.mem_of_mem_drop hd
  refine ⟨_,rfl,rfl,_,rfl,?_⟩;refine lP (λzw3=>?_) (λzw3=>?_)
  ·-- 3: one twice
   refine ⟨_,rfl,_,rfl,_,rfl,?_⟩;refine jH ha3 λc5 H5 s5 e5=>?_;refine ⟨_,rfl,_,rfl,?_⟩;refine xQ (s5 _ _ ha3) (fK hy) ?_;refine mS (by show 1<=64;decide) λc6 H6 hc6 e6 s6=>?_;refine iP (s6 _ _ e5) e6 lcat λc7 H7 s7 e7=>?_;have S7:=(s5.trans s6).trans s7;refine ⟨_,rfl,_,rfl,_,rfl,?_⟩;refine IX (S7 _ _ ha3) λc9 H9 s9 e9=>?_;refine iP (s9 _ _ e7) e9 (by rw [aI,bA,List.length_drop];show min k xs.length+1+(xs.length-k)<=1000;omega) λc10 H10 s10 e10=>?_;have S:=(S7.trans s9).trans s10;have rlS:=rl3.same S;have reS:bR H10 (jZ e) (.ref b):=(aL.atX rlS he).elim λy ⟨h1,h2⟩=>by rw [hy] at h1;cases h1;exact h2
   refine fin ((T3.same S).less Oo) (b03.trans S.but) (bR.tup e10 (aL.app26 (aL.app26 (fF k rlS) (aL.cons reS aL.nil)) (gP k rlS))) (rY R Z ?_ λd hd=>?_)
   ·rw [aI,aI,bA,List.length_drop,lm];show min k es.length+1+(es.length-k)<=52;omega
   ·rcases bE.mp hd with hd | hd
    ·rcases bE.mp hd with hd | hd
     ·exact List.mem_of_mem_take hd
     ·cases aP.mp hd;exact List.mem_map_of_mem hem
    ·exact List.mem_of_mem_drop hd
  refine ⟨_,rfl,_,_,rfl,rfl,_,rfl,?_⟩;refine lP (λzw4=>?_) (λzw4=>?_)
  ·-- 4,5: says bent
   refine ⟨_,rfl,_,rfl,_,rfl,?_⟩;refine jH ha3 λc5 H5 s5 e5=>?_;refine ⟨_,rfl,_,rfl,_,rfl,?_⟩;have T5:=T3.same s5;refine AU (n:=n) (m:=1+W) T5 (rv3.same s5) r4 Oo Oo λv6 d6 H6 T6 b6 r6 hb6=>?_;refine mS (by show 2<=64;decide) λc7 H7 hc7 e7 s7=>?_;refine mS (by show 1<=64;decide) λc8 H8 hc8 e8 s8=>?_;have s78:=s7.trans s8;refine iP (s78 _ _ (b6.at (T5.neT e5) e5)) e8 lcat λc9 H9 s9 e9=>?_;have s79:=s78.trans s9;have ha9:=s79 _ _ (b6.at (T5.neT (s5 _ _ ha3)) (s5 _ _ ha3));refine ⟨_,rfl,_,rfl,_,_,rfl,rfl,?_⟩;refine ⟨_,rfl,?_⟩;refine iF (k:=k+1) Oo ha9 λc10 H10 s10 e10=>?_;refine iP (s10 _ _ e9) e10 (lcat2 _) λc11 H11 s11 e11=>?_;have s6n:=(s79.trans s10).trans s11;have rl11:=((rl3.same s5).flat (T5.t b6) (fD es)).same s6n;have hcu11:=s6n _ _ (b6.at (T5.neT (s5 _ _ hcu3)) (s5 _ _ hcu3));have o6:=WR hb6;refine mid (dd:=.tuple [dX e.1,d6]) (T6.same s6n) (b03.trans ((s5.but.trans b6).trans s6n.but)) e11 rl11 (bR.tup (s11 _ _ (s10 _ _ (s9 _ _ (s8 _ _ e7)))) (aL.cons (iE hcu11) (aL.cons (r6.same s6n) aL.nil))) (fJ (by show 2<=3;decide) λd hd=>?_) λ_=>.inl ?_
   ·simp only [aR,List.not_mem_nil,or_false] at hd;rcases hd with rfl | rfl
    ·exact oc
    ·exact o6
   ·show (jK (dX e.1)).sum<=8;rw [qE];omega
  refine ⟨_,rfl,_,_,rfl,rfl,_,rfl,?_⟩;refine lP (λzw5=>?_) (λzw5=>?_)
  ·-- 6,7: counts bent
   refine ⟨_,rfl,_,rfl,_,rfl,?_⟩;refine jH ha3 λc5 H5 s5 e5=>?_;refine ⟨_,rfl,_,rfl,?_⟩;have T5:=T3.same s5;refine FY (n:=n) T5 (iE (s5 _ _ hcu3)) Oo Oo r2 Oo λv6 d6 H6 T6 b6 r6 hb6=>?_;refine ⟨_,rfl,?_⟩;refine mS (by show 2<=64;decide) λc7 H7 hc7 e7 s7=>?_;refine mS (by show 1<=64;decide) λc8 H8 hc8 e8 s8=>?_;have s78:=s7.trans s8;refine iP (s78 _ _ (b6.at (T5.neT e5) e5)) e8 lcat λc9 H9 s9 e9=>?_;have s79:=s78.trans s9;have ha9:=s79 _ _ (b6.at (T5.neT (s5 _ _ ha3)) (s5 _ _ ha3));refine ⟨_,rfl,_,rfl,_,_,rfl,rfl,?_⟩;refine ⟨_,rfl,?_⟩;refine iF (k:=k+1) Oo ha9 λc10 H10 s10 e10=>?_;refine iP (s10 _ _ e9) e10 (lcat2 _) λc11 H11 s11 e11=>?_;have s6n:=(s79.trans s10).trans s11;have rl11:=((rl3.same s5).flat (T5.t b6) (fD es)).same s6n;have rv11:=((rv3.same s5).flat (T5.t b6) (mG _)).same s6n;refine mid (dd:=.tuple [d6,lO e.2]) (T6.same s6n) (b03.trans ((s5.but.trans b6).trans s6n.but)) e11 rl11 (bR.tup (s11 _ _ (s10 _ _ (s9 _ _ (s8 _ _ e7)))) (aL.cons (r6.same s6n) (aL.cons rv11 aL.nil))) (fJ (by show 2<=3;decide) λd hd=>?_) λhE=>?_
   ·simp only [aR,List.not_mem_nil,or_false] at hd;rcases hd with rfl | rfl
    ·exact hb6.ok
    ·exact os
   ·have hE:(fC (F:Int) d6&&_)=true:=hE;rw [aQ] at hE;exact hb6.key F hE.1 Oo r1.symm
  refine ⟨_,rfl,rfl,_,rfl,?_⟩;refine lP (λzw6=>?_) (λzw6=>?_)
  ·-- 8: no entry
   refine ⟨_,rfl,_,rfl,?_⟩;refine rJ (by show 2<=64;decide) λd1 H4 hd1 f4 s4=>?_;refine ⟨_,rfl,?_⟩;refine mS (by show 1<=64;decide) λd2 H5 hd2 f5 s5=>?_;refine ⟨_,rfl,_,rfl,?_⟩;refine mS (by show 3<=64;decide) λd3 H6 hd3 f6 s6=>?_;refine rJ (by show 4<=64;decide) λd4 H7 hd4 f7 s7=>?_;have s37:=((s4.trans s5).trans s6).trans s7;have hcu7:=s37 _ _ hcu3;have rv7:=rv3.same s37;have rO:aL H7 [.list [dX e.1,lO e.2],.tuple [dX e.1],.tuple [dX e.1,lO e.2,.int 0],.none] [.ref d1,.ref d2,.ref d3,.non]:=aL.cons (bR.lst (((s5.trans s6).trans s7) _ _ f4) (aL.cons (iE hcu7) (aL.cons rv7 aL.nil))) (aL.cons (bR.tup ((s6.trans s7) _ _ f5) (aL.cons (iE hcu7) aL.nil)) (aL.cons (bR.tup (s7 _ _ f6) (aL.cons (iE hcu7) (aL.cons rv7 (aL.cons (bR.int 0) aL.nil)))) (aL.cons bR.non aL.nil)));have T7:=T3.same s37;refine ⟨_,rfl,_,rfl,_,rfl,?_⟩;refine jH (s37 _ _ ha3) λc5 H8 s8 e5=>?_;refine ⟨_,rfl,_,rfl,?_⟩;have T8:=T7.same s8;refine cQ (n:=n+2) T8 Dd Kk λz2 H9 z20 z21 T9 b9=>?_;obtain ⟨vv,hat,hmm,_⟩:=jV (xs:=[V.ref d1,V.ref d2,V.ref d3,V.non]) z20 z21;refine xR (b9.at (T8.neL (s8 _ _ f7)) (s8 _ _ f7)) hat ?_;obtain ⟨dd,hdd,rdd⟩:=aL.mem rO hmm;have hdd2:iB [3,6,2] dd=true/\dR F W dd=false:=by
    simp only [aR,List.not_mem_nil,or_false] at hdd;have two:∀d∈[dX e.1,lO e.2],iB [6,2] d=true:=λd hd=>by
     simp only [aR,List.not_mem_nil,or_false] at hd;rcases hd with rfl | rfl
     ·exact oc
     ·exact os
    rcases hdd with rfl | rfl | rfl | rfl
    ·exact ⟨oT (by show 2<=3;decide) two,rfl⟩
    ·exact ⟨fJ (by show 1<=3;decide) λd hd=>by cases aP.mp hd;exact oc,rfl⟩
    ·refine ⟨fJ (by show 3<=3;decide) λd hd=>?_,rfl⟩;simp only [aR,List.not_mem_nil,or_false] at hd;rcases hd with rfl | rfl | rfl
     ·exact oc
     ·exact os
     ·rfl
    ·exact ⟨rfl,rfl⟩
   have rdd9:=pS b9 T8.nosq (nA hdd2.1).nd (rdd.same s8);refine mS (by show 1<=64;decide) λc10 H10 hc10 e10 s10=>?_;refine iP (s10 _ _ (b9.at (T8.neT e5) e5)) e10 lcat λc11 H11 s11 e11=>?_;have s911:=s10.trans s11;have ha8:=s8 _ _ (s37 _ _ ha3);have ha11:=s911 _ _ (b9.at (T8.neT ha8) ha8);refine ⟨_,rfl,_,rfl,_,_,rfl,rfl,?_⟩;refine ⟨_,rfl,?_⟩;refine iF (k:=k+1) Oo ha11 λc12 H12 s12 e12=>?_;refine iP (s12 _ _ e11) e12 (lcat2 _) λc13 H13 s13 e13=>?_;have s9n:=(s911.trans s12).trans s13;have rl13:=((rl3.same (s37.trans s8)).flat (T8.t b9) (fD es)).same s9n;exact mid (dd:=dd) ((T9.same s9n).less Oo) (b03.trans (((s37.trans s8).but.trans b9).trans s9n.but)) e13 rl13 (rdd9.same s9n) hdd2.1 λz=>by rw [hdd2.2] at z;cases z
  ·-- 9: no rule
   obtain ⟨kvs,p1,p2⟩:=BI rl3;have lk:kvs.length=es.length:=by rw [p2.length];unfold tN;rw [aA]
   refine ⟨_,rfl,a,_,rfl,.inr (eI.of ha3),λd1 hd1=>?_⟩;have s4:=aX.upd (o:=.lst xs) hd1;have f4:(upd H3 d1 (.lst xs)) d1=some (.lst xs):=bL;generalize upd H3 d1 (.lst xs)=H4 at s4 f4;refine mS (by show 0<=64;decide) λd2 H5 hd2 f5 s5=>?_;have s35:=s4.trans s5;refine ⟨_,rfl,?_⟩;refine rdcp (s35 _ _ ha3) (BK s35 p1) (by rw [pE p2];exact List.pairwise_map.mpr ((KY R).imp λh e=>h (lE e))) Oo λD H6 hD e6 s6=>?_;have s36:=s35.trans s6;obtain ⟨e0,he0⟩:∃e0,es[0]?=some e0:=⟨_,aN ne⟩;obtain ⟨y0,hy0,ry0⟩:=aL.atX (rl3.same s36) he0;refine ⟨_,rfl,?_⟩;refine xQ (s36 _ _ ha3) (fK (j:=0) hy0) ?_;refine rJ (by show 6<=64;decide) λd4 H7 hd4 f7 s7=>?_;have s37:=s36.trans s7;have T7:=T3.same s37;refine ⟨_,rfl,?_⟩;refine cQ (n:=n+2) T7 Dd Kk λz2 H8 z20 z21 T8 b8=>?_;have b08:aT p H H8:=b03.trans (s37.but.trans b8);have T8':bP H8 p n:=T8.less Oo;have rl8:aL H8 (es.map jZ) xs:=(rl3.same s37).flat (T7.t b8) (fD es);have f8:=b8.at (T7.neL f7) f7;have hF2:2<=F/\F<=4:=⟨hF.1,hF.2.1⟩;have hW4:W<=4:=hW.2;rcases (show z2=0\/z2=1\/z2=2\/z2=3\/z2=4\/z2=5 by omega) with rfl | rfl | rfl | rfl | rfl | rfl
   ·refine xR f8 rfl ?_;have g4:H7 d1=some (.lst xs):=s7 _ _ (s6 _ _ (s5 _ _ f4));exact fin T8' b08 (bR.lst (b8.at (T7.neL g4) g4) rl8) ⟨BP hF2 hW4 λds z=>by (cases z),ND Oo (kK R Z)⟩
   ·refine xR f8 rfl ?_;have g5:H7 d2=some (.tup []):=s7 _ _ (s6 _ _ f5);exact fin T8' b08 (bR.tup (b8.at (T7.neT g5) g5) aL.nil) (rY R Z Dd λd hd=>by cases hd)
   ·refine xR f8 rfl ?_;exact fin T8' b08 bR.non ⟨BP hF2 hW4 λds z=>by (cases z),wR rfl⟩
   ·refine xR f8 rfl ?_;have g6:H7 D=some (.dT kvs):=s7 _ _ e6;have nD:D≠p:=λz=>by
     have:=T3.same s35;obtain ⟨_,_,_,h,_⟩:=this.ex;rw [<-z,hD] at h;cases h
    refine q _ H8 H8 T8' b08 (aX.refl _).but (eQ.tape b08 TP TO) (.inr ⟨D,kvs,tN es,rfl,b8.at nD g6,tW (T7.t b8) (tV s37 p2),NE (WF R Z) (by unfold tN;rw [aA];omega)⟩)
   ·refine xR f8 rfl ?_;have r8:bR H8 (jZ e0) y0:=(ry0.same s7).flat (T7.t b8) (tX _);have he0m:=bK he0;obtain ⟨oe0,oc0,os0⟩:=tU R Z he0m;have q0:=R.each e0 he0m;refine fin T8' b08 r8 ⟨KK hF2 hW4 (by show 2<=52;decide) (λa' b' hd=>?_) ?_,wR oe0⟩
    ·simp only [aR,List.not_mem_nil,or_false] at hd;rcases hd with hd | hd
     ·exact IL oc0 hd
     ·exact IL os0 hd
    ·show (dR F W (dX e0.1)&&_)=false;rw [LK,Bool.false_and]
   ·refine xR f8 rfl ?_;exact fin T8' b08 (bR.int 0) ⟨BP hF2 hW4 λds z=>by (cases z),wR rfl⟩
end
theorem KC{X:Cx}:lN X (compareOp .IsNot) (λx y H Q=>∃a b,x=.bl a/\y=.bl b/\Q (.bl (!(a == b))) H):=by
 intro pins s σ H x y v u Q I rx ry h;obtain ⟨a,b,rfl,rfl,q⟩:=h;cases rx;cases ry;exact PyProof.Rows.isnot_bool ⟨.bl _,H,I,rfl,q⟩
def nZ(p q:Addr)(H H':Hp):Prop:=∀b o,b≠p->b≠q->H b=some o->H' b=some o
theorem nZ.l{p q:Addr}{H H1 H2:Hp}(h:nZ p q H H1)(b:aT p H1 H2):nZ p q H H2:=λa o n1 n2 e=>b.at n1 (h a o n1 n2 e)
theorem nZ.r{p q:Addr}{H H1 H2:Hp}(h:nZ p q H H1)(b:aT q H1 H2):nZ p q H H2:=λa o n1 n2 e=>b.at n2 (h a o n1 n2 e)
theorem nZ.s{p q:Addr}{H H1 H2:Hp}(h:nZ p q H H1)(b:aX H1 H2):nZ p q H H2:=λa o n1 n2 e=>b _ _ (h a o n1 n2 e)
theorem nZ.thru{p q:Addr}{H H1 H2 H3:Hp}(b:aT q H H1)(hp:H1 p=none)(s:aX H1 H2)(h:nZ p q H2 H3):aT q H H3:=by
 intro a o ha;have n:=eN.ne ha;rw [eN.at n] at ha;have e1:=b.at n ha;exact eN.of n (h a o (λz=>by rw [z,hp] at e1;cases e1) n (s _ _ e1))
theorem gG.butT{K:PySem.W.Frag}{H H':Hp}{P a:Addr}{xs:List V}{ps:Array Value}(b:aT P H H')(hP:H P=some (.tbl ps))(h:gG K H a xs):gG K H' a xs:=by
 rcases h with (h | ⟨o,h⟩) | h
 ·exact .inl (.inl (b.at (λz=>by rw [z,hP] at h;cases h) h))
 ·exact .inl (.inr ⟨o,b.at (λz=>by rw [z,hP] at h;cases h) h⟩)
 ·exact .inr h
@[irreducible] def mP(K:PySem.W.Frag)(tA:Addr):Sp:=λvs H Q _=>∃(a:Addr) (ns:List Int),vs=[.ref a]/\gG K H a (ns.map V.int)/\ns.length<=63/\eQ H tA nH nI/\∀H',Q (.bl true) H'
section
theorem aAQ{f tA:Addr}{fd:FuncData}(F:iK K "law" "law" NI f fd)(T:kR K mg c)
  (FQ16:hU dM P w K mg base 1 "_law_tape" ["_law_script","_law_at"] (oI K)) (FQ15:hU dM P w K mg base 2 "_law_sizes" ["_law_tape_here"] lU) (FQ12:hU dM P w K mg base 4 "_law_rule" ["_law_tape_here","_law_faces","_law_ways","_law_most","_law_plain"] oK) (FQ9:hU dM P w K mg base 1 "_law_pick" ["_law_tape_here","_law_many"] gT) (FQ28:hU dM P w K mg base 8 "is_rule" ["faces","ways","thing"] (gO K)) (FQ11:hU dM P w K mg base 9 "_law_right" ["_law_faces","_law_ways","_law_thing"] iA) (FQ0:hU dM P w K mg base 8 "_law_bent" ["_law_tape_here","_law_rule_here","_law_ways"] (mQ K tA)):dP P w K mg base dM 10 f fd ["_law_script"] (mP K tA):=by
 refine F.oky zT λvs H Q E h=>?_;unfold mP at h;obtain ⟨a,ns,rfl,hS,hl,TO,k⟩:=h;refine ⟨rfl,λcdv A outer s hr=>?_⟩;refine ⟨_,(aW (jW PassesOwn.never rfl (hV rfl T.b_range (aH (bS dU aE (cS fS (by rfl) T.b_len Kk (aH (cM NB (aJ 0) cX (cT aE)) aC))) aC)) (eK (i:=1) zT.nd rfl (Or.inl rfl)) (aW (cC (i:=2) zT.nd rfl (Or.inl rfl) (cF FQ16 (hr.mono Dd) (aH (aJ 0) (aH (aJ 1) aC))))
  (aW (AE (cF FQ15 (hr.mono Dd) (aH (aJ 2) aC)) (vV rfl (gR (eK (i:=3) zT.nd rfl (Or.inl rfl)) (gR (eK (i:=4) zT.nd rfl (Or.inl rfl)) (gR (eK (i:=5) zT.nd rfl (Or.inl rfl)) rW)))))
  (aW (cC (i:=6) zT.nd rfl (Or.inl rfl) (cF FQ12 (hr.mono Dd) (aH (aJ 2) (aH (aJ 3) (aH (aJ 4) (aH (aJ 5) (aH (fG jI (cF FQ9 (hr.mono Dd) (aH (aJ 2) (aH aE aC))) aE (nomark _)) aC)))))))
  (aW (eP (dH KC (cF FQ28 (hr.mono Dd) (aH (aJ 3) (aH (aJ 4) (aH (aJ 6) aC)))) fW (nomark _)) (bG (bV fW)) cR)
  (aW (jW PassesOwn.never rfl (hV rfl T.b_range (aH aE aC)) (eK (i:=7) zT.nd rfl (Or.inl rfl)) (bG (eP (eT (eE (cF FQ11 (hr.mono Dd) (aH (aJ 3) (aH (aJ 4) (aH (cF FQ0 (hr.mono Dd) (aH (aJ 2) (aH (aJ 6) (aH (aJ 4) aC)))) aC)))))) (bG (bV fW)) cR)))
  (bG (eP (iS (oA (jQ (eT (eE (cF FQ11 (hr.mono Dd) (aH (bS pY aE (bS gE (aJ 3) aE)) (aH (aJ 4) (aH (aJ 6) aC)))))) (iL (eT (eE (cF FQ11 (hr.mono Dd) (aH (aJ 3) (aH (bS pY aE (aJ 4)) (aH (aJ 6) aC)))))))))) (bG (bV fW)) cR))))))))
  (bG (bV fW))),?_⟩
 refine ⟨_,rfl,_,rfl,a,_,rfl,hS,λq1 h1=>?_⟩;refine rlL bL ?_;have s1:=aX.upd (o:=.lst (kA (ns.map V.int) none (some 9))) h1;have l19:(kA (ns.map V.int) none (some 9)).length<=63:=by
  rw [show (some (9:Int))=some ((9:Nat):Int) from rfl,ES,bA,aA];omega
 generalize upd H q1 (.lst (kA (ns.map V.int) none (some 9)))=H0 at s1;generalize (kA (ns.map V.int) none (some 9)).length=n0 at l19;refine ⟨_,_,rfl,rfl,_,rfl,Oo,Oo,?_⟩;obtain ⟨ps0,hps0⟩:=TO.at_;refine vJ (λi σ H'=>∃o1 o2 o3 o4 o5 o6 o7:Option V,σ=[some (.ref a),o1,o2,o3,o4,o5,o6,o7]/\aT tA H H'/\eQ H' tA nH nI) ⟨_,_,_,_,_,_,_,rfl,s1.but,TO.same s1⟩ ?_ ?_
 ·rintro i σ H1 hi ⟨o1,o2,o3,o4,o5,o6,o7,rfl,S1,TO1⟩;refine ⟨_,rfl,_,rfl,?_⟩;refine FP (gG.butT S1 hps0 hS) hl Oo λp H2 T2 s2 hp2=>?_;refine ⟨_,rfl,?_⟩;refine AO (n:=999999999997) (T2.less Oo) λq3 nF nW nM H3 Z T3 s3 e3=>?_;refine ⟨q3,_,rfl,eI.of e3,rfl,?_⟩;refine ⟨_,_,rfl,_,_,rfl,_,_,rfl,rfl,?_⟩;refine ⟨_,rfl,_,rfl,_,rfl,_,rfl,_,rfl,?_⟩;refine cQ (n:=999999999996) (T3.less Oo) Dd Kk λx H4 x0 x1 T4 s4=>?_;refine ⟨rfl,?_⟩;refine FR (n:=1000000) (T4.less Oo) Z λv es H5 T5 s5 r5 RO=>?_;have hF:2<=nF/\nF<=4:=by have:=Z.f;omega
  have hW:=Z.w;have B5:nZ p tA H2 H5:=((nZ.l (λ_ _ _ _ e=>e) s3).l s4).l s5;have TO2:=TO1.same s2;have TO5:eQ H5 tA nH nI:=eQ.tape ((s3.trans s4).trans s5) T2 TO2;refine ⟨_,rfl,_,rfl,_,rfl,?_⟩;refine qV r5 (BB RO Z (W':=nW) Oo).1.th λH6 s6=>?_;rw [NO RO Z];refine ⟨_,_,rfl,rfl,_,rfl,?_⟩;refine fB ?_;refine ⟨_,rfl,Oo,Oo,?_⟩;refine vJ (λj σ H'=>∃o7:Option V,σ=[some (.ref a),some (.int (0+(i:Int))),some (.ref p),some (.int (nF:Int)),some (.int (nW:Int)),some (.int (nM:Int)),some v,o7]/\bP H' p (1000000-5*j)/\nZ p tA H2 H'/\eQ H' tA nH nI/\bR H' (CZ es) v)
   ⟨_,rfl,(T5.same s6).less Oo,B5.s s6,TO5.same s6,r5.same s6⟩ ?_ ?_
  ·rintro j σ H7 hj ⟨o7,rfl,T7,B7,TO7,r7⟩;refine ⟨_,rfl,_,rfl,_,rfl,_,rfl,_,rfl,?_⟩;have hj3:j<3:=hj;refine FX (n:=1000000-5*(j+1)) (T7.less Oo) r7 RO Z TO7 λv8 Hm H8 T8 b8 b8' TO8 ask=>?_;have TOm:eQ Hm tA nH nI:=eQ.tape b8 T7 TO7;obtain ⟨pm,hpm⟩:=TOm.at_;have tm:eY Hm H8:=λb us hb=>b8'.at (λz=>by rw [z,hpm] at hb;cases hb) hb;have r8:bR H8 (CZ es) v:=(r7.flat (T7.t b8) (show fR (CZ es)=true from fD es)).flat tm (show fR (CZ es)=true from fD es);refine lY ask λH9 s9=>?_;refine ⟨_,rfl,?_⟩;refine fB ?_;exact ⟨_,rfl,T8.same s9,((B7.l b8).r b8').s s9,TO8.same s9,r8.same s9⟩
  ·rintro σ H7 ⟨o7,rfl,T7,B7,TO7,r7⟩;refine ⟨λbb H8=>bb=false/\aX H7 H8,?_,?_⟩
   ·refine ⟨_,rfl,_,_,rfl,rfl,⟨Oo,?_⟩,_,_,rfl,rfl,_,rfl,_,rfl,?_⟩
    ·decide
    ·obtain ⟨F',e1,e2,e3⟩:∃F':Nat,5-(nF:Int)/2=(F':Int)/\F' ≠ nF/\2<=F'/\F'<=4:=⟨5-nF/2,Oo,Oo,Oo⟩;obtain ⟨W',e4,e5⟩:∃W':Nat,6-(nW:Int)=(W':Int)/\W'<=4:=⟨6-nW,Oo,Oo⟩;show iA [.int (5-(nF:Int)/2),.int (nW:Int),v] H7 _ _;rw [e1];have L1:=NN RO Z e3 e2;refine lY (.inl ⟨_,r7,L1.1,L1.2⟩) λH8 s8=>?_;refine ⟨_,rfl,?_⟩;refine fB ?_;refine ⟨_,rfl,_,rfl,_,_,rfl,rfl,_,rfl,?_⟩;show iA [.int (nF:Int),.int (6-(nW:Int)),v] H8 _ _;rw [e4];have L2:=BB RO Z (W':=W') e5;refine lY (.inl ⟨_,r7.same s8,L2.1,L2.2⟩) λH9 s9=>?_;exact ⟨_,rfl,rfl,s8.trans s9⟩
   ·rintro bb H8 ⟨rfl,s8⟩;refine fB ?_;exact ⟨_,_,_,_,_,_,_,rfl,nZ.thru S1 hp2 s2 (B7.s s8),TO7.same s8⟩
 ·rintro σ H1 ⟨o1,o2,o3,o4,o5,o6,o7,rfl,S1,TO1⟩;exact k H1
end
theorem FT{K:PySem.W.Frag}{tA a:Addr}{H:Hp}{E:XK}{ns:List Int}(hS:gG K H a (ns.map V.int))(hl:ns.length<=63)(hT:H tA=some (.tbl #[])):mP K tA [.ref a] H (λv _=>v=.bl true) E:=by
 unfold mP;exact ⟨a,ns,rfl,hS,hl,⟨.inl hT⟩,λ_=>rfl⟩
def spT(K:PySem.W.Frag)(tabs:List (Addr × Addr)):Sp:=match tabs with
 | [(_,t)]=>mP K t
 | _=>λ_ H Q _=>Q (.bl true) H
theorem YC{K:PySem.W.Frag}{tabs:List (Addr × Addr)}{a:Addr}{H:Hp}{E:XK}{ns:List Int}(hS:gG K H a (ns.map V.int))(hl:ns.length<=63)(hT:FE tabs H):spT K tabs [.ref a] H (λv _=>v=.bl true) E:=by
 unfold spT;split
 ·exact FT hS hl (hT.tab _ (aP.mpr rfl))
 ·rfl
theorem aBi{α:Type}{us:List α}(h:us.length=1):∃a,us=[a]:=match us,h with | [a],_=>⟨a,rfl⟩
theorem aBh{α:Type}{us:List α}(h:us.length=2):∃a b,us=[a,b]:=match us,h with | [a,b],_=>⟨a,b,rfl⟩
theorem ZG{α:Type}{us:List α}(h:us.length=3):∃a b c,us=[a,b,c]:=match us,h with | [a,b,c],_=>⟨a,b,c,rfl⟩
theorem aBg{α:Type}{us:List α}(h:us.length=4):∃a b c d,us=[a,b,c,d]:=match us,h with | [a,b,c,d],_=>⟨a,b,c,d,rfl⟩
theorem aBf{α:Type}{us:List α}(h:us.length=5):∃a b c d e,us=[a,b,c,d,e]:=match us,h with | [a,b,c,d,e],_=>⟨a,b,c,d,e,rfl⟩
theorem WE{K:PySem.W.Frag}{x q:Str}{st:Stmt}{f:Addr}{fd:FuncData}(F:iK K x q st f fd)(P:FuncData->Prop)(h:P fd):∃fd,P fd:=⟨fd,h⟩
inductive Dn (K:PySem.W.Frag) (n:Str) (st:Stmt):Prop
 | mk {f:Addr} {oc:Value} {od:Option Addr} {kV dc pm:Value} {an:Option Addr} {cd ct:Value} {sl:Array (Option Value)} (a:PySem.W.nsIn K mainGlobals n=some (some (.ref f))) (l:K.lookup f=some ⟨oc,od,.func (PySem.W.fnOf n n (lI st) (hJ st) (bD st) .none kV dc pm an cd ct),sl⟩) (c:PySem.W.codeIn K cd n=true) (k:PySem.W.keepIn K (.ref f)=true):Dn K n st
theorem fnd(l:PySem.W.OpenLaw)(w:World){K:PySem.W.Frag}{h:Heap}{mg:Str->Option Value}(X:K.In h)(G:h.Ns mainGlobals mg)(base:Heap){n:Str}{st:Stmt}{L:Nat}{ps:List Str}{sp:Sp}(d:Dn K n st)(o:∀{f:Addr}{fd:FuncData},iK K n n st f fd->dP l.prog w K mg base dM L f fd ps sp)(b:∀(kV doc pm:Value) (an:Option Addr) (cdv ct:Value) (us:List Value),us.length=ps.length->bindArgs (PySem.W.fnOf n n (lI st) (hJ st) (bD st) .none kV doc pm an cdv ct) ⟨us,[]⟩=pure (ps.zip us):=by intro _ _ _ _ _ _ us hl;first | (obtain ⟨_,rfl⟩:=aBi hl;rfl) | (obtain ⟨_,_,rfl⟩:=aBh hl;rfl) | (obtain ⟨_,_,_,rfl⟩:=ZG hl;rfl) | (obtain ⟨_,_,_,_,rfl⟩:=aBg hl;rfl) | (obtain ⟨_,_,_,_,_,rfl⟩:=aBf hl;rfl)):hU dM l.prog w K mg base L n ps sp:=by
 obtain ⟨a,l',c,k⟩:=d;exact ⟨_,_,o (wZ l' c k),PySem.W.mg_of X G a,k,(wZ l' c k).binds b⟩
theorem fnc(l:PySem.W.OpenLaw)(w:World){K:PySem.W.Frag}{h:Heap}{mg:Str->Option Value}(X:K.In h)(G:h.Ns mainGlobals mg)(base:Heap){n:Str}{f:Addr}{fd:FuncData}{L:Nat}{ps:List Str}{sp:Sp}(a:PySem.W.nsIn K mainGlobals n=some (some (.ref f)))(k:PySem.W.keepIn K (.ref f)=true)(b:nK K fd ps [])(o:dP l.prog w K mg base dM L f fd ps sp):hU dM l.prog w K mg base L n ps sp:=⟨_,_,o,PySem.W.mg_of X G a,k,b⟩
open PySem.W (nsIn fnOf codeIn keepIn mg_of mg_none_of) in
theorem WU{l:PySem.W.OpenLaw}{w:World}{K:PySem.W.Frag}{h:Heap}{mg:Str->Option Value}{fa:Addr}{c_ONE:Addr}{tok_LOOKS_ON:Tok}(X:K.In h)(G:h.Ns mainGlobals mg)(hfa:mg "law" = some (.ref fa))
  (u_ONE:nsIn K mainGlobals "ONE" = some (some (.ref c_ONE)))
  (u_LOOKS_ON:nsIn K mainGlobals "LOOKS_ON" = some (some (.int 0 tok_LOOKS_ON)))
  (o_ONE:wX K c_ONE [1,1]=true)
  (d0:Dn K "_law_tape" TU)
  (d1:Dn K "_law_pick" sQ9)
  (d2:Dn K "_law_frac" sQ3)
  (d3:Dn K "_law_shares" JC)
  (d4:Dn K "_law_says" NL)
  (d5:Dn K "_law_sizes" TV)
  (d6:Dn K "_law_next" sQ8)
  (d7:Dn K "_law_rule" NM)
  (d8:Dn K "common_divisor" TL)
  (d9:Dn K "plus" SX)
  (d10:Dn K "is_whole" TB)
  (d11:Dn K "is_fraction" TF)
  (d12:Dn K "is_share" TD)
  (d13:Dn K "is_tuple_of" TC)
  (d14:Dn K "are_shares" NK)
  (d15:Dn K "total" SW)
  (d16:Dn K "are_parts" TN)
  (d17:Dn K "are_says" TM)
  (d18:Dn K "is_counts" NJ)
  (d19:Dn K "noughts" NH)
  (d20:Dn K "one_more" SY)
  (d21:Dn K "ones_more" NG)
  (d22:Dn K "looks_on" SZ)
  (d23:Dn K "counts_behind" TK)
  (d24:Dn K "counts_come_to" TJ)
  (d25:Dn K "is_entry" TH)
  (d26:Dn K "is_rule" JB)
  (d27:Dn K "_law_plus" TX)
  (d28:Dn K "_law_total" TR)
  (d29:Dn K "_law_whole" TQ)
  (d30:Dn K "_law_is_share" sQ7)
  (d31:Dn K "_law_is_says" sQ6)
  (d32:Dn K "_law_is_counts" sQ4)
  (d33:Dn K "_law_is_rule" YD)
  (d34:Dn K "_law_right" TW)
  (d35:Dn K "_law_bent_says" sQ2)
  (d36:Dn K "_law_bent_counts" sQ1)
  (a37:nsIn K mainGlobals "_law_bent" = some (some (.ref f37))) (l37:K.lookup f37=some ⟨oc37,od37,.func (fnOf "_law_bent" "_law_bent" (lI TY) (hJ TY) (bD TY) .none kV37 dc37 pm37 an37 (.ref cA37) ct37),sl37⟩) (c37:codeIn K (.ref cA37) "_law_bent" = true) (k37:keepIn K (.ref f37)=true) (hh37:GT K cA37 tA=true)
  (d38:Dn K "law" NI) (z0:nsIn K mainGlobals "list" = some none) (z1:nsIn K mainGlobals "len" = some none) (z2:nsIn K mainGlobals "abs" = some none) (z3:nsIn K mainGlobals "repr" = some none) (z4:nsIn K mainGlobals "range" = some none) (z5:nsIn K mainGlobals "sum" = some none) (z6:nsIn K mainGlobals "max" = some none) (z7:nsIn K mainGlobals "int" = some none) (z8:nsIn K mainGlobals "bool" = some none) (z9:nsIn K mainGlobals "sorted" = some none) (z10:nsIn K mainGlobals "dict" = some none) (z11:nsIn K mainGlobals "isinstance" = some none) (z12:nsIn K mainGlobals "all" = some none) (z13:nsIn K mainGlobals "tuple" = some none) :
  ∃fd:FuncData,(∀(s:Shared) (v:Value),BindsTo s fd ⟨[v],[]⟩ [("_law_script",v)])/\∀base:Heap,K.In base->base.Ns mainGlobals mg->BM mg base->dP l.prog w K mg base dM 10 fa fd ["_law_script"] (mP K tA):=by
 obtain ⟨a38,l38,c38,k38⟩:=d38;have e:=hfa.symm.trans (mg_of X G a38);cases e;generalize hcl:(⟨c_ONE,tok_LOOKS_ON⟩:Cl)=c;have T:kR K mg c:=by rw [<-hcl];exact ⟨mg_none_of X G z0,mg_none_of X G z1,mg_none_of X G z2,mg_none_of X G z3,mg_none_of X G z4,mg_none_of X G z5,mg_none_of X G z6,mg_none_of X G z7,mg_none_of X G z8,mg_none_of X G z9,mg_none_of X G z10,mg_none_of X G z11,mg_none_of X G z12,mg_none_of X G z13,mg_of X G u_ONE,mg_of X G u_LOOKS_ON,o_ONE⟩
 have F38:=wZ (st:=NI) l38 c38 k38;refine WE F38 _ ⟨λs v=>.of_eq rfl,λbase _ _ hbm=>?_⟩;have N:=@fnd l w K h mg X G base;have GQ16:=N d0 λF=>aA6 F T;have GQ9:=N d1 λF=>oQ9 F T;have GQ3:=N d2 λF=>oQ3 F T;have GQ14:=N d3 λF=>aA8 F T GQ9 GQ3;have GQ13:=N d4 λF=>aA9 F T GQ9 GQ14;have GQ15:=N d5 λF=>aA7 F T GQ9;have GQ8:=N d6 λF=>oQ8 F T;have GQ12:=N d7 λF=>aBa F T GQ13 GQ8;have GQ22:=N d8 λF=>aA0 F T;have GQ37:=N d9 λF=>aAL F T GQ22;have GQ31:=N d10 λF=>aAR F T;have GQ27:=N d11 λF=>aAV F T GQ31 GQ22;have GQ29:=N d12 λF=>aAT F T GQ27;have GQ30:=N d13 λF=>aAS F T;have GQ21:=N d14 λF=>aA1 F T GQ30 GQ29;have GQ38:=N d15 λF=>aAK F T GQ37;have GQ19:=N d16 λF=>aA3 F T GQ21 GQ38;have GQ20:=N d17 λF=>aA2 F T GQ19;have GQ25:=N d18 λF=>aAX F T GQ30 GQ31;have GQ34:=N d19 λF=>aAO F T;have GQ35:=N d20 λF=>aAN F T;have GQ36:=N d21 λF=>aAM F T GQ35;have GQ33:=N d22 λF=>aAP F T;have GQ23:=N d23 λF=>aAZ F T GQ33 GQ36;have GQ24:=N d24 λF=>aAY F T GQ34 GQ23;have GQ26:=N d25 λF=>aAW F T GQ30 GQ25 GQ20;have GQ28:=N d26 λF=>aAU F T GQ26 GQ24;have GQ10:=N d27 λF=>aBc F T GQ3;have GQ17:=N d28 λF=>aA5 F T GQ10;have GQ18:=N d29 λF=>aA4 F T;have GQ7:=N d30 λF=>oQ7 F T GQ18 GQ3;have GQ6:=N d31 λF=>oQ6 F T GQ7 GQ17;have GQ4:=N d32 λF=>oQ4 F T GQ18;have GQ5:=N d33 λF=>oQ5 F T GQ4 GQ6 GQ8;have GQ11:=N d34 λF=>aBb F T GQ28 GQ5;have GQ2:=N d35 λF=>oQ2 F T GQ9;have GQ1:=N d36 λF=>oQ1 F T GQ9
 have F37:=wZ (st:=TY) l37 c37 k37;have b37:=F37.binds (ps:=["_law_tape_here","_law_rule_here","_law_ways"]) λ_ _ _ _ _ _ us hl=>by obtain ⟨_,_,_,rfl⟩:=ZG hl;rfl
 have GQ0:=fnc l w X G base a37 k37 b37 (oQ0 F37 T rfl hh37 hbm GQ9 GQ2 GQ1);exact aAQ F38 T GQ16 GQ15 GQ12 GQ9 GQ28 GQ11 GQ0
end Kw
namespace PySem.W.Fast
def tw6248614872656356607 := ()
def tw14775518893090170378 := ()
def tw13359998787537032282 := ()
def tw7796259914578549719 := ()
def tw10202973396691411059 := ()
def tw16634352779874693074 := ()
def tw14571933464956983941 := ()
def tw6313531601940286338 := ()
def tw7598783722782066256 := ()
def tw17846693555601760446 := ()
def tw5295811920969187551 := ()
def tw10942364927619622739 := ()
def tw13379231285893644937 := ()
def tw8528570272819315688 := ()
def tw5856121679827749106 := ()
def tw5788764542639178123 := ()
def tw17385481026770129804 := ()
def tw7739779437137181592 := ()
def tw2864617465438183668 := ()
def tw13448342063058326992 := ()
def tw2040777217784549513 := ()
def tw1686665291183142385 := ()
end PySem.W.Fast
open PySem PySem.W PyProof.Rows
set_option maxRecDepth 100000 in
set_option maxHeartbeats 0 in
theorem PySem.Challenge.cw_earlystop_k19_what_is_a_rule_holds : PySem.Challenge.rw_earlystop_k19_what_is_a_rule.Holds := by
  w_on;o_law;k_head;(case hw=>w_witness2)
  k_fill
  refine L2.IJ (l:=PySem.Challenge.rw_earlystop_k19_what_is_a_rule) (n:=63) (k:=10) (x := "_law_script") (CX:=L2.dM) (tabs:=λ_=>[(247,245)]) (sp:=λK tabs=>Kw.spT K tabs) ["_law_bent"] rfl Dd rfl ⟨rfl,Dd,Dd,rfl⟩ (λw h Y=>PySem.W.km_in_of Y) (λy hy=>by rw [aP.mp hy];exact Option.isSome_iff_exists.mp (by kernel_rfl)) (λw=>by kernel_rfl) (λw t ht=>by rw [aP.mp ht];kernel_rfl) ?F (λK tabs H a ns hl hO hS=>Kw.YC hS hl hO) (λ_ _ _ _ z=>z)
  case F =>
    intro w mg fa h KX G hmg
    refine' Kw.WU KX G hmg ?u_ONE ?u_LOOKS_ON ?o_ONE ?d0 ?d1 ?d2 ?d3 ?d4 ?d5 ?d6 ?d7 ?d8 ?d9 ?d10 ?d11 ?d12 ?d13 ?d14 ?d15 ?d16 ?d17 ?d18 ?d19 ?d20 ?d21 ?d22 ?d23 ?d24 ?d25 ?d26 ?d27 ?d28 ?d29 ?d30 ?d31 ?d32 ?d33 ?d34 ?d35 ?d36 ?a37 ?l37 ?c37 ?k37 ?hh37 ?d38 ?z0 ?z1 ?z2 ?z3 ?z4 ?z5 ?z6 ?z7 ?z8 ?z9 ?z10 ?z11 ?z12 ?z13
    (case u_ONE|u_LOOKS_ON|a37|l37|c37|k37|z0|z1|z2|z3|z4|z5|z6|z7|z8|z9|z10|z11|z12|z13=>k_is);(case d0|d1|d2|d3|d4|d5|d6|d7|d8|d9|d10|d11|d12|d13|d14|d15|d16|d17|d18|d19|d20|d21|d22|d23|d24|d25|d26|d27|d28|d29|d30|d31|d32|d33|d34|d35|d36|d38=>refine' Kw.Dn.mk ?a ?l ?c ?k;(case a=>k_is);(case l=>k_is);(case c=>k_is);(case k=>k_is));(case o_ONE=>kernel_rfl);(case hh37=>kernel_rfl)
