import PyProof.Rows.All
import Wide.All
import OpenK.AllK
import Wide.FinOn
import Lean
import PyProof.EqAt
import PyProof.EqKinds
import PyProof.TupleCall
import KE.IntBitsLaws
import PyProof.ZipIter
import KE.KRevIter
import PyProof.ListMulRoad
import PyProof.AutoListH
import PyProof.Rows.SeqMore
import PyProof.Rows.SumAny
import PyProof.SliceStr2
import PyProof.WalksMore
import KE.KSortTup
import PyProof.AttrMissHeap
import PyProof.TupleIter
import KE.KDictOf
import PyProof.DictWalks
import PyProof.DictValues
import KE.KDictList
import PyProof.Rows.MinMaxN
import PyProof.Rows.TupDisplay
import PyProof.DictTruth
import PyProof.Rows.SortRev
import PyProof.Rows.CallKwBuiltin
import PyProof.ListRange
import PySem.Challenge.RW_earlystop_k48_whole_no_plain_rule_is_che
set_option Elab.async false
set_option linter.all false
set_option maxHeartbeats 0
set_option maxRecDepth 100000
theorem Oo{p:Prop}(h:p:=by omega):p:=h
theorem Dd{p:Prop}(h:p:=by decide):p:=h
theorem Kk{p:Prop}(h:p:=by decide +kernel):p:=h
namespace PySem
abbrev aA:=@List.length_map
abbrev aB:=@List.getElem?_eq_getElem
abbrev aE:=@Heap.get?_push_of_some
abbrev aF:=@List.mem_of_getElem?
abbrev aI:=@List.getElem?_eq_some_iff
abbrev aJ:=@Nat.pow_le_pow_right
abbrev aK:=@Nat.le_trans
abbrev aL:=@Nat.le_refl
abbrev aN:=@List.getElem?_map
abbrev aP:=@List.length_append
abbrev aQ:=@List.mem_map
abbrev aS:=@List.mem_cons_of_mem
abbrev aV:=@Nat.lt_of_lt_of_le
abbrev aW:=@List.mem_cons_self
abbrev aY:=@List.mem_singleton
abbrev aZ:=@Heap.lt_size
abbrev bA:=@Nat.lt_of_le_of_lt
abbrev bB:=@Heap.get?_push_size
abbrev bC:=@List.size_toArray
abbrev bD:=@List.length_range
abbrev bE:=@List.map_append
abbrev bF:=@List.mem_cons
abbrev bI:=@List.mem_append_right
abbrev bL:=@List.map_cons
abbrev bM:=@List.getD_eq_getElem?_getD
abbrev bN:=@Bool.false_ne_true
abbrev bQ:=@List.length_cons
abbrev bT:=@Nat.mul_le_mul_right
abbrev bU:=@List.mem_range
abbrev bY:=@Nat.lt_irrefl
abbrev bZ:=@List.mem_append_left
abbrev cC:=@Nat.dvd_trans
abbrev cE:=@List.mem_append
abbrev cF:=@Classical.byContradiction
abbrev cG:=@Nat.zero_le
abbrev cI:=@List.getElem?_append_right
abbrev cK:=@List.getElem?_range
abbrev cM:=@List.getElem?_append_left
abbrev cN:=@List.take_length
abbrev cO:=@decide_eq_false
abbrev cP:=@decide_eq_true
abbrev cR:=@Nat.ne_of_lt
abbrev dF:=@List.getElem?_eq_none
abbrev dL:=@Bool.and_eq_true
abbrev eL:=@Option.map_eq_some_iff
abbrev eP:=@List.take_add_one
abbrev eT:=@List.mem_iff_getElem?
abbrev eV:=@List.length_replicate
abbrev eX:=@Int.natAbs_mul
abbrev fA:=@List.length_take
abbrev fJ:=@Nat.dvd_mul_right
abbrev gD:=@List.map_congr_left
abbrev gU:=@Heap.size_push
abbrev hZ:=@Option.some.inj
abbrev iA:=@List.mem_filter
abbrev iU:=@Nat.mul_le_mul_left
abbrev jU:=@Nat.le_of_dvd
abbrev mQ:=@Nat.mul_pos
end PySem
open PySem
namespace L2
open PySem PySem.Spec PyProof.Rows
abbrev eO:=Sum Int Str
def zN:eO->Value->Bool
 | .inl k,v=>Value.isInt k v
 | .inr x,v=>Value.isStrOf x v
def aBZ(w:World):eO->Int
 | .inl k=>hashInt k
 | .inr x=>hashStr w x
theorem gA:∀{k:eO}{v:Value},zN k v=true->(∃i t,k=Sum.inl i/\v=Value.int i t)\/(∃x t,k=Sum.inr x/\v=Value.str x t)
 | .inl i,v,h=>by
  obtain ⟨t,e⟩:=Value.isInt_shape (k:=i) (v:=v) h;exact .inl ⟨i,t,rfl,e⟩
 | .inr x,v,h=>by
  obtain ⟨t,e⟩:=Value.isStrOf_shape (x:=x) (v:=v) h;exact .inr ⟨x,t,rfl,e⟩
theorem LG(i:Int)(t:Tok):zN (.inl i) (.int i t)=true:=by simp [zN,Value.isInt]
theorem LF(x:Str)(t:Tok):zN (.inr x) (.str x t)=true:=by simp [zN,Value.isStrOf]
theorem aAJ(a b:Int):decide ((Sum.inl a:eO)=Sum.inl b)=(a == b):=by
 by_cases e:a=b
 ·subst e;simp
 ·have h:¬(Sum.inl a:eO)=Sum.inl b:=λq=>e (Sum.inl.inj q);rw [cO h];exact (beq_eq_false_iff_ne.mpr e).symm
theorem aAG(a b:Str):decide ((Sum.inr a:eO)=Sum.inr b)=decide (a=b):=by
 by_cases e:a=b
 ·subst e;simp
 ·have h:¬(Sum.inr a:eO)=Sum.inr b:=λq=>e (Sum.inr.inj q);rw [cO h,cO e]
theorem aAI(a:Int)(b:Str):decide ((Sum.inl a:eO)=Sum.inr b)=false:=cO (λq=>nomatch q)
theorem aAH(a:Str)(b:Int):decide ((Sum.inr a:eO)=Sum.inl b)=false:=cO (λq=>nomatch q)
def dE(prog:Program)(w:World):PySem.KeyKind prog w eO where
 is:=zN
 hash:=aBZ w
 inj:=λv a b ha hb=>by
  rcases gA ha with ⟨i,t,rfl,rfl⟩ | ⟨x,t,rfl,rfl⟩
  ·rcases gA hb with ⟨j,u,rfl,e⟩ | ⟨y,u,rfl,e⟩
   ·injection e with e1 _;rw [e1]
   ·exact nomatch e
  ·rcases gA hb with ⟨j,u,rfl,e⟩ | ⟨y,u,rfl,e⟩
   ·exact nomatch e
   ·injection e with e1 _;rw [e1]
 byValue:=λk v h=>by
  rcases gA h with ⟨i,t,rfl,rfl⟩ | ⟨x,t,rfl,rfl⟩ <;> rfl
 pyHash:=λhv h=>by
  rcases gA hv with ⟨i,t,rfl,rfl⟩ | ⟨x,t,rfl,rfl⟩
  ·exact wpAny_pyHash_int h
  ·exact wpAny_pyHash_str h
 eqBool:=λhu hv h=>by
  rcases gA hu with ⟨i,t,rfl,rfl⟩ | ⟨x,t,rfl,rfl⟩
  ·rcases gA hv with ⟨j,u,rfl,rfl⟩ | ⟨y,u,rfl,rfl⟩
   ·rw [aAJ] at h;exact wpAny_eqBool_int h
   ·rw [aAI] at h;exact SeqAt.EqAt.int_str i t y u _ _ _ _ h
  ·rcases gA hv with ⟨j,u,rfl,rfl⟩ | ⟨y,u,rfl,rfl⟩
   ·rw [aAH] at h;exact SeqAt.EqAt.str_int x t j u _ _ _ _ h
   ·rw [aAG] at h;exact wpAny_eqBool_str h
 «strs» := λk x t v h=>by
  rcases gA h with ⟨i,u,rfl,e⟩ | ⟨y,u,rfl,e⟩
  ·exact nomatch e
  ·injection e with e1 _;subst e1;cases v <;> rfl
theorem DL(prog:Program)(w:World)(i:Int)(t:Tok):(dE prog w).is (.inl i) (.int i t)=true:=LG i t
theorem DK(prog:Program)(w:World)(x:Str)(t:Tok):(dE prog w).is (.inr x) (.str x t)=true:=LF x t
inductive V where
 | non | bl (b:Bool) | int (i:Int) | str (x:Str) | byt (b:Array UInt8) | flt (b:UInt64) | ref (a:Addr) | ty (n:String)
 deriving DecidableEq
def eB:V->Value->Prop
 | .non,u=>u=Value.none
 | .bl b,u=>u=Value.bool b
 | .int i,u=>∃t,u=Value.int i t
 | .str x,u=>∃t,u=Value.str x t
 | .byt b,u=>∃t,u=Value.bytes b t
 | .flt b,u=>∃t,u=Value.float b t
 | .ref a,u=>u=Value.ref a
 | .ty n,u=>u=Value.type n
abbrev dI:List V->List Value->Prop:=Paired eB
theorem dI.length{xs:List V}{us:List Value}(r:dI xs us):xs.length=us.length:=Paired.length r
theorem dI.get:∀{xs:List V}{us:List Value}{i:Nat}{x:V},dI xs us->xs[i]?=some x->∃u,us[i]?=some u/\eB x u
 | _,_,_,_,.nil,e=>by simp at e
 | _,_,0,_,.cons r _,e=>by simp at e;subst e;exact ⟨_,rfl,r⟩
 | _,_,i+1,x,.cons _ t,e=>by
  obtain ⟨u,h1,h2⟩:=dI.get (i:=i) (x:=x) t (by simpa using e);exact ⟨u,by simpa using h1,h2⟩
theorem dI.append:∀{xs ys:List V}{us ws:List Value},dI xs us->dI ys ws->dI (xs++ys) (us++ws)
 | _,_,_,_,.nil,s=>s
 | _,_,_,_,.cons r t,s=>.cons r (dI.append t s)
theorem dI.take:∀{xs:List V}{us:List Value}(n:Nat),dI xs us->dI (xs.take n) (us.take n)
 | _,_,0,_=>.nil
 | _,_,_+1,.nil=>.nil
 | _,_,n+1,.cons r t=>.cons r (dI.take n t)
theorem dI.drop:∀{xs:List V}{us:List Value}(n:Nat),dI xs us->dI (xs.drop n) (us.drop n)
 | _,_,0,r=>r
 | _,_,_+1,.nil=>.nil
 | _,_,n+1,.cons _ t=>dI.drop n t
def sD:Option V->Option Value->Prop
 | some v,some u=>eB v u
 | none,none=>True
 | _,_=>False
def KV{κ:Type}:List (κ × V)->List (κ × Value)->Prop:=Paired λ(p:κ × V) (q:κ × Value)=>p.1=q.1/\eB p.2 q.2
def kV:eO->V
 | .inl i=>.int i
 | .inr x=>.str x
inductive HO where
 /-- a list -/
 | lst (xs:List V)
 /-- a tuple (never changes) -/
 | tup (xs:List V)
 /-- a dict whose keys are ints and texts;one whose keys are tuples of ints and texts (the empty one is both) -/
 | dK (kvs:List (eO × V)) | dT (kvs:List (List eO × V))
 /-- a set of ints: its members,its size -/
 | set (S:Int->Bool) (n:Nat)
 /-- an instance of the class at C,its dict at dx,its attributes -/
 | ins (C dx:Addr) (fs:List (Str × V))
 /-- the dict of the instance at x -/
 | own (x:Addr)
 /-- the dict of an exception -/
 | xd (fs:List (Str × V))
 /-- a bound method,f of x -/
 | met (f x:Addr)
 /-- a range object lo,lo+1,.. below hi -/
 | rng (lo hi:Int)
 /-- a thing that is known to the object (the script;a dict while a loop walks it): read,never written while it is so -/
 | frz (o:Obj) (u:HO)
 /-- a code object's table -/
 | tbl (ps:Array Value)
 /-- any other thing,by what is true of its one object (a def of one's own: SetO a S n:=HO.ext λh=>..) -/
 | ext (φ:Heap->Prop)
abbrev Hp:=Addr->Option HO
def upd(H:Hp)(a:Addr)(o:HO):Hp:=λb=>if b=a then some o else H b
theorem bK{H:Hp}{a:Addr}{o:HO}:upd H a o a=some o:=by unfold upd;rw [if_pos rfl]
theorem dB{H:Hp}{a b:Addr}{o:HO}(h:b≠a):upd H a o b=H b:=by unfold upd;rw [if_neg h]
theorem SB{H:Hp}{a:Addr}{o u:HO}:upd (upd H a o) a u=upd H a u:=by
 funext b;unfold upd;split <;> rfl
theorem oC{H:Hp}{a b:Addr}{o u:HO}(h:H a=some o)(h':H b=some u)(d:o≠u):a≠b:=by
 intro e;subst e;rw [h] at h';exact d (hZ h')
theorem cQ{H:Hp}{a b:Addr}{o:HO}(h:H a=some o)(h':H b=none):a≠b:=by
 intro e;subst e;rw [h] at h';cases h'
section
variable(P:Program)(w:World)
def fO(H:Hp)(h:Heap)(a:Addr):HO->Prop
 | .lst xs=>xs.length<=sizeLine/\∃(its:List Value) (n:Nat),dI xs its/\h.get? a=some { cls:=.type "list",data:=.seq its.toArray n }
 | .tup xs=>(xs.length<=sizeLine/\∃o,h.get? a=some o/\o.dict=none)/\∃its:List Value,dI xs its/\IsTup h a its.toArray
 | .dK kvs=>kvs.length<=sizeLine/\(a == sysModules)=false/\∃vs,KV kvs vs/\h.DictOf (dE P w) a vs
 | .dT kvs=>kvs.length<=sizeLine/\(a == sysModules)=false/\∃xs:List (List eO × Addr × Value),
   Paired (λ(p:List eO × V) (q:List eO × Addr × Value)=>p.1=q.1/\H q.2.1=some (.tup (p.1.map kV))/\eB p.2 q.2.2) kvs xs /\
   ∃o es ep,h.get? a=some o/\o.ExactDict/\o.data=.dict es ep/\es.toList=xs.map (entryOfKey (tupleKind (dE P w)))/\(xs.map (·.1)).Nodup
 | .set S n=>h.SetOf (intKind P w) a S n
 | .ins C dx fs=>H dx=some (.own a)/\fs.length<=1000/\dx≠a/\h.get? a=some (PySem.W.instObj C dx) /\
   ∃mA,h.Ns1 dx mA/\(∀f,sD (fs.lookup f) (mA f))/\PySem.Within mA (fs.map (·.1))
 | .own _=>∃o,h.get? a=some o
 | .xd fs=>∃mA,h.Ns1 a mA/\∀f,sD (fs.lookup f) (mA f)
 | .rng lo hi=>∃t u v,h.get? a=some { cls:=.type "range",data:=.fields #[.int lo t,.int hi u,.int 1 v] }
 | .frz o u=>h.get? a=some o/\fO H h a u
 | .tbl ps=>h.get? a=some { cls:=.none,data:=.fields ps }
 | .met f x=>h.get? a=some (PySem.W.methodObj (.ref f) (.ref x))
 | .ext φ=>φ h/\(∃o,h.get? a=some o)/\∀h1 h2:Heap,φ h1->(∀o,h1.get? a=some o->h2.get? a=some o)->φ h2
def pO(H:Hp)(h:Heap):Prop:=∀a o,H a=some o->fO P w H h a o
end
section
variable{P:Program}{w:World}{H H':Hp}{h h':Heap}{a:Addr}{o:HO}
theorem fO.lt(x:fO P w H h a o):a<h.objs.size:=by
 cases o with
 | lst xs=>obtain ⟨_,_,_,_,e⟩:=x;exact aZ e
 | tup xs=>obtain ⟨_,_,_,p⟩:=x;exact p.lt
 | dK kvs=>obtain ⟨_,_,_,_,o,_,_,e,_⟩:=x;exact aZ e
 | dT kvs=>obtain ⟨_,_,_,_,o,_,_,e,_⟩:=x;exact aZ e
 | set S n=>obtain ⟨o,_,_,_,e,_⟩:=x;exact aZ e
 | ins C dx fs=>obtain ⟨_,_,_,e,_⟩:=x;exact aZ e
 | own y=>obtain ⟨_,e⟩:=x;exact aZ e
 | xd fs=>obtain ⟨_,⟨_,_,_,e,_⟩,_⟩:=x;exact aZ e
 | rng lo hi=>obtain ⟨_,_,_,e⟩:=x;exact aZ e
 | frz ob u=>obtain ⟨e,_⟩:=x;exact aZ e
 | tbl ps=>exact aZ (show h.get? a=some _ from x)
 | met f y=>exact aZ (show h.get? a=some _ from x)
 | ext φ=>obtain ⟨_,⟨_,e⟩,_⟩:=x;exact aZ e
theorem Paired.mapP{α β:Type}{F G:α->β->Prop}:∀{l₁:List α}{l₂:List β},Paired F l₁ l₂->(∀a b,F a b->G a b)->Paired G l₁ l₂
 | _,_,.nil,_=>.nil
 | _,_,.cons r t,f=>.cons (f _ _ r) (Paired.mapP t f)
theorem Paired.imp'{α β:Type}{F G:α->β->Prop}(f:∀a b,F a b->G a b){l₁:List α}{l₂:List β}(r:Paired F l₁ l₂):Paired G l₁ l₂:=Paired.mapP r f
theorem fO.stay(x:fO P w H h a o)(k:∀b u,(b=a\/H b=some (.own a))->h.get? b=some u->h'.get? b=some u)
  (ho:∀b,H b=some (.own a)->H' b=some (.own a)) (ht:∀b xs,H b=some (.tup xs)->H' b=some (.tup xs)):fO P w H' h' a o:=by
 induction o with
 | lst xs=>obtain ⟨z,its,n,r,e⟩:=x;exact ⟨z,its,n,r,k _ _ (.inl rfl) e⟩
 | tup xs=>obtain ⟨⟨z,on,en,dn⟩,its,r,ob,e,c⟩:=x;exact ⟨⟨z,on,k _ _ (.inl rfl) en,dn⟩,its,r,ob,k _ _ (.inl rfl) e,c⟩
 | dK kvs=>obtain ⟨z,y,vs,r,ob,es,ep,e,c⟩:=x;exact ⟨z,y,vs,r,ob,es,ep,k _ _ (.inl rfl) e,c⟩
 | dT kvs =>
  obtain ⟨z,y,xs,r,ob,es,ep,e,c⟩:=x;exact ⟨z,y,xs,Paired.mapP r λp q z=>⟨z.1,ht _ _ z.2.1,z.2.2⟩,ob,es,ep,k _ _ (.inl rfl) e,c⟩
 | set S n=>obtain ⟨ob,es,ep,t,e,c⟩:=x;exact ⟨ob,es,ep,t,k _ _ (.inl rfl) e,c⟩
 | ins C dx fs =>
  obtain ⟨d,z,ne,e,mA,⟨od,es,ep,e2,c⟩,r⟩:=x;exact ⟨ho _ d,z,ne,k _ _ (.inl rfl) e,mA,⟨od,es,ep,k _ _ (.inr d) e2,c⟩,r⟩
 | own y=>obtain ⟨ob,e⟩:=x;exact ⟨ob,k _ _ (.inl rfl) e⟩
 | xd fs=>obtain ⟨mA,⟨od,es,ep,e,c⟩,r⟩:=x;exact ⟨mA,⟨od,es,ep,k _ _ (.inl rfl) e,c⟩,r⟩
 | rng lo hi=>obtain ⟨t,u,v,e⟩:=x;exact ⟨t,u,v,k _ _ (.inl rfl) e⟩
 | frz ob u ih=>obtain ⟨e,q⟩:=x;exact ⟨k _ _ (.inl rfl) e,ih q⟩
 | tbl ps =>
  have e:h.get? a=some { cls:=.none,data:=.fields ps }:=x;show h'.get? a=some { cls:=.none,data:=.fields ps };exact k a _ (.inl rfl) e
 | met f y =>
  have e:h.get? a=some (PySem.W.methodObj (.ref f) (.ref y)):=x;show h'.get? a=some (PySem.W.methodObj (.ref f) (.ref y));exact k a _ (.inl rfl) e
 | ext φ=>obtain ⟨p,⟨o,e⟩,st⟩:=x;exact ⟨st _ _ p λo q=>k _ _ (.inl rfl) q,⟨o,k _ _ (.inl rfl) e⟩,st⟩
theorem pO.lt(x:pO P w H h)(e:H a=some o):a<h.objs.size:=(x a o e).lt
theorem pO.fresh(x:pO P w H h)(e:h.objs.size<=a):H a=none:=by
 cases q:H a with
 | none=>rfl
 | some u=>exact absurd (aV (x.lt q) e) (bY _)
theorem pO.kept(x:pO P w H h)(k:∀b u,h.get? b=some u->h'.get? b=some u):pO P w H h':=λa o e =>
 (x a o e).stay (λb u _ q=>k b u q) (λ_ q=>q) λ_ _ q=>q
theorem pO.laid(x:pO P w H h)(k:∀b u,h.get? b=some u->h'.get? b=some u)(hp:h.objs.size<=a)(new:fO P w (upd H a o) h' a o):pO P w (upd H a o) h':=λb u e=>by
 have hn:=x.fresh hp;by_cases hb:b=a
 ·subst hb;rw [bK] at e;cases e;exact new
 ·rw [dB hb] at e;exact (x b u e).stay (λc v _ q=>k c v q) (λc q=>by rw [dB (cQ q hn)];exact q) λc xs q=>by rw [dB (cQ q hn)];exact q
end
def Rd(H:Hp)(a:Addr)(u:HO):Prop:=H a=some u\/∃o,H a=some (.frz o u)
theorem Rd.ok{P:Program}{w:World}{H:Hp}{h:Heap}{a:Addr}{u:HO}(r:Rd H a u)(x:pO P w H h):fO P w H h a u:=by
 rcases r with r | ⟨o,r⟩
 ·exact x a u r
 ·obtain ⟨_,q⟩:=x a _ r;exact q
def Mut:Option HO->Prop
 | some (.lst _)=>True
 | some (.dK _)=>True
 | some (.dT _)=>True
 | some (.set _ _)=>True
 | some (.ins _ _ _)=>True
 | some (.ext _)=>True
 | _=>False
section
variable{P:Program}{w:World}{H:Hp}{h h':Heap}{x e:Addr}{o':HO}
theorem pO.write(ok:pO P w H h)(mu:Mut (H x))(he:e=x\/H e=some (.own x))(k:∀b u,b≠e->h.get? b=some u->h'.get? b=some u)(heo:∃u,h'.get? e=some u)
  (new:fO P w (upd H x o') h' x o'):pO P w (upd H x o') h':=λb u q=>by
 have nown:∀c y,H c=some (.own y)->c≠x:=λc y r z=>by subst z;rw [r] at mu;exact mu
 have ntup:∀c xs,H c=some (.tup xs)->c≠x:=λc xs r z=>by subst z;rw [r] at mu;exact mu
 by_cases hb:b=x
 ·subst hb;rw [bK] at q;cases q;exact new
 ·rw [dB hb] at q;by_cases hbe:b=e
  ·have q':H b=some (.own x):=by
    rcases he with z | z
    ·exact absurd (hbe.trans z) hb
    ·rw [hbe];exact z
   rw [q] at q';cases q';obtain ⟨v,hv⟩:=heo;exact ⟨v,by rw [hbe];exact hv⟩
  ·refine (ok b u q).stay (λc v hc r=>k c v ?_ r) (λc r=>by rw [dB (nown c b r)];exact r) λc xs r=>by rw [dB (ntup c xs r)];exact r
   rcases hc with rfl | hc
   ·exact hbe
   ·rintro rfl;rcases he with z | z
    ·exact nown c b hc z
    ·rw [hc] at z;cases z;exact hb rfl
end
structure Un(fs ex:List Addr)(H H':Hp)(h h':Heap):Prop where
 keep:∀b o,h.get? b=some o->H b=none->b ∉ fs->b ∉ ex->h'.get? b=some o
 slot:∀b o,h.get? b=some o->H b=none->b∈fs->b ∉ ex->∃sl,h'.get? b=some { o with slots:=sl }
 free:∀b o,h.get? b=some o->H b=none->b ∉ ex->H' b=none
 there:∀b o,h.get? b=some o->b ∉ ex->∃o',h'.get? b=some o'
 tups:∀b xs,H b=some (.tup xs)->H' b=some (.tup xs)
 frzs:∀b o u,H b=some (.frz o u)->H' b=some (.frz o u)
 tbls:∀b ps,H b=some (.tbl ps)->∃more,H' b=some (.tbl (ps++more))
section
variable{fs fs' ex ex':List Addr}{H H1 H2:Hp}{h h1 h2 h':Heap}{a x e:Addr}{o:HO}
theorem Un.any(u:Un fs ex H H1 h h1){b:Addr}{ob:Obj}(q:h.get? b=some ob)(n:H b=none)(hx:b ∉ ex):∃sl,h1.get? b=some { ob with slots:=sl }:=by
 by_cases hb:b∈fs
 ·exact u.slot b ob q n hb hx
 ·exact ⟨ob.slots,u.keep b ob q n hb hx⟩
theorem Un.kept(k:∀b u,h.get? b=some u->h'.get? b=some u):Un fs ex H H h h' :=
 ⟨λb ob q _ _ _=>k b ob q,λb ob q _ _ _=>⟨ob.slots,k b ob q⟩,λ_ _ _ n _=>n,λb ob q _=>⟨ob,k b ob q⟩,λ_ _ q=>q,λ_ _ _ q=>q,λ_ ps q=>⟨#[],by rw [q];simp⟩⟩
theorem Un.refl:Un fs ex H H h h:=Un.kept λ_ _ q=>q
theorem Un.laid(k:∀b u,h.get? b=some u->h'.get? b=some u)(hp:h.objs.size<=a)(hn:H a=none):Un fs ex H (upd H a o) h h' where
 keep:=λb u q _ _ _=>k b u q
 slot:=λb u q _ _ _=>⟨u.slots,k b u q⟩
 free:=λb u q n _=>by rw [dB (cR (aV (aZ q) hp))];exact n
 there:=λb u q _=>⟨u,k b u q⟩
 tups:=λb xs q=>by rw [dB (cQ q hn)];exact q
 frzs:=λb u xs q=>by rw [dB (cQ q hn)];exact q
 tbls:=λb ps q=>⟨#[],by rw [dB (cQ q hn),q];simp⟩
theorem Un.write(mu:Mut (H x))(he:e=x\/H e=some (.own x))(k:∀b u,b≠e->h.get? b=some u->h'.get? b=some u)(heo:∃u,h'.get? e=some u):Un fs ex H (upd H x o) h h':=by
 have hx:∀b,H b=none->b≠x:=λb n z=>by subst z;rw [n] at mu;exact mu
 have hb:∀b,H b=none->b≠e:=λb n z=>by
  subst z;rcases he with r | r
  ·exact hx b n r
  ·rw [n] at r;cases r
 have hm:∀b u,H b=some u->¬Mut (some u)->b≠x:=λb u q nm z=>by subst z;rw [q] at mu;exact nm mu
 refine ⟨λb u q n _ _=>k b u (hb b n) q,λb u q n _ _=>⟨u.slots,k b u (hb b n) q⟩,λb u q n _=>by rw [dB (hx b n)];exact n,λb u q _=>?_,
  λb xs q=>by rw [dB (hm b _ q λz=>z)];exact q,λb u xs q=>by rw [dB (hm b _ q λz=>z)];exact q,λb ps q=>⟨#[],by rw [dB (hm b _ q λz=>z),q];simp⟩⟩
 by_cases hbe:b=e
 ·subst hbe;exact heo
 ·exact ⟨u,k b u hbe q⟩
end
def trk(h:Heap)(H:Hp):List Addr:=(List.range h.objs.size).filter λa=>(H a).isSome
def BL(h:Heap)(H:Hp):Heap:=PySem.W.hideAll h (trk h H)
theorem LI(h:Heap)(H:Hp):(BL h H).objs.size=h.objs.size:=PySem.W.hideAll_size _ _
theorem PX{h:Heap}{H:Hp}{b:Addr}{o:Obj}(e:h.get? b=some o)(n:H b=none):(BL h H).get? b=some o :=
 PySem.W.hideAll_get _ e λhm=>by
  have q:(H b).isSome=true:=(iA.mp hm).2;rw [n] at q;simp at q
theorem US{h:Heap}{H:Hp}{b:Addr}{o:Obj}(e:(BL h H).get? b=some o):h.get? b=some o/\H b=none:=by
 have e':h.get? b=some o:=PySem.W.of_hideAll (trk h H) e;refine ⟨e',?_⟩;cases q:H b with
 | none=>rfl
 | some x =>
  have hm:b∈trk h H:=iA.mpr ⟨bU.mpr (aZ e'),by simp [q]⟩;have z:(BL h H).get? b=none:=PySem.W.hideAll_none (trk h H) hm;rw [z] at e;cases e
structure Mod(K:PySem.W.Frag)(mg:Str->Option Value)(base:Heap):Prop where
 kin:K.In base
 glob:base.Ns mainGlobals mg
 blt:∃mb,base.Ns builtinsNs mb/\∀x:Str,x ≠ "__name__" -> mb x=bootBuiltins x
 nolimit:base.NoLimit
/-- the context: a def's body (or a comprehension's block) running. base: fixed through the whole law;s₀,H₀: the entry;outer: the frames whose slots others may change (a def's callers);stack: all frames that run;
   ex: iterators that were made ahead of the entry and are walked here (a comprehension's);fn: the names whose cells were made at the entry (a def: all;a comprehension's block: its own);calm: not within an except suite;pn: pins that every state bears;xe: what is wanted of an exception that leaves the code -/
structure Cx where
 prog:Program
 w:World
 K:PySem.W.Frag
 mg:Str->Option Value
 base:Heap
 A:Around
 N:List Str
 s₀:Shared
 H₀:Hp
 env:Env
 outer:List Env
 stack:List Env
 ex:List Addr
 fn:Str->Bool
 calm:Bool
 pn:List (Addr × Obj)
 xe:Value->Shared->Prop
def frs(l:List Env):List Addr:=l.filterMap (·.frame)
abbrev Cx.fs(X:Cx):List Addr:=frs X.outer
def Vis(sc:Scope)(x:Str):Prop:=sc.names.lookup x=some .local\/sc.names.lookup x=some .cell\/sc.names.lookup x=some .free
def Loc(sc:Scope)(x:Str):Prop:=sc.names.lookup x=some .local\/sc.names.lookup x=some .cell
def aD7(env:Env)(h:Heap)(m:Str->Option Value)(x:Str)(u:Value):Prop :=
 (env.kindOf x=some .local/\m x=some u)\/((env.kindOf x=some .cell\/env.kindOf x=some .free)/\∃c,env.cells.lookup x=some c/\h.IsCell c (some u))
structure Cx.Ok(X:Cx):Prop where
 mod:Mod X.K X.mg X.base
 kind:X.env.scope.kind=.function
 glob:X.env.globals=mainGlobals
 blt:X.env.builtins=builtinsNs
 above:X.s₀.heap.objs.size<=X.env.locals
 inj:∀x y c,X.env.cells.lookup x=some c->X.env.cells.lookup y=some c->x=y
 has:∀x,(X.env.kindOf x=some .cell\/X.env.kindOf x=some .free)->∃c,X.env.cells.lookup x=some c
 cab:∀x c,X.fn x=true->X.env.cells.lookup x=some c->X.s₀.heap.objs.size<=c
 hd:X.calm=true->X.A.handled=none
 frames:X.A.frames=some X.stack
 stk:X.stack=X.outer\/(X.stack=X.env::X.outer/\X.env.frame=some X.env.locals)
 exf:∀b∈X.ex,b≠X.env.locals/\∀x c,X.env.cells.lookup x=some c->c≠b
 bs:∀b o,X.base.get? b=some o->X.s₀.heap.get? b=some o/\X.H₀ b=none
 bsz:X.base.objs.size<=X.s₀.heap.objs.size
 noex:∀b o,X.base.get? b=some o->b ∉ X.ex
 exfs:∀b∈X.ex,b ∉ X.fs
 funs:X.s₀.heap.FunFrames X.base X.outer
 frf:∀b∈X.fs,X.H₀ b=none
structure cJ(X:Cx)(pins:List (Addr × Obj))(σ:List (Option V))(H:Hp)(s:Shared):Prop where
 ok:X.Ok
 os:s.os=X.s₀.os
 bare:AllBare s.gens
 base:Un X.fs X.ex X.H₀ H X.s₀.heap s.heap
 loc:∃m,s.heap.Ns X.env.locals m/\∀(i:Nat) (x:Str) (v:V),X.N[i]?=some x->σ[i]?=some (some v)->Vis X.env.scope x->∃u,eB v u/\aD7 X.env s.heap m x u
 cell:∀x c,X.env.cells.lookup x=some c->∃v,s.heap.IsCell c v
 free:H X.env.locals=none
 freeC:∀x c,X.env.cells.lookup x=some c->H c=none
 pin:∀p∈X.pn++pins,s.heap.get? p.1=some p.2/\H p.1=none/\p.1≠X.env.locals/\p.1 ∉ X.fs/\∀v,p.2.data ≠ .cell v
 hok:pO X.prog X.w H s.heap
 len:σ.length=X.N.length
section
variable{X:Cx}{pins:List (Addr × Obj)}{σ:List (Option V)}{H H':Hp}{s:Shared}{h':Heap}
theorem Cx.Ok.nofr(ok:X.Ok){b:Addr}{o:Obj}(e:X.base.get? b=some o):b ∉ X.fs:=λhb=>by
 have:=(ok.funs.mem hb).1;rw [e] at this;cases this
theorem cJ.bs(I:cJ X pins σ H s):∀b o,X.base.get? b=some o->s.heap.get? b=some o/\H b=none:=λb o e =>
 ⟨I.base.keep b o (I.ok.bs b o e).1 (I.ok.bs b o e).2 (I.ok.nofr e) (I.ok.noex b o e),I.base.free b o (I.ok.bs b o e).1 (I.ok.bs b o e).2 (I.ok.noex b o e)⟩
theorem cJ.bk(I:cJ X pins σ H s):∀b o,X.base.get? b=some o->s.heap.get? b=some o:=λb o e=>(I.bs b o e).1
theorem cJ.mod(I:cJ X pins σ H s):Mod X.K X.mg X.base:=I.ok.mod
theorem cJ.kIn(I:cJ X pins σ H s):X.K.In s.heap:=I.ok.mod.kin.keeps I.bk
theorem cJ.lt(I:cJ X pins σ H s):X.env.locals<s.heap.objs.size:=let ⟨_,hn,_⟩:=I.loc;hn.lt
theorem cJ.sz(I:cJ X pins σ H s):X.s₀.heap.objs.size<=s.heap.objs.size:=aK I.ok.above (Nat.le_of_lt I.lt)
theorem cJ.nofs(I:cJ X pins σ H s){a:Addr}(h:s.heap.objs.size<=a):a ∉ X.fs:=λhb=>by
 obtain ⟨_,o,ho,_⟩:=I.ok.funs.mem hb;exact absurd (aV (aZ ho) (aK I.sz h)) (bY _)
theorem cJ.cne(I:cJ X pins σ H s):∀x c,X.env.cells.lookup x=some c->c≠X.env.locals:=λx c e z=>by
 obtain ⟨v,o,ho,hd⟩:=I.cell x c e;obtain ⟨m,⟨o',es,ep,ho',hd',_⟩,_⟩:=I.loc;rw [z,ho'] at ho;cases ho;rw [hd'] at hd;cases hd
theorem cJ.funs(I:cJ X pins σ H s):s.heap.FunFrames X.base X.outer:=by
 have all:∀(l:List Env),(∀b∈frs l,b∈X.fs)->X.s₀.heap.FunFrames X.base l->s.heap.FunFrames X.base l:=by
  intro l
  induction l with
  | nil=>intro _ _;trivial
  | cons env r ih =>
   intro hs hl;obtain ⟨hk,⟨L,o,hf,hn,ho,hd⟩,hr⟩:=hl;have hL:L∈X.fs:=hs L (by unfold frs;rw [List.filterMap_cons,hf];exact aW);obtain ⟨sl,e⟩:=I.base.slot L o ho (I.ok.frf L hL) hL λz=>I.ok.exfs L z hL;exact ⟨hk,⟨L,_,hf,hn,e,hd⟩,ih (λb hb=>hs b (by unfold frs;rw [List.filterMap_cons,hf];exact aS _ hb)) hr⟩
 exact all X.outer (λ_ hb=>hb) I.ok.funs
theorem cJ.stack(I:cJ X pins σ H s):s.heap.FunFrames X.base X.stack:=by
 rcases I.ok.stk with e | ⟨e,hf⟩
 ·rw [e];exact I.funs
 ·rw [e];obtain ⟨m,hn,_⟩:=I.loc;refine .cons (by rw [I.ok.kind];decide) hf hn ?_ I.funs;exact Heap.get?_none_of_le (aK I.ok.bsz I.ok.above)
theorem cJ.stkSub(I:cJ X pins σ H s):∀b∈frs X.stack,b∈X.env.locals::X.fs:=λb hb=>by
 rcases I.ok.stk with e | ⟨e,hf⟩
 ·rw [e] at hb;exact aS _ hb
 ·rw [e] at hb;unfold frs at hb;rw [List.filterMap_cons,hf] at hb;exact hb
theorem cJ.stkFree(I:cJ X pins σ H s):∀b∈frs X.stack,H b=none:=λb hb=>by
 rcases bF.mp (I.stkSub b hb) with e | hb
 ·rw [e];exact I.free
 ·obtain ⟨_,o,ho,_⟩:=I.ok.funs.mem hb;exact I.base.free b o ho (I.ok.frf b hb) λz=>I.ok.exfs b z hb
theorem cJ.step{g':Array GenState}{t':Nat}{d':Drawn}{ch:List Addr}(I:cJ X pins σ H s)
  (hch:∀b∈ch,(b∈X.ex\/X.s₀.heap.objs.size<=b)/\b≠X.env.locals/\(∀x c,X.env.cells.lookup x=some c->c≠b)/\∀p∈X.pn++pins,p.1≠b)
  (keep:∀b o,b≠X.env.locals->b ∉ X.fs->b ∉ ch->s.heap.get? b=some o->H b=none->h'.get? b=some o)
  (slot:∀b o,b≠X.env.locals->b∈X.fs->b ∉ ch->s.heap.get? b=some o->H b=none->∃sl,h'.get? b=some { o with slots:=sl }) (free:∀b o,b ∉ ch->s.heap.get? b=some o->H b=none->H' b=none)
  (there:∀b o,b ∉ ch->s.heap.get? b=some o->∃o',h'.get? b=some o')
  (tups:∀b xs,H b=some (.tup xs)->H' b=some (.tup xs)) (frzs:∀b o u,H b=some (.frz o u)->H' b=some (.frz o u)) (tbls:∀b ps,H b=some (.tbl ps)->∃more,H' b=some (.tbl (ps++more)))
  (ns:∀m,s.heap.Ns X.env.locals m->h'.Ns X.env.locals m) (hok:pO X.prog X.w H' h') (hg:AllBare g') :
  cJ X pins σ H' { s with heap:=h',gens:=g',drawn:=d',toks:=t' }:=by
 have neL:∀b o,X.s₀.heap.get? b=some o->b≠X.env.locals:=λb o e=>cR (aV (aZ e) I.ok.above);have neC:∀b o,X.s₀.heap.get? b=some o->b ∉ X.ex->b ∉ ch:=λb o e hx hb=>by
  rcases (hch b hb).1 with z | z
  ·exact hx z
  ·exact absurd (aV (aZ e) z) (bY _)
 have cellK:∀x c,X.env.cells.lookup x=some c->∀v,s.heap.IsCell c v->h'.IsCell c v:=λx c e v ⟨o,ho,hd⟩=>by
  have nch:c ∉ ch:=λz=>(hch c z).2.2.1 x c e rfl;by_cases hc:c∈X.fs
  ·obtain ⟨sl,q⟩:=slot c o (I.cne x c e) hc nch ho (I.freeC x c e);exact ⟨_,q,hd⟩
  ·exact ⟨o,keep c o (I.cne x c e) hc nch ho (I.freeC x c e),hd⟩
 refine ⟨I.ok,I.os,hg,⟨λb o e n hb hx=>?_,λb o e n hb hx=>?_,λb o e n hx=>?_,λb o e hx=>?_,λb xs e=>tups b xs (I.base.tups b xs e),λb o xs e=>frzs b o xs (I.base.frzs b o xs e),λb ps e=>?_⟩,?_,λx c e=>?_,?_,λx c e=>?_,λp hp=>?_,hok,I.len⟩
 ·exact keep b o (neL b o e) hb (neC b o e hx) (I.base.keep b o e n hb hx) (I.base.free b o e n hx)
 ·obtain ⟨sl,e1⟩:=I.base.slot b o e n hb hx;obtain ⟨sl',e2⟩:=slot b _ (neL b o e) hb (neC b o e hx) e1 (I.base.free b o e n hx);exact ⟨sl',e2⟩
 ·obtain ⟨o',e1⟩:=I.base.there b o e hx;exact free b o' (neC b o e hx) e1 (I.base.free b o e n hx)
 ·obtain ⟨o',e1⟩:=I.base.there b o e hx;exact there b o' (neC b o e hx) e1
 ·obtain ⟨m1,e1⟩:=I.base.tbls b ps e;obtain ⟨m2,e2⟩:=tbls b _ e1;exact ⟨m1++m2,by rw [e2,Array.append_assoc]⟩
 ·obtain ⟨m,hn,hl⟩:=I.loc;refine ⟨m,ns m hn,λi x v e1 e2 e3=>?_⟩;obtain ⟨u,r,l⟩:=hl i x v e1 e2 e3;refine ⟨u,r,?_⟩;rcases l with l | ⟨k,c,e,z⟩
  ·exact .inl l
  ·exact .inr ⟨k,c,e,cellK x c e _ z⟩
 ·obtain ⟨v,z⟩:=I.cell x c e;exact ⟨v,cellK x c e v z⟩
 ·obtain ⟨m,⟨o,_,_,ho,_⟩,_⟩:=I.loc;exact free _ o (λz=>(hch _ z).2.1 rfl) ho I.free
 ·obtain ⟨v,o,ho,hd⟩:=I.cell x c e;exact free c o (λz=>(hch c z).2.2.1 x c e rfl) ho (I.freeC x c e)
 ·obtain ⟨e,n,ne,nf,d⟩:=I.pin p hp;have nch:p.1 ∉ ch:=λz=>(hch p.1 z).2.2.2 p hp rfl;exact ⟨keep p.1 p.2 ne nf nch e n,free p.1 p.2 nch e n,ne,nf,d⟩
theorem cJ.un{t':Nat}(I:cJ X pins σ H s)(u:Un X.fs [] H H' s.heap h')(hok:pO X.prog X.w H' h'):cJ X pins σ H' { s with heap:=h',toks:=t' }:=by
 obtain ⟨m,⟨o,es,ep,ho,r⟩,_⟩:=id I.loc;obtain ⟨sl,hL⟩:=u.any ho I.free (by simp);exact I.step (g':=s.gens) (d':=s.drawn) (ch:=[]) (λ_ z=>nomatch z) (λb o _ hb _ e n=>u.keep b o e n hb (by simp)) (λb o _ hb _ e n=>u.slot b o e n hb (by simp)) (λb o _ e n=>u.free b o e n (by simp)) (λb o _ e=>u.there b o e (by simp)) u.tups u.frzs u.tbls (λm' hm=>by
  obtain ⟨o',es',ep',ho',r'⟩:=hm;rw [ho] at ho';cases ho';exact ⟨_,es',ep',hL,r'⟩) hok I.bare
theorem cJ.call{g':Array GenState}{t':Nat}{d':Drawn}{ch:List Addr}(I:cJ X pins σ H s)(u:Un (frs X.stack) ch H H' s.heap h')(hok:pO X.prog X.w H' h')(hg:AllBare g')
  (hch:∀b∈ch,(b∈X.ex\/X.s₀.heap.objs.size<=b)/\b≠X.env.locals/\(∀x c,X.env.cells.lookup x=some c->c≠b)/\∀p∈X.pn++pins,p.1≠b) :
  cJ X pins σ H' { s with heap:=h',gens:=g',drawn:=d',toks:=t' }:=by
 obtain ⟨m,⟨o,es,ep,ho,r⟩,_⟩:=id I.loc;obtain ⟨sl,hL⟩:=u.any ho I.free λz=>(hch _ z).2.1 rfl;exact I.step (ch:=ch) hch (λb o hL hb hc e n=>u.keep b o e n (λz=>(bF.mp (I.stkSub b z)).elim hL hb) hc) (λb o _ _ hc e n=>u.any e n hc) (λb o hc e n=>u.free b o e n hc) (λb o hc e=>u.there b o e hc) u.tups u.frzs u.tbls (λm' hm=>by
  obtain ⟨o',es',ep',ho',r'⟩:=hm;rw [ho] at ho';cases ho';exact ⟨_,es',ep',hL,r'⟩) hok hg
theorem cJ.turned{t':Nat}{it:Addr}(I:cJ X pins σ H s)(k:∀b o,b≠it->s.heap.get? b=some o->h'.get? b=some o)(hn:H it=none)(hL:it≠X.env.locals)
  (h1:it∈X.ex\/X.s₀.heap.objs.size<=it) (h2:∀x c,X.env.cells.lookup x=some c->c≠it) (h3:∀p∈X.pn++pins,p.1≠it):cJ X pins σ H { s with heap:=h',toks:=t' }:=by
 have nit:∀b u,H b=some u->b≠it:=λb u e z=>by rw [z,hn] at e;cases e
 refine I.step (g':=s.gens) (d':=s.drawn) (ch:=[it]) (λb hb=>?_) (λb o _ _ hc e _=>k b o (λz=>hc (by simp [z])) e) (λb o _ _ hc e _=>⟨o.slots,k b o (λz=>hc (by simp [z])) e⟩) (λ_ _ _ _ n=>n)
  (λb o hc e=>⟨o,k b o (λz=>hc (by simp [z])) e⟩) (λ_ _ e=>e) (λ_ _ _ e=>e) (λb ps e=>⟨#[],by rw [e];simp⟩) (λm hm=>?_) (λb u e=>?_) I.bare
 ·have e:b=it:=by simpa using hb
  subst e;exact ⟨h1,hL,h2,h3⟩
 ·obtain ⟨o,es,ep,ho,r⟩:=hm;exact ⟨o,es,ep,k _ o (Ne.symm hL) ho,r⟩
 ·refine (I.hok b u e).stay (λc v hc q=>k c v ?_ q) (λ_ q=>q) λ_ _ q=>q;rcases hc with z | z
  ·rw [z];exact nit b u e
  ·exact nit c _ z
theorem cJ.tok(I:cJ X pins σ H s)(t:Nat):cJ X pins σ H { s with toks:=t }:=I.un (h':=s.heap) (t':=t) Un.refl I.hok
theorem cJ.kept{t':Nat}(I:cJ X pins σ H s)(k:∀b u,s.heap.get? b=some u->h'.get? b=some u):cJ X pins σ H { s with heap:=h',toks:=t' }:=I.un (Un.kept k) (I.hok.kept k)
theorem cJ.laid{a:Addr}{o:HO}{t':Nat}(I:cJ X pins σ H s)(k:∀b u,s.heap.get? b=some u->h'.get? b=some u)(hp:s.heap.objs.size<=a)(new:fO X.prog X.w (upd H a o) h' a o) :
  cJ X pins σ (upd H a o) { s with heap:=h',toks:=t' }:=I.un (Un.laid k hp (I.hok.fresh hp)) (I.hok.laid k hp new)
theorem cJ.write{x e:Addr}{o:HO}{t':Nat}(I:cJ X pins σ H s)(mu:Mut (H x))(he:e=x\/H e=some (.own x))(k:∀b u,b≠e->s.heap.get? b=some u->h'.get? b=some u)(heo:∃u,h'.get? e=some u)
  (new:fO X.prog X.w (upd H x o) h' x o):cJ X pins σ (upd H x o) { s with heap:=h',toks:=t' }:=I.un (Un.write mu he k heo) (I.hok.write mu he k heo new)
theorem cJ.pins_of{pins':List (Addr × Obj)}(I:cJ X pins σ H s)(h:∀p∈pins',s.heap.get? p.1=some p.2/\H p.1=none/\p.1≠X.env.locals/\p.1 ∉ X.fs/\∀v,p.2.data ≠ .cell v):cJ X pins' σ H s :=
 ⟨I.ok,I.os,I.bare,I.base,I.loc,I.cell,I.free,I.freeC,λp hp=>(cE.mp hp).elim (λz=>I.pin p (bZ _ z)) (h p),I.hok,I.len⟩
theorem DJ{N:List Str}(hN:N.Nodup){i j:Nat}{x:Str}(a:N[i]?=some x)(b:N[j]?=some x):i=j:=by
 obtain ⟨h1,e1⟩:=aI.mp a;obtain ⟨h2,e2⟩:=aI.mp b;exact (List.getElem_inj hN).mp (e1.trans e2.symm)
theorem tX{M:Model}{A:Around}{E:Value->Shared->Prop}{i:Nat}{x:Str}{v:V}{u:Value}{Q:Unit->Shared->Prop}(I:cJ X pins σ H s)(hN:X.N.Nodup)(hi:X.N[i]?=some x)(hx:Loc X.env.scope x)(r:eB v u)
  (h:∀s',cJ X pins (σ.set i (some v)) H s'->(∃a,Heap.SameBut a s.heap s'.heap/\(a=X.env.locals\/X.env.cells.lookup x=some a))->Q () s') (hf:X.fn x=true\/X.env.scope.names.lookup x=some .local:=by first | exact .inl rfl | exact .inr rfl | assumption):wpAny M A (storeName X.env x u) Q E s:=by
 obtain ⟨m,hn,hl⟩:=id I.loc;have hcls:(X.env.scope.kind == .class || (X.env.scope.kind == .module&&X.env.locals != X.env.globals))=false:=by rw [I.ok.kind];rfl
 have hiσ:i<σ.length:=by rw [I.len];exact (aI.mp hi).1
 have cne:=I.cne;have tracked:∀{a:Addr} {h':Heap},(∃o,s.heap.get? a=some o/\H a=none)->Heap.SameBut a s.heap h'->pO X.prog X.w H h':=λ{a h'} ha hs b ob e=>by
  obtain ⟨_,_,hfree⟩:=ha;refine (I.hok b ob e).stay (λc w' hc q=>(hs.2 c ?_).trans q) (λ_ q=>q) λ_ _ q=>q;rintro rfl;rcases hc with rfl | hc
  ·rw [hfree] at e;cases e
  ·rw [hfree] at hc;cases hc
 rcases hx with hk | hk
 ·refine wpAny_storeName_local hk hn (λh' hn' hs=>?_) hcls;obtain ⟨oL,_,_,hoL,_⟩:=id hn;refine h _ ⟨I.ok,I.os,I.bare,⟨λb o e n hb hx=>?_,λb o e n hb hx=>?_,I.base.free,λb o e hx=>?_,I.base.tups,I.base.frzs,I.base.tbls⟩,⟨_,hn',λj y v' e1 e2 e3=>?_⟩,λy c e=>?_,I.free,I.freeC,λp hp=>?_,tracked ⟨oL,hoL,I.free⟩ hs,by simpa using I.len⟩ ⟨_,hs,.inl rfl⟩
  ·exact (hs.2 b (cR (aV (aZ e) I.ok.above))).trans (I.base.keep b o e n hb hx)
  ·obtain ⟨sl,e1⟩:=I.base.slot b o e n hb hx;exact ⟨sl,(hs.2 b (cR (aV (aZ e) I.ok.above))).trans e1⟩
  ·obtain ⟨o',e1⟩:=I.base.there b o e hx;exact ⟨o',(hs.2 b (cR (aV (aZ e) I.ok.above))).trans e1⟩
  ·by_cases hj:j=i
   ·subst hj;rw [hi] at e1;cases e1;rw [List.getElem?_set_self hiσ] at e2;cases e2;exact ⟨u,r,.inl ⟨hk,by simp⟩⟩
   ·rw [List.getElem?_set_ne (Ne.symm hj)] at e2;obtain ⟨u',r',q⟩:=hl j y v' e1 e2 e3;refine ⟨u',r',?_⟩;rcases q with ⟨k,e⟩ | ⟨k,c,e,z⟩
    ·refine .inl ⟨k,?_⟩;have:y≠x:=λe=>hj (DJ hN e1 (e ▸ hi));simp [this,e]
    ·exact .inr ⟨k,c,e,z.sameBut hs (cne y c e)⟩
  ·obtain ⟨w',z⟩:=I.cell y c e;exact ⟨w',z.sameBut hs (cne y c e)⟩
  ·obtain ⟨e,n,ne,nf,d⟩:=I.pin p hp;exact ⟨(hs.2 p.1 ne).trans e,n,ne,nf,d⟩
 ·have hfn:X.fn x=true:=by
   rcases hf with z | z
   ·exact z
   ·rw [z] at hk;cases hk
  obtain ⟨c,hc⟩:=I.ok.has x (.inl hk);obtain ⟨w',z⟩:=I.cell x c hc;refine wpAny_storeName_cell I.ok.kind hk hc z (λh' hc' hs=>?_);obtain ⟨oc,hoc,hocd⟩:=id z;refine h { s with heap:=h' } ⟨I.ok,I.os,I.bare,⟨λb o e n hb hx=>?_,λb o e n hb hx=>?_,I.base.free,λb o e hx=>?_,I.base.tups,I.base.frzs,I.base.tbls⟩,⟨m,hn.sameBut hs (Ne.symm (cne x c hc)),λj y v' e1 e2 e3=>?_⟩,λy c' e=>?_,I.free,I.freeC,λp hp=>?_,tracked ⟨oc,hoc,I.freeC x c hc⟩ hs,by simpa using I.len⟩ ⟨c,hs,.inr hc⟩
  ·exact (hs.2 b (cR (aV (aZ e) (I.ok.cab x c hfn hc)))).trans (I.base.keep b o e n hb hx)
  ·obtain ⟨sl,e1⟩:=I.base.slot b o e n hb hx;exact ⟨sl,(hs.2 b (cR (aV (aZ e) (I.ok.cab x c hfn hc)))).trans e1⟩
  ·obtain ⟨o',e1⟩:=I.base.there b o e hx;exact ⟨o',(hs.2 b (cR (aV (aZ e) (I.ok.cab x c hfn hc)))).trans e1⟩
  ·by_cases hj:j=i
   ·subst hj;rw [hi] at e1;cases e1;rw [List.getElem?_set_self hiσ] at e2;cases e2;exact ⟨u,r,.inr ⟨.inl hk,c,hc,hc'⟩⟩
   ·rw [List.getElem?_set_ne (Ne.symm hj)] at e2;obtain ⟨u',r',q⟩:=hl j y v' e1 e2 e3;refine ⟨u',r',?_⟩;rcases q with q | ⟨k,c',e,z'⟩
    ·exact .inl q
    ·refine .inr ⟨k,c',e,z'.sameBut hs ?_⟩;rintro rfl;exact hj (DJ hN e1 (I.ok.inj _ _ _ e hc ▸ hi))
  ·by_cases hcc:c'=c
   ·subst hcc;exact ⟨_,hc'⟩
   ·obtain ⟨w2,z2⟩:=I.cell y c' e;exact ⟨w2,z2.sameBut hs hcc⟩
  ·obtain ⟨e,n,ne,nf,d⟩:=I.pin p hp;refine ⟨(hs.2 p.1 ?_).trans e,n,ne,nf,d⟩;intro q;rw [q,hoc] at e;have q':oc=p.2:=hZ e;exact d w' (by rw [<-q'];exact hocd)
theorem pV{M:Model}{A:Around}{E:Value->Shared->Prop}{i:Nat}{x:Str}{v:V}{u:Value}{Q:Unit->Shared->Prop}(I:cJ X pins σ H s)(hN:X.N.Nodup)(hi:X.N[i]?=some x)(hx:Loc X.env.scope x)(r:eB v u)
  (h:∀s',cJ X pins (σ.set i (some v)) H s'->Q () s') (hf:X.fn x=true\/X.env.scope.names.lookup x=some .local:=by first | exact .inl rfl | exact .inr rfl | assumption):wpAny M A (storeName X.env x u) Q E s :=
 tX I hN hi hx r (λs' I' _=>h s' I') hf
theorem cJ.call'{s':Shared}{ch:List Addr}(I:cJ X pins σ H s)(ho:s'.os=s.os)(u:Un (frs X.stack) ch H H' s.heap s'.heap)(hok:pO X.prog X.w H' s'.heap)(hg:AllBare s'.gens)
  (hch:∀b∈ch,(b∈X.ex\/X.s₀.heap.objs.size<=b)/\b≠X.env.locals/\(∀x c,X.env.cells.lookup x=some c->c≠b)/\∀p∈X.pn++pins,p.1≠b):cJ X pins σ H' s':=by
 obtain ⟨h',g',d',t',o'⟩:=s';have e:o'=s.os:=ho;subst e;exact I.call (g':=g') (t':=t') (d':=d') u hok hg hch
end
abbrev XK:=Value->Option Addr->Hp->Prop
abbrev St:=List (Option V)
abbrev VK:=V->Hp->Prop
abbrev TE:=St->Hp->VK->Prop
abbrev TT:=St->Hp->(Bool->Hp->Prop)->Prop
abbrev TA:=St->Hp->(List V->Hp->Prop)->Prop
structure rN where
 nx:St->Hp->Prop
 rt:VK
 bk:St->Hp->Prop:=λ_ _=>False
 ct:St->Hp->Prop:=λ_ _=>False
abbrev TS:=rN->St->Hp->Prop
def EP(X:Cx)(pins:List (Addr × Obj))(σ:St)(Q:VK)(u:Value)(s':Shared):Prop:=∃v H',cJ X pins σ H' s'/\eB v u/\Q v H'
def TP(X:Cx)(pins:List (Addr × Obj))(σ:St)(Q:Bool->Hp->Prop)(b:Bool)(s':Shared):Prop:=∃H',cJ X pins σ H' s'/\Q b H'
def AP(X:Cx)(pins:List (Addr × Obj))(σ:St)(Q:List V->Hp->Prop)(us:List Value)(s':Shared):Prop:=∃vs H',cJ X pins σ H' s'/\dI vs us/\Q vs H'
def SP(X:Cx)(pins:List (Addr × Obj))(D:rN)(f:Flow)(s':Shared):Prop :=
 match f with
 | .next=>∃σ' H',cJ X pins σ' H' s'/\D.nx σ' H'
 | .brk=>∃σ' H',cJ X pins σ' H' s'/\D.bk σ' H'
 | .cont=>∃σ' H',cJ X pins σ' H' s'/\D.ct σ' H'
 | .ret u=>∃v σ' H',cJ X pins σ' H' s'/\eB v u/\D.rt v H'
def PE(X:Cx)(e:Expr)(t:TE):Prop :=
 ∀(pins:List (Addr × Obj)) (s:Shared) (σ:St) (H:Hp) (Q:VK),cJ X pins σ H s->t σ H Q->wpAny (model X.prog X.w) X.A (eval e X.env) (EP X pins σ Q) X.xe s
def PT(X:Cx)(e:Expr)(t:TT):Prop :=
 ∀(pins:List (Addr × Obj)) (s:Shared) (σ:St) (H:Hp) (Q:Bool->Hp->Prop),cJ X pins σ H s->t σ H Q->wpAny (model X.prog X.w) X.A (isTrue e X.env (eval e X.env)) (TP X pins σ Q) X.xe s
def PW(X:Cx)(e:Expr)(t:TT):Prop :=
 ∀(whole:Sem Value) (pins:List (Addr × Obj)) (s:Shared) (σ:St) (H:Hp) (Q:Bool->Hp->Prop),cJ X pins σ H s->t σ H Q->wpAny (model X.prog X.w) X.A (isTrue e X.env whole) (TP X pins σ Q) X.xe s
theorem PW.pt{X:Cx}{e:Expr}{t:TT}(h:PW X e t):PT X e t:=h _
def PA(X:Cx)(es:List Expr)(t:TA):Prop :=
 ∀(pos:Pos) (pins:List (Addr × Obj)) (s:Shared) (σ:St) (H:Hp) (Q:List V->Hp->Prop),cJ X pins σ H s->t σ H Q->wpAny (model X.prog X.w) X.A (spliced (backTo pos (starEach es X.env))) (AP X pins σ Q) X.xe s
def PS(X:Cx)(st:Stmt)(t:TS):Prop :=
 ∀(pins:List (Addr × Obj)) (s:Shared) (σ:St) (H:Hp) (D:rN),cJ X pins σ H s->t D σ H->wpAny (model X.prog X.w) X.A (exec st X.env) (SP X pins D) X.xe s
def GW(X:Cx)(st:List Stmt)(t:TS):Prop :=
 ∀(pins:List (Addr × Obj)) (s:Shared) (σ:St) (H:Hp) (D:rN),cJ X pins σ H s->t D σ H->wpAny (model X.prog X.w) X.A (execs st X.env) (SP X pins D) X.xe s
theorem thn{α:Type}{t:Sem α}{Q Q':α->Shared->Prop}{M:Model}{A:Around}{E:Value->Shared->Prop}{s:Shared}(h:wpAny M A t Q E s)(hQ:∀a s,Q a s->Q' a s):wpAny M A t Q' E s:=wpAny_mono h hQ λ_ _ x=>x
section
variable{X:Cx}
def YJ(i:Nat):TE:=λσ H Q=>∃v,σ[i]?=some (some v)/\Q v H
def tC(v:V):TE:=λ_ H Q=>Q v H
theorem aAp{i:Nat}{x:Str}{pos:Pos}(hN:X.N[i]?=some x)(hv:Vis X.env.scope x)(hd:(x == ("__debug__" : Str))=false:=by decide)(hcd:(x == ("__classdict__" : Str))=false:=by decide):PE X (.Name x pos) (YJ i):=by
 intro pins s σ H Q I h;obtain ⟨v,e,h⟩:=h;obtain ⟨m,hn,hl⟩:=I.loc;obtain ⟨u,r,l⟩:=hl i x v hN e hv;have fin:EP X pins σ Q u s:=⟨v,H,I,r,h⟩;rcases l with ⟨hk,hm⟩ | ⟨hk,c,hc,hcell⟩
 ·exact wpAny_Name (wpAny_loadName_local I.ok.kind hk hn hm fin) hd
 ·rcases hk with hk | hk
  ·exact wpAny_Name (wpAny_loadName_cell I.ok.kind hk hc hcell fin) hd
  ·exact wpAny_Name (wpAny_loadName_free I.ok.kind hk hc hcell fin hcd) hd
theorem pe_int{i j pos}:PE X (.Constant (.int i) j pos) (tC (.int i)):=λ_ _ _ H _ I h=>wpAny_Constant_int ⟨.int i,H,I.tok _,⟨_,rfl⟩,h⟩
theorem pe_bl{b j pos}:PE X (.Constant (.bool b) j pos) (tC (.bl b)):=λ_ _ _ H _ I h=>Constant_bool ⟨.bl b,H,I,rfl,h⟩
theorem pe_non{j pos}:PE X (.Constant .none j pos) (tC .non):=λ_ _ _ H _ I h=>Constant_none ⟨.non,H,I,rfl,h⟩
theorem pe_str{x j pos}:PE X (.Constant (.str x) j pos) (tC (.str x)):=λ_ _ _ H _ I h=>Calls.Constant_str ⟨.str x,H,I.tok _,⟨_,rfl⟩,h⟩
def Gl(X:Cx)(x:Str):Prop:=X.env.kindOf x=some .globalImplicit
theorem BJ{E:Value->Shared->Prop}{pins:List (Addr × Obj)}{s:Shared}{σ:St}{H:Hp}{x:Str}{u:Value}{pos:Pos}{Q:Value->Shared->Prop}(I:cJ X pins σ H s)(hg:Gl X x)(hm:X.mg x=some u)(h:Q u s)
  (hd:(x == ("__debug__" : Str))=false:=by decide):wpAny (model X.prog X.w) X.A (eval (.Name x pos) X.env) Q E s :=
 Calls.Name_function_global I.ok.kind hg (Calls.loadGlobal_global (by rw [I.ok.glob];exact I.mod.glob.keeps I.bk) hm h) hd
theorem uO{E:Value->Shared->Prop}{pins:List (Addr × Obj)}{s:Shared}{σ:St}{H:Hp}{x:Str}{u:Value}{pos:Pos}{Q:Value->Shared->Prop}(I:cJ X pins σ H s)(hg:Gl X x)(hm:X.mg x=none)(hv:bootBuiltins x=some u)(h:Q u s)
  (hn:x ≠ "__name__" := by decide) (hd:(x == ("__debug__" : Str))=false:=by decide):wpAny (model X.prog X.w) X.A (eval (.Name x pos) X.env) Q E s:=by
 obtain ⟨mb,h1,h2⟩:=I.mod.blt;exact Calls.Name_function_global I.ok.kind hg (Calls.loadGlobal_builtin (by rw [I.ok.glob];exact I.mod.glob.keeps I.bk) hm (by rw [I.ok.blt];exact h1.keeps I.bk) ((h2 x hn).trans hv) h) hd
theorem UJ{x:Str}{v:V}{u:Value}{pos:Pos}(hg:Gl X x)(hm:X.mg x=some u)(r:eB v u)(hd:(x == ("__debug__" : Str))=false:=by decide):PE X (.Name x pos) (tC v) :=
 λ_ _ _ H _ I h=>BJ I hg hm ⟨v,H,I,r,h⟩ hd
variable{a b:Expr}{ta tb:TE}{pos:Pos}
def tB(t:TE):TT:=λσ H Q=>t σ H λx H1=>∃c,x=.bl c/\Q c H1
theorem aAe{e:Expr}{t:TE}(h:PE X e t)(he:∀whole,isTrue e X.env whole=(do let v <-whole;standAt e.pos;holding [v] (truthy v)):=by intro _;rfl):PT X e (tB t):=by
 intro pins s σ H Q I hw;refine isTrue_plain (thn (h pins s σ H _ I hw) λv s1 ⟨x,H1,I1,r1,q1⟩=>?_) (he _);obtain ⟨d,rfl,q⟩:=q1;cases r1;exact wpAny_truthy_bool ⟨H1,I1,q⟩
variable{tA tB':TT}{rest:List Expr}
def aBy(t u:TT):TT:=λσ H Q=>t σ H λc H1=>if c=true then u σ H1 Q else Q false H1
def tOr(t u:TT):TT:=λσ H Q=>t σ H λc H1=>if c=true then Q true H1 else u σ H1 Q
theorem TX(ha:PT X a tA):PW X (.BoolOp .And [a] pos) tA:=by
 intro wh pins s σ H Q I h;refine isTrue_and (thn (ha pins s σ H Q I h) λc s1 e=>?_);cases c with
 | true=>exact isTrue_and_nil e
 | false=>exact e
theorem aAc(ha:PT X a tA):PW X (.BoolOp .Or [a] pos) tA:=by
 intro wh pins s σ H Q I h;refine isTrue_or (thn (ha pins s σ H Q I h) λc s1 e=>?_);cases c with
 | false=>exact isTrue_or_nil e
 | true=>exact e
theorem aAd(ha:PT X a tA)(hb:PW X (.BoolOp .And (b::rest) pos) tB'):PW X (.BoolOp .And (a::b::rest) pos) (aBy tA tB'):=by
 intro wh pins s σ H Q I h;refine isTrue_and (thn (ha pins s σ H _ I h) λc s1 ⟨H1,I1,q1⟩=>?_);cases c with
 | true=>exact hb wh pins s1 σ H1 Q I1 q1
 | false=>exact ⟨H1,I1,q1⟩
theorem aBL(ha:PT X a tA)(hb:PW X (.BoolOp .Or (b::rest) pos) tB'):PW X (.BoolOp .Or (a::b::rest) pos) (tOr tA tB'):=by
 intro wh pins s σ H Q I h;refine isTrue_or (thn (ha pins s σ H _ I h) λc s1 ⟨H1,I1,q1⟩=>?_);cases c with
 | true=>exact ⟨H1,I1,q1⟩
 | false=>exact hb wh pins s1 σ H1 Q I1 q1
def NK(ta tb:TE):TE:=λσ H Q=>ta σ H λx H1=>∃c,x=.bl c/\if c=true then tb σ H1 Q else Q (.bl false) H1
theorem aAr{op}{t:TE}(h:PE X a t):PE X (.BoolOp op [a] pos) t:=λpins s σ H Q I hw=>BoolOp_one (h pins s σ H Q I hw)
theorem aAv(ha:PE X a ta)(hb:PE X (.BoolOp .And (b::rest) pos) tb):PE X (.BoolOp .And (a::b::rest) pos) (NK ta tb):=by
 intro pins s σ H Q I h;refine BoolOp_and (thn (ha pins s σ H _ I h) λv s1 ⟨x,H1,I1,r1,q1⟩=>?_);obtain ⟨c,rfl,q1⟩:=q1;cases r1;refine wpAny_truthy_bool ?_;cases c with
 | true=>exact hb pins s1 σ H1 Q I1 q1
 | false=>exact ⟨.bl false,H1,I1,rfl,q1⟩
def tIf(t:TT)(ta tb:TE):TE:=λσ H Q=>t σ H λc H1=>if c=true then ta σ H1 Q else tb σ H1 Q
theorem OQ{c:Expr}(hc:PT X c tA)(ha:PE X a ta)(hb:PE X b tb):PE X (.IfExp c a b pos) (tIf tA ta tb):=by
 intro pins s σ H Q I h;refine wpAny_IfExp (thn (hc pins s σ H _ I h) λd s1 ⟨H1,I1,q1⟩=>?_);cases d with
 | true=>exact ha pins s1 σ H1 Q I1 q1
 | false=>exact hb pins s1 σ H1 Q I1 q1
end
def fI(K:PySem.W.Frag)(H:Hp)(a:Addr)(xs:List V):Prop :=
 Rd H a (.lst xs) \/
  ∃(o:Obj) (its:Array Value) (n:Nat),K.lookup a=some o/\o.cls=.type "list" /\ o.dict=none/\o.data=.seq its n/\its.size<=sizeLine/\dI xs its.toList
def jM(K:PySem.W.Frag)(H:Hp)(a:Addr)(xs:List V):Prop :=
 Rd H a (.tup xs) \/
  ∃(o:Obj) (its:Array Value) (n:Nat),K.lookup a=some o/\o.cls=.type "tuple" /\ o.data=.seq its n/\its.size<=sizeLine/\dI xs its.toList
def aD5:Value->Option V
 | .none=>some .non
 | .bool b=>some (.bl b)
 | .int i _=>some (.int i)
 | .str x _=>some (.str x)
 | .bytes b _=>some (.byt b)
 | .float b _=>some (.flt b)
 | .ref a=>some (.ref a)
 | .type n=>some (.ty n)
 | _=>none
theorem eB.abs{x:V}{u:Value}(r:eB x u):aD5 u=some x:=by
 cases x with
 | non=>cases r;rfl
 | bl _=>cases r;rfl
 | int _=>obtain ⟨t,rfl⟩:=r;rfl
 | str _=>obtain ⟨t,rfl⟩:=r;rfl
 | byt _=>obtain ⟨t,rfl⟩:=r;rfl
 | flt _=>obtain ⟨t,rfl⟩:=r;rfl
 | ref _=>cases r;rfl
 | ty _=>cases r;rfl
theorem eB.inj{x y:V}{u:Value}(r:eB x u)(q:eB y u):x=y:=hZ (r.abs.symm.trans q.abs)
theorem dI.inj:∀{xs ys:List V}{us:List Value},dI xs us->dI ys us->xs=ys
 | _,_,_,.nil,.nil=>rfl
 | _,_,_,.cons r t,.cons r' t'=>by rw [r.inj r',dI.inj t t']
section
variable{X:Cx}{pins:List (Addr × Obj)}{σ:St}{H:Hp}{s:Shared}{a:Addr}{xs ys:List V}
theorem fI.of{K:PySem.W.Frag}(h:H a=some (.lst xs)):fI K H a xs:=.inl (.inl h)
theorem jM.of{K:PySem.W.Frag}(h:H a=some (.tup xs)):jM K H a xs:=.inl (.inl h)
theorem cJ.list(I:cJ X pins σ H s)(h:fI X.K H a xs):∃its:List Value,dI xs its/\PlainL s.heap a its.toArray/\xs.length<=sizeLine:=by
 rcases h with h | ⟨o,its,n,hk,hc,hd,hs,hz,r⟩
 ·obtain ⟨z,its,n,r,e⟩:=h.ok I.hok;exact ⟨its,r,⟨_,n,e,rfl,rfl,rfl⟩,z⟩
 ·refine ⟨its.toList,r,⟨o,n,I.kIn a o hk,hc,hd,by simpa using hs⟩,?_⟩;have e:=r.length;simp only [Array.length_toList] at e;omega
theorem cJ.tuple(I:cJ X pins σ H s)(h:jM X.K H a xs):∃its:List Value,dI xs its/\IsTup s.heap a its.toArray/\xs.length<=sizeLine:=by
 rcases h with h | ⟨o,its,n,hk,hc,hs,hz,r⟩
 ·obtain ⟨⟨z,_⟩,its,r,p⟩:=h.ok I.hok;exact ⟨its,r,p,z⟩
 ·refine ⟨its.toList,r,⟨o,I.kIn a o hk,hc,n,by simpa using hs⟩,?_⟩;have e:=r.length;simp only [Array.length_toList] at e;omega
theorem cJ.list_inj(I:cJ X pins σ H s)(h:fI X.K H a xs)(h':fI X.K H a ys):xs=ys:=by
 obtain ⟨its,r,⟨o,n,e,_,_,d⟩,_⟩:=I.list h;obtain ⟨its',r',⟨o',n',e',_,_,d'⟩,_⟩:=I.list h';rw [e] at e';cases e';rw [d] at d';injection d' with d1 _;have:its=its':=by simpa using congrArg Array.toList d1
 subst this;exact r.inj r'
theorem cJ.tuple_inj(I:cJ X pins σ H s)(h:jM X.K H a xs)(h':jM X.K H a ys):xs=ys:=by
 obtain ⟨its,r,⟨o,e,_,n,d⟩,_⟩:=I.tuple h;obtain ⟨its',r',⟨o',e',_,n',d'⟩,_⟩:=I.tuple h';rw [e] at e';cases e';rw [d] at d';injection d' with d1 _;have:its=its':=by simpa using congrArg Array.toList d1
 subst this;exact r.inj r'
end
abbrev Cx.wish(X:Cx)(E:Value->Shared->Prop):Cx:={ X with xe:=E }
abbrev Cx.nox(X:Cx):Cx:=X.wish λ_ _=>False
theorem Cx.Ok.wish{X:Cx}(ok:X.Ok)(E:Value->Shared->Prop):(X.wish E).Ok :=
 ⟨ok.mod,ok.kind,ok.glob,ok.blt,ok.above,ok.inj,ok.has,ok.cab,ok.hd,ok.frames,ok.stk,ok.exf,ok.bs,ok.bsz,ok.noex,ok.exfs,ok.funs,ok.frf⟩
theorem Cx.Ok.unwish{X:Cx}{E:Value->Shared->Prop}(ok:(X.wish E).Ok):X.Ok :=
 ⟨ok.mod,ok.kind,ok.glob,ok.blt,ok.above,ok.inj,ok.has,ok.cab,ok.hd,ok.frames,ok.stk,ok.exf,ok.bs,ok.bsz,ok.noex,ok.exfs,ok.funs,ok.frf⟩
section
variable{X:Cx}{pins:List (Addr × Obj)}{σ:St}{H:Hp}{s:Shared}{E:Value->Shared->Prop}
theorem cJ.wish(I:cJ X pins σ H s)(E:Value->Shared->Prop):cJ (X.wish E) pins σ H s:=⟨I.ok.wish E,I.os,I.bare,I.base,I.loc,I.cell,I.free,I.freeC,I.pin,I.hok,I.len⟩
theorem cJ.unwish(I:cJ (X.wish E) pins σ H s):cJ X pins σ H s:=⟨I.ok.unwish,I.os,I.bare,I.base,I.loc,I.cell,I.free,I.freeC,I.pin,I.hok,I.len⟩
theorem SP.unwish{D:rN}{f:Flow}{s':Shared}(h:SP (X.wish E) pins D f s'):SP X pins D f s':=by
 cases f with
 | next=>obtain ⟨σ',H',I,q⟩:=h;exact ⟨σ',H',I.unwish,q⟩
 | brk=>obtain ⟨σ',H',I,q⟩:=h;exact ⟨σ',H',I.unwish,q⟩
 | cont=>obtain ⟨σ',H',I,q⟩:=h;exact ⟨σ',H',I.unwish,q⟩
 | ret u=>obtain ⟨v,σ',H',I,r,q⟩:=h;exact ⟨v,σ',H',I.unwish,r,q⟩
theorem GW.nox{st:List Stmt}{t:TS}(h:GW X.nox st t):GW X st t:=λpins s σ H D I hw =>
 wpAny_mono (h pins s σ H D (I.wish _) hw) (λ_ _ q=>q.unwish) λ_ _ z=>False.elim z
end
section
variable{X:Cx}{st:Stmt}{rest:List Stmt}{t u:TS}{e:Expr}{te:TE}{pos:Pos}
def WQ:TS:=λD σ H=>D.nx σ H
def YK(t u:TS):TS:=λD σ H=>t { D with nx:=u D } σ H
theorem pss_nil:GW X [] WQ:=λ_ _ σ H _ I h=>wpAny_execs_nil ⟨σ,H,I,h⟩
theorem OI(h1:PS X st t)(h2:GW X rest u):GW X (st::rest) (YK t u):=by
 intro pins s σ H D I h;refine wpAny_execs_cons (thn (h1 pins s σ H { D with nx:=u D } I h) λf s1 q=>?_);cases f with
 | next =>
  obtain ⟨σ',H',I',q⟩:=q;exact h2 pins s1 σ' H' D I' q
 | ret v=>exact q
 | brk=>exact q
 | cont=>exact q
theorem UA(h1:PS X st t):GW X [st] t:=by
 intro pins s σ H D I h;refine wpAny_execs_cons (thn (h1 pins s σ H D I h) λf s1 q=>?_);cases f with
 | next=>exact wpAny_execs_nil q
 | ret v=>exact q
 | brk=>exact q
 | cont=>exact q
theorem cJ.quiet{pins:List (Addr × Obj)}{σ:St}{H:Hp}{s:Shared}(I:cJ X pins σ H s):interactive X.env=false:=by simp [interactive,I.ok.kind]
def WT(te:TE):TS:=λD σ H=>te σ H λ_ H1=>D.nx σ H1
theorem UB(he:PE X e te)(hs:swapsWith e none pos.line X.env=pure false:=by rfl):PS X (.Expr e pos) (WT te):=by
 intro pins s σ H D I h;exact wpAny_Expr_any (thn (he pins s σ H _ I h) λv s1 ⟨x,H1,I1,r1,q1⟩=>⟨σ,H1,I1,q1⟩) I.quiet hs
def aBq(te:TE):TS:=λD σ H=>te σ H D.rt
theorem aAg(he:PE X e te):PS X (.Return (some e) pos) (aBq te):=by
 intro pins s σ H D I h;exact wpAny_Return_some (thn (he pins s σ H _ I h) λv s1 ⟨x,H1,I1,r1,q1⟩=>⟨x,σ,H1,I1,r1,q1⟩)
def aBs(c:TT)(t u:TS):TS:=λD σ H=>c σ H λb H1=>if b=true then t D σ H1 else u D σ H1
theorem aBM{c:Expr}{a b:List Stmt}{tc:TT}(hc:PT X c tc)(ha:GW X a t)(hb:GW X b u):PS X (.If c a b pos) (aBs tc t u):=by
 intro pins s σ H D I h;refine wpAny_If (thn (hc pins s σ H _ I h) λd s1 ⟨H1,I1,q1⟩=>?_);cases d with
 | true=>exact ha pins s1 σ H1 D I1 q1
 | false=>exact hb pins s1 σ H1 D I1 q1
end
abbrev TG:=V->St->Hp->(St->Hp->Prop)->Prop
abbrev RA:=List V->St->Hp->(St->Hp->Prop)->Prop
def PG(X:Cx)(target:Expr)(t:TG):Prop :=
 ∀(pins:List (Addr × Obj)) (s:Shared) (σ:St) (H:Hp) (v:V) (u:Value) (Q:St->Hp->Prop),cJ X pins σ H s->eB v u->t v σ H Q ->
  wpAny (model X.prog X.w) X.A (assign target X.env u) (λ_ s'=>∃σ' H',cJ X pins σ' H' s'/\Q σ' H') X.xe s
def PGs(X:Cx)(ts:List Expr)(t:RA):Prop :=
 ∀(pins:List (Addr × Obj)) (s:Shared) (σ:St) (H:Hp) (vs:List V) (us:List Value) (Q:St->Hp->Prop),cJ X pins σ H s->dI vs us->t vs σ H Q ->
  wpAny (model X.prog X.w) X.A (assignInOrder ((assignEach ts X.env).map (·.2)) us) (λ_ s'=>∃σ' H',cJ X pins σ' H' s'/\Q σ' H') X.xe s
section
variable{X:Cx}{pos:Pos}
def oH(i:Nat):TG:=λv σ H Q=>Q (σ.set i (some v)) H
theorem UH{i:Nat}{x:Str}(hN:X.N.Nodup)(hi:X.N[i]?=some x)(hx:Loc X.env.scope x)(hf:X.fn x=true\/X.env.scope.names.lookup x=some .local:=by first | exact .inl rfl | exact .inr rfl | assumption):PG X (.Name x pos) (oH i):=by
 intro pins s σ H v u Q I r h;exact wpAny_assign_Name (pV I hN hi hx r (λs' I'=>⟨_,H,I',h⟩) hf)
def aAQ:RA:=λvs σ H Q=>vs=[]/\Q σ H
def PZ(t:TG)(u:RA):RA:=λvs σ H Q=>∃v r,vs=v::r/\t v σ H λσ' H'=>u r σ' H' Q
theorem pgs_nil:PGs X [] aAQ:=by
 intro pins s σ H vs us Q I r h;obtain ⟨e,h⟩:=h;subst e;cases r;exact assignInOrder_nil ⟨σ,H,I,h⟩
theorem OO{e:Expr}{es:List Expr}{t:TG}{u:RA}(h1:PG X e t)(h2:PGs X es u)
  (hs:(assignEach (e::es) X.env).map (·.2)=assign e X.env::(assignEach es X.env).map (·.2):=by rfl):PGs X (e::es) (PZ t u):=by
 intro pins s σ H vs us Q I r h;obtain ⟨v,vr,e1,h⟩:=h;subst e1;cases r with
 | cons r rr =>
  rw [hs];refine assignInOrder_cons (thn (h1 pins s σ H _ _ _ I r h) λ_ s1 ⟨σ1,H1,I1,q1⟩=>?_);exact h2 pins s1 σ1 H1 _ _ Q I1 rr q1
def aAP(K:PySem.W.Frag)(n:Nat)(t:RA):TG:=λv σ H Q=>∃a xs,v=.ref a/\jM K H a xs/\xs.length=n/\t xs σ H Q
theorem aAo{es:List Expr}{k:Nat}{t:RA}{n:Nat}(hc:X.calm=true)(h:PGs X es t)
  (hn:(assignEach es X.env).length=n:=by rfl) (hst:(assignEach es X.env).findIdx? (·.1)=none:=by rfl):PG X (.Tuple es k pos) (aAP X.K n t):=by
 intro pins s σ H v u Q I r hw;obtain ⟨a,xs,e1,hq,hl,hw⟩:=hw;subst e1;cases r;obtain ⟨its,rv,ht,hz⟩:=I.tuple hq;refine assign_Tuple_tuple (I.ok.hd hc) ht (by simp [hn,<-hl,rv.length]) hst λh' hx=>?_;have I1:cJ X pins σ H { s with heap:=h' }:=I.kept (t':=s.toks) λb o e=>hx b o (cR (aZ e)) e;exact h pins _ σ H xs _ Q I1 (by simpa using rv) hw
def AH(te:TE)(g:TG):TS:=λD σ H=>te σ H λx H1=>g x σ H1 D.nx
theorem aAl{tg e:Expr}{te:TE}{g:TG}(he:PE X e te)(hg:PG X tg g)(hs:swapsWithSole [tg] e pos.line X.env=pure false:=by rfl)(hw:swappedStores [tg] e X.env=pure none:=by rfl)
  (h1:(assignEach [tg] X.env).map (·.2)=[assign tg X.env]:=by rfl):PS X (.Assign [tg] e pos) (AH te g):=by
 intro pins s σ H D I h;refine wpAny_Assign_stores (thn (he pins s σ H _ I h) λv s1 ⟨x,H1,I1,r1,q1⟩=>?_) hs hw;rw [h1];exact thn (hg pins s1 σ H1 x v _ I1 r1 q1) λ_ s2 q=>q
theorem aAf{i:Nat}{x:Str}{e:Expr}{te:TE}{pos':Pos}(hN:X.N.Nodup)(hi:X.N[i]?=some x)(hx:Loc X.env.scope x)(he:PE X e te)(hs:swapsWith e (some (.Name x pos')) pos.line X.env=pure false:=by rfl)(hf:X.fn x=true\/X.env.scope.names.lookup x=some .local:=by first | exact .inl rfl | exact .inr rfl | assumption) :
  PS X (.Assign [.Name x pos'] e pos) (AH te (oH i)):=by
 intro pins s σ H D I h;refine wpAny_Assign_Name (thn (he pins s σ H _ I h) λv s1 ⟨y,H1,I1,r1,q1⟩=>?_) hs;exact pV I1 hN hi hx r1 (λs2 I2=>⟨_,H1,I2,q1⟩) hf
def aBr(i j:Nat)(ta:TA):TS:=λD σ H=>ta σ H λvs H1=>∃v w,vs=[v,w]/\D.nx ((σ.set i (some v)).set j (some w)) H1
theorem aAh{i j:Nat}{x y:Str}{a b:Expr}{ta:TA}{px py pt:Pos}{kt k2 pt2}(hc:X.calm=true)(hN:X.N.Nodup)(hi:X.N[i]?=some x)(hj:X.N[j]?=some y)(hij:i≠j)
  (hx:X.env.scope.names.lookup x=some .local) (hy:X.env.scope.names.lookup y=some .local) (ha:PA X [a,b] ta)
  (hw:swappedStores [.Tuple [.Name x px,.Name y py] kt pt] (.Tuple [a,b] k2 pt2) X.env=pure (some [x,y]))
  (hs:swapsWithSole [.Tuple [.Name x px,.Name y py] kt pt] (.Tuple [a,b] k2 pt2) pos.line X.env=pure false:=by rfl) :
  PS X (.Assign [.Tuple [.Name x px,.Name y py] kt pt] (.Tuple [a,b] k2 pt2) pos) (aBr i j ta):=by
 intro pins s σ H D I h;rw [exec_Assign_arm];refine wpAny_bind (wpAny_standAt ?_);rw [hs];refine wpAny_bind (wpAny_pure ?_);rw [if_neg Dd];refine wpAny_bind (Tuple_ (thn (ha _ pins s σ H _ I h) λus s1 ⟨vs,H1,I1,r1,q1⟩=>?_));obtain ⟨v,w,e1,q1⟩:=q1;subst e1;obtain ⟨u1,u2,rfl,rv,rw'⟩:∃u1 u2,us=[u1,u2]/\eB v u1/\eB w u2:=by
  cases r1 with
  | cons p q =>
   cases q with
   | cons p' q' =>
    cases q';exact ⟨_,_,rfl,p,p'⟩
 refine wpAny_newObj_type ?_ (by show 2<=sizeLine;decide);have I2:cJ X pins σ H1 { s1 with heap:=s1.heap.push { cls:=.type "tuple",data:=.seq [u1,u2].toArray } }:=I1.kept (t':=s1.toks) λb o e=>aE _ e;rw [hw];refine wpAny_bind (wpAny_pure ?_);show wpAny (model X.prog X.w) X.A (do rule "assign.swapped-stores";let items <-unpackItems (.ref s1.heap.objs.size) 2 none;assignInOrder [λv=>bindName X.env y v,λv=>bindName X.env x v] items.reverse;pure Flow.next) _ _ _;refine wpAny_bind (wpAny_rule (wpAny_bind (unpackItems_tuple (items:=#[u1,u2]) (I.ok.hd hc) (IsTup.new s1.heap _) λh' hx'=>?_)));have I3:=I2.kept (h':=h') (t':=s1.toks) λb o e=>hx' b o (cR (aZ e)) e;show wpAny _ _ (assignInOrder [λv=>bindName X.env y v,λv=>bindName X.env x v] [u2,u1] >>= λ_=>pure Flow.next) _ _ _;refine wpAny_bind (assignInOrder_cons (wpAny_bindName (pV I3 hN hj (.inl hy) rw' (λs2 I4=>?_) (.inr hy))));refine assignInOrder_cons (wpAny_bindName (pV I4 hN hi (.inl hx) rv (λs3 I5=>assignInOrder_nil (wpAny_pure ?_)) (.inr hx)));rw [List.set_comm _ _ (Ne.symm hij)] at I5;exact ⟨_,H1,I5,q1⟩
end
section
variable{X:Cx}{pos:Pos}
def AF(c:TT)(tb:TS):TS:=λD σ H=>∃W:Nat->St->Hp->Prop,(∃m,W m σ H)/\∀m σ H,W m σ H ->
 c σ H λb H1=>if b=true then ∃N:St->Hp->Prop,(∀σ' H',N σ' H'->∃m',m' < m/\W m' σ' H')/\tb { D with nx:=N,ct:=N,bk:=D.nx } σ H1 else D.nx σ H1
theorem OJ{c:Expr}{body:List Stmt}{tc:TT}{tb:TS}(hp:PassesOwn (model X.prog X.w) X.A X.env X.xe)(hc:PT X c tc)(hb:GW X body tb):PS X (.While c body [] pos) (AF tc tb):=by
 intro pins s σ H D I h;obtain ⟨W,⟨m0,w0⟩,turn⟩:=h;refine wpAny_While (codeAny_whileLoop (λn s'=>∃σ' H',cJ X pins σ' H' s'/\W n σ' H') ?_ m0 ⟨σ,H,I,w0⟩);rintro n s1 ⟨σ1,H1,I1,w1⟩;refine wpAny_passesOwn hp (thn (hc pins s1 σ1 H1 _ I1 (turn n σ1 H1 w1)) λb s2 ⟨H2,I2,q2⟩=>?_);cases b with
 | true =>
  obtain ⟨N,hN,q2⟩:=q2;rw [if_pos rfl];refine wpAny_passesOwn hp (thn (hb pins s2 σ1 H2 _ I2 q2) λf s3 q3=>?_);cases f with
  | next =>
   obtain ⟨σ3,H3,I3,n3⟩:=q3;obtain ⟨m',hm,w3⟩:=hN σ3 H3 n3;exact ⟨m',hm,σ3,H3,I3,w3⟩
  | cont =>
   obtain ⟨σ3,H3,I3,n3⟩:=q3;obtain ⟨m',hm,w3⟩:=hN σ3 H3 n3;exact ⟨m',hm,σ3,H3,I3,w3⟩
  | brk=>exact q3
  | ret v=>exact q3
 | false =>
  rw [if_neg bN];exact wpAny_execs_nil ⟨σ1,H2,I2,q2⟩
end
structure It where
 go:Nat->Hp->Prop
 yld:Nat->Hp->V->Hp->Prop
 stop:Nat->Hp->Prop
def lG(X:Cx)(pins:List (Addr × Obj))(H:Hp)(b:Addr):Prop :=
 H b=none/\b≠X.env.locals/\b ∉ X.fs/\(b∈X.ex\/X.s₀.heap.objs.size<=b)/\(∀x c,X.env.cells.lookup x=some c->c≠b)/\∀p∈X.pn++pins,p.1≠b
theorem cJ.fpOk{X:Cx}{pins:List (Addr × Obj)}{σ:St}{H H':Hp}{s:Shared}{b:Addr}(I:cJ X pins σ H s)(hb:s.heap.objs.size<=b)(hn:H' b=none):lG X pins H' b:=by
 refine ⟨hn,Nat.ne_of_gt (aV I.lt hb),I.nofs hb,.inr (aK I.sz hb),λx c e z=>?_,λp hp z=>?_⟩
 ·obtain ⟨v,q⟩:=I.cell x c e;exact absurd (aV q.lt (by rw [z];exact hb)) (bY _)
 ·exact absurd (aV (aZ (I.pin p hp).1) (by rw [z];exact hb)) (bY _)
structure EU(P:Program)(w:World)(K:PySem.W.Frag)(tg:Expr)(J:It)(fp:List Addr)(it:Addr)(tn:Nat->Heap->Prop):Prop where
 mem:it∈fp
 obj:∀i h,tn i h->∀b∈fp,∃o,h.get? b=some o/\∀v,o.data ≠ .cell v
 keep:∀i h h',tn i h->(∀b∈fp,∀o,h.get? b=some o->h'.get? b=some o)->tn i h'
 item:∀(X:Cx),X.prog=P->X.w=w->X.K=K->X.calm=true->∀(i:Nat) (pins:List (Addr × Obj)) (s:Shared) (σ:St) (H:Hp) (E:Value->Shared->Prop),cJ X pins σ H s->(∀b∈fp,lG X pins H b)->tn i s.heap->J.go i H ->
  wpAny (model P w) X.A (pyNext (.ref it)) (λr s1=>∃u,r=some u /\
   wpAny (model P w) X.A (letOwnedTupleGo tg (.ref it) u) (λ_ s2=>∃x H',cJ X pins σ H' s2/\eB x u/\J.yld i H x H'/\tn (i+1) s2.heap/\∀b∈fp,H' b=none) E s1) E s
 done:∀(X:Cx),X.prog=P->X.w=w->X.K=K->X.calm=true->∀(i:Nat) (pins:List (Addr × Obj)) (s:Shared) (σ:St) (H:Hp) (E:Value->Shared->Prop),cJ X pins σ H s->(∀b∈fp,lG X pins H b)->tn i s.heap->J.stop i H ->
  wpAny (model P w) X.A (pyNext (.ref it)) (λr s1=>r=none/\cJ X pins σ H s1) E s
 self:∀(A:Around) (i:Nat) (s:Shared) (Q:Value->Shared->Prop) (E:Value->Shared->Prop),tn i s.heap->Q (.ref it) s->wpAny (model P w) A (pyIter (.ref it)) Q E s
abbrev TI:=St->Hp->(It->Hp->Prop)->Prop
def PIE(X:Cx)(pins:List (Addr × Obj))(σ:St)(tg:Expr)(R:It->Hp->Prop)(itv:Value)(s2:Shared):Prop :=
 ∃(it:Addr) (fp:List Addr) (tn:Nat->Heap->Prop) (J:It) (H':Hp),itv=.ref it/\cJ X pins σ H' s2/\EU X.prog X.w X.K tg J fp it tn/\tn 0 s2.heap/\(∀b∈fp,lG X pins H' b)/\R J H'
def PI(X:Cx)(tg iter:Expr)(wi:TI):Prop :=
 ∀(pins:List (Addr × Obj)) (s:Shared) (σ:St) (H:Hp) (R:It->Hp->Prop),cJ X pins σ H s->wi σ H R ->
  wpAny (model X.prog X.w) X.A (eval iter X.env) (λv s1=>wpAny (model X.prog X.w) X.A (pyIter v) (PIE X pins σ tg R) X.xe s1) X.xe s
theorem IR{M:Model}{A:Around}{E:Value->Shared->Prop}{s:Shared}{tg:Expr}{it:Addr}{u:Value}{o:Obj}{n:String}{vs:Array Value}{Q:Unit->Shared->Prop}(ho:s.heap.get? it=some o)(hc:o.cls=.type n)(hd:o.data=.fields vs)
    (hn:["enumerate","zip","dict_itemiterator","dict_reverseitemiterator","odict_iterator","itertools.zip_longest","itertools.pairwise"].contains n=false) (hQ:Q () s):wpAny M A (letOwnedTupleGo tg (.ref it) u) Q E s:=by
  unfold letOwnedTupleGo;cases tg <;> first
    | exact wpAny_pure hQ
    | (cases u <;> first
        | exact wpAny_pure hQ
        | (refine wpAny_bind (wpAny_load ho ?_)
           rw [hc,hd];show wpAny M A (if (["enumerate","zip","dict_itemiterator","dict_reverseitemiterator","odict_iterator","itertools.zip_longest","itertools.pairwise"].contains n&&vs[0]? == some (rawInt _))=true then _ else _) Q E s;rw [if_neg (by intro h;rw [hn,Bool.false_and] at h;cases h)];exact wpAny_pure hQ))
def XU(K:PySem.W.Frag)(a:Addr):It :=
 ⟨λi H=>∃xs x,fI K H a xs/\xs[i]?=some x,λi H x H'=>H'=H/\∀xs,fI K H a xs->xs[i]?=some x,λi H=>∃xs,fI K H a xs/\xs.length<=i⟩
def Itt(K:PySem.W.Frag)(a:Addr):It :=
 ⟨λi H=>∃xs x,jM K H a xs/\xs[i]?=some x,λi H x H'=>H'=H/\∀xs,jM K H a xs->xs[i]?=some x,λi H=>∃xs,jM K H a xs/\xs.length<=i⟩
def WI(lo:Int)(n:Nat):It:=⟨λi _=>i<n,λi H x H'=>H'=H/\x=.int (lo+i),λi _=>n<=i⟩
theorem JV{P:Program}{w:World}{K:PySem.W.Frag}{tg:Expr}(a it:Addr):EU P w K tg (XU K a) [it] it (λi h=>h.IsListIter it a i) where
 mem:=by simp
 obj:=λi h st b hb=>by
  have e:b=it:=by simpa using hb
  subst e;obtain ⟨o,e,c,d⟩:=st;exact ⟨o,e,λv z=>by rw [d] at z;cases z⟩
 keep:=λi h h' st k=>st.at λo e=>k it (by simp) o e
 item:=by
  intro X hP hw hK hc i pins s σ H E I hf st hg;subst hP hw hK;obtain ⟨xs,x,hq,hx⟩:=hg;obtain ⟨its,rv,p,hz⟩:=I.list hq;obtain ⟨u,hu,ru⟩:=rv.get hx;obtain ⟨f0,f1,f2,f3,f4,f5⟩:=hf it (by simp);refine wpAny_pyNext_list_item st p.isList (x:=u) (by simpa using hu) λh' st' sb=>?_;have I1:cJ X pins σ H { s with heap:=h' }:=I.turned (t':=s.toks) (λb o hb e=>(sb.2 b hb).trans e) f0 f1 f3 f4 f5;obtain ⟨o,e,c,d⟩:=id st';exact ⟨u,rfl,IR (s:={ s with heap:=h' }) e c d Dd ⟨x,H,I1,ru,⟨rfl,λys hy=>by rw [I.list_inj hy hq];exact hx⟩,st',λb hb=>(hf b hb).1⟩⟩
 done:=by
  intro X hP hw hK hc i pins s σ H E I hf st hg;subst hP hw hK;obtain ⟨xs,hq,hx⟩:=hg;obtain ⟨its,rv,p,hz⟩:=I.list hq;obtain ⟨f0,f1,f2,f3,f4,f5⟩:=hf it (by simp);have hl:=rv.length;exact wpAny_pyNext_list_end (I.ok.hd hc) st p.isList (by simp;omega) λh' eb=>⟨rfl,I.turned (t':=s.toks) (λb o hb e=>eb b o hb e) f0 f1 f3 f4 f5⟩
 self:=λ_ _ _ _ _ st h=>wpAny_pyIter_listiter st h
theorem FG{P:Program}{w:World}{K:PySem.W.Frag}{tg:Expr}(a it:Addr):EU P w K tg (Itt K a) [it] it (λi h=>h.IsTupleIter it a i) where
 mem:=by simp
 obj:=λi h st b hb=>by
  have e:b=it:=by simpa using hb
  subst e;obtain ⟨o,e,c,d⟩:=st;exact ⟨o,e,λv z=>by rw [d] at z;cases z⟩
 keep:=λi h h' st k=>st.at λo e=>k it (by simp) o e
 item:=by
  intro X hP hw hK hc i pins s σ H E I hf st hg;subst hP hw hK;obtain ⟨xs,x,hq,hx⟩:=hg;obtain ⟨its,rv,p,hz⟩:=I.tuple hq;obtain ⟨u,hu,ru⟩:=rv.get hx;obtain ⟨f0,f1,f2,f3,f4,f5⟩:=hf it (by simp);refine wpAny_pyNext_tuple_item st (show s.heap.IsTuple a its.toArray from p) (x:=u) (by simpa using hu) λh' st' sb=>?_;have I1:cJ X pins σ H { s with heap:=h' }:=I.turned (t':=s.toks) (λb o hb e=>(sb.2 b hb).trans e) f0 f1 f3 f4 f5;obtain ⟨o,e,c,d⟩:=id st';exact ⟨u,rfl,IR (s:={ s with heap:=h' }) e c d Dd ⟨x,H,I1,ru,⟨rfl,λys hy=>by rw [I.tuple_inj hy hq];exact hx⟩,st',λb hb=>(hf b hb).1⟩⟩
 done:=by
  intro X hP hw hK hc i pins s σ H E I hf st hg;subst hP hw hK;obtain ⟨xs,hq,hx⟩:=hg;obtain ⟨its,rv,p,hz⟩:=I.tuple hq;obtain ⟨f0,f1,f2,f3,f4,f5⟩:=hf it (by simp);have hl:=rv.length;exact wpAny_pyNext_tuple_end (I.ok.hd hc) st (show s.heap.IsTuple a its.toArray from p) (by simp;omega) λh' eb=>⟨rfl,I.turned (t':=s.toks) (λb o hb e=>eb b o hb e) f0 f1 f3 f4 f5⟩
 self:=λ_ _ _ _ _ st h=>wpAny_pyIter_tupleiter st h
theorem FH{P:Program}{w:World}{K:PySem.W.Frag}{tg:Expr}(it:Addr)(lo:Int)(n:Nat):EU P w K tg (WI lo n) [it] it (λi h=>IsRangeIter h it (lo+(i:Nat)*1) ((n:Int)-(i:Nat)) 1) where
 mem:=by simp
 obj:=λi h st b hb=>by
  have e:b=it:=by simpa using hb
  subst e;exact ⟨_,st,λv z=>by
   have z':Data.fields _=Data.cell v:=z;cases z'⟩
 keep:=λi h h' st k=>k it (by simp) _ st
 item:=by
  intro X hP hw hK hc i pins s σ H E I hf st hg;subst hP hw hK;obtain ⟨f0,f1,f2,f3,f4,f5⟩:=hf it (by simp);have W:=Walks.range (prog:=X.prog) (w:=X.w) (I.ok.hd hc) it lo 1 n;refine W.item i s _ _ hg st λv h' tk hv st' kk=>?_;obtain ⟨t,rfl⟩:=hv;have I1:cJ X pins σ H { s with heap:=h',toks:=tk }:=I.turned (λb o hb e=>kk b o (by simpa using hb) e) f0 f1 f3 f4 f5;refine ⟨_,rfl,IR (s:={ s with heap:=h',toks:=tk }) (n := "range_iterator") st' rfl rfl Dd ⟨.int (lo+i),H,I1,⟨t,?_⟩,⟨rfl,rfl⟩,st',λb hb=>(hf b hb).1⟩⟩;rw [Int.mul_one]
 done:=by
  intro X hP hw hK hc i pins s σ H E I hf st hg;subst hP hw hK;obtain ⟨f0,f1,f2,f3,f4,f5⟩:=hf it (by simp);exact wpAny_pyNext_range_end (I.ok.hd hc) st (by have:n<=i:=hg;omega) λh' eb=>⟨rfl,I.turned (t':=s.toks) (λb o hb e=>eb b o hb e) f0 f1 f3 f4 f5⟩
 self:=λ_ _ _ _ _ st h=>wpAny_pyIter_rangeiter st h
section
variable{X:Cx}{tg:Expr}
def XH(K:PySem.W.Frag)(tl:TE):TI:=λσ H R=>tl σ H λx H1=>∃a,x=.ref a/\(∃xs,fI K H1 a xs)/\R (XU K a) H1
def aB3(K:PySem.W.Frag)(tl:TE):TI:=λσ H R=>tl σ H λx H1=>∃a,x=.ref a/\(∃xs,jM K H1 a xs)/\R (Itt K a) H1
theorem UG{l:Expr}{tl:TE}(hl:PE X l tl):PI X tg l (XH X.K tl):=by
 intro pins s σ H R I h;refine thn (hl pins s σ H _ I h) λv s1 ⟨x,H1,I1,r1,q1⟩=>?_;obtain ⟨a,e,⟨xs,hq⟩,q⟩:=q1;subst e;cases r1;obtain ⟨its,rv,p,hz⟩:=I1.list hq;refine wpAny_pyIter_list p.isList ?_;refine ⟨s1.heap.objs.size,[s1.heap.objs.size],_,_,H1,rfl,I1.kept (t':=s1.toks) λb o e=>aE _ e,JV a _,⟨_,bB _ rfl,rfl,rfl⟩,λb hb=>?_,q⟩;have e:b=s1.heap.objs.size:=by simpa using hb
 subst e;exact I1.fpOk (aL _) (I1.hok.fresh (aL _))
theorem aAn{l:Expr}{tl:TE}(hl:PE X l tl):PI X tg l (aB3 X.K tl):=by
 intro pins s σ H R I h;refine thn (hl pins s σ H _ I h) λv s1 ⟨x,H1,I1,r1,q1⟩=>?_;obtain ⟨a,e,⟨xs,hq⟩,q⟩:=q1;subst e;cases r1;obtain ⟨its,rv,p,hz⟩:=I1.tuple hq;refine wpAny_pyIter_tuple (show s1.heap.IsTuple a its.toArray from p) ?_;refine ⟨s1.heap.objs.size,[s1.heap.objs.size],_,_,H1,rfl,I1.kept (t':=s1.toks) λb o e=>aE _ e,FG a _,⟨_,bB _ rfl,rfl,rfl⟩,λb hb=>?_,q⟩;have e:b=s1.heap.objs.size:=by simpa using hb
 subst e;exact I1.fpOk (aL _) (I1.hok.fresh (aL _))
theorem DE{pins:List (Addr × Obj)}{σ:St}{H:Hp}{s:Shared}{R:It->Hp->Prop}{E:Value->Shared->Prop}{lo hi:Int}{t u v:Tok}{tk:Nat}(I:cJ X pins σ H s)(h1:-(2^62)<=lo)(h2:lo<2^62)(h3:-(2^62)<=hi)(h4:hi<2^62)
  (q:R (WI lo (hi-lo).toNat) H):wpAny (model X.prog X.w) X.A (pyIter (.ref s.heap.objs.size)) (PIE X pins σ tg R) E { s with heap:=s.heap.push { cls:=.type "range",data:=.fields #[.int lo t,.int hi u,.int 1 v] },toks:=tk }:=by
 refine wpAny_pyIter_range (IsRange.new ..) (small_one h1 h2 h3 h4) ?_;have I1:cJ X pins σ H { s with heap:=s.heap.push { cls:=.type "range",data:=.fields #[.int lo t,.int hi u,.int 1 v] },toks:=tk }:=I.kept λb o e=>aE _ e;refine ⟨(s.heap.push { cls:=.type "range",data:=.fields #[.int lo t,.int hi u,.int 1 v] }).objs.size,[(s.heap.push { cls:=.type "range",data:=.fields #[.int lo t,.int hi u,.int 1 v] }).objs.size],_,_,H,rfl,
  I1.kept (t':=tk) λb o e=>aE _ e,FH _ lo (hi-lo).toNat,?_,λb hb=>?_,q⟩
 ·have e1:lo+((0:Nat):Int)*1=lo:=by simp
  have e2:(((hi-lo).toNat:Nat):Int)-((0:Nat):Int)=Builtin.Range.rangeSize lo hi 1:=by rw [rangeSize_one];split <;> omega
  show IsRangeIter _ _ (lo+((0:Nat):Int)*1) ((((hi-lo).toNat:Nat):Int)-((0:Nat):Int)) 1;rw [e1,e2];exact bB _ rfl
 ·have e:b=(s.heap.push { cls:=.type "range",data:=.fields #[.int lo t,.int hi u,.int 1 v] }).objs.size:=by simpa using hb
  subst e;exact I1.fpOk (aL _) (I1.hok.fresh (aL _))
def XG(ta:TA):TI:=λσ H R=>ta σ H λvs H1=>∃j:Int,vs=[.int j]/\-(2^62)<=j/\j<2^62/\R (WI 0 j.toNat) H1
def XF(ta:TA):TI:=λσ H R=>ta σ H λvs H1=>∃i j:Int,vs=[.int i,.int j]/\(-(2^62)<=i/\i<2^62/\-(2^62)<=j/\j<2^62)/\R (WI i (j-i).toNat) H1
theorem KW{a:Expr}{ta:TA}{p pos:Pos}(hg:Gl X "range")(hm:X.mg "range" = none)(ha:PA X [a] ta)(hs:starEach [a] X.env=[(false,eval a X.env)]:=by rfl):PI X tg (.Call (.Name "range" p) [a] [] pos) (XG ta):=by
 intro pins s σ H R I h;refine Call_ (uO I hg hm boot_range (PyProof.Rows.callWith_type1 (thn (ha pos pins s σ H _ I h) λus s1 ⟨vs,H1,I1,r1,q1⟩=>?_) hs rfl));obtain ⟨j,e,q1,q2,q⟩:=q1;subst e;cases r1 with
 | cons r rr =>
  cases rr;obtain ⟨t,rfl⟩:=r;exact call_range_1 (DE I1 Oo Oo q1 q2 (by simpa using q))
theorem KU{a b:Expr}{ta:TA}{p pos:Pos}(hg:Gl X "range")(hm:X.mg "range" = none)(ha:PA X [a,b] ta)(hs:starEach [a,b] X.env=[(false,eval a X.env),(false,eval b X.env)]:=by rfl)(hs2:starEach [b] X.env=[(false,eval b X.env)]:=by rfl) :
  PI X tg (.Call (.Name "range" p) [a,b] [] pos) (XF ta):=by
 intro pins s σ H R I h;refine Call_ (uO I hg hm boot_range (PyProof.Rows.callWith_type1 (thn (ha pos pins s σ H _ I h) λus s1 ⟨vs,H1,I1,r1,q1⟩=>?_) (by rw [hs,hs2]) (by rw [hs2];rfl)));obtain ⟨i,j,e,⟨q1,q2,q3,q4⟩,q⟩:=q1;subst e;cases r1 with
 | cons r rr =>
  cases rr with
  | cons r' rr =>
   cases rr;obtain ⟨t,rfl⟩:=r;obtain ⟨t',rfl⟩:=r';exact call_range_2 (DE I1 q1 q2 q3 q4 q)
def aBt(wi:TI)(g:TG)(tb:TS):TS:=λD σ H=>wi σ H λJ H1=>∃W:Nat->Nat->St->Hp->Prop,(∃m,W 0 m σ H1)/\∀i m σ H,W i m σ H ->
 (J.stop i H/\D.nx σ H)\/(J.go i H/\∃N:St->Hp->Prop,(∀σ' H',N σ' H'->∃m',m' < m/\W (i+1) m' σ' H')/\∀x H',J.yld i H x H'->g x σ H' λσ2 H2=>tb { D with nx:=N,ct:=N,bk:=D.nx } σ2 H2)
def uI(fp:List Addr)(h:Heap):List (Addr × Obj):=fp.filterMap λb=>(h.get? b).map λo=>(b,o)
theorem kL{fp:List Addr}{h:Heap}{b:Addr}{o:Obj}(hb:b∈fp)(e:h.get? b=some o):(b,o)∈uI fp h:=List.mem_filterMap.mpr ⟨b,hb,by rw [e];rfl⟩
theorem KZ{fp:List Addr}{h:Heap}{p:Addr × Obj}(hp:p∈uI fp h):p.1∈fp/\h.get? p.1=some p.2:=by
 obtain ⟨b,hb,e⟩:=List.mem_filterMap.mp hp;cases q:h.get? b with
 | none=>rw [q] at e;cases e
 | some o =>
  rw [q] at e;have e':(b,o)=p:=hZ e;subst e';exact ⟨hb,q⟩
theorem cJ.pinned{pins:List (Addr × Obj)}{σ:St}{H:Hp}{s:Shared}{fp:List Addr}(I:cJ X pins σ H s)(hf:∀b∈fp,lG X pins H b)(ho:∀b∈fp,∃o,s.heap.get? b=some o/\∀v,o.data ≠ .cell v):cJ X (pins++uI fp s.heap) σ H s :=
 I.pins_of λp hp=>(cE.mp hp).elim (λz=>I.pin p (bI _ z)) λz=>by
  obtain ⟨hb,e⟩:=KZ z;obtain ⟨f0,f1,f2,_⟩:=hf p.1 hb;obtain ⟨o,e',d⟩:=ho p.1 hb;rw [e] at e';cases e';exact ⟨e,f0,f1,f2,d⟩
theorem cJ.unpinned{pins pl:List (Addr × Obj)}{σ:St}{H:Hp}{s:Shared}(I:cJ X (pins++pl) σ H s):cJ X pins σ H s:=I.pins_of λp hp=>I.pin p (bI _ (bZ _ hp))
theorem aAi{iter:Expr}{body:List Stmt}{wi:TI}{g:TG}{tb:TS}{pos:Pos}(hp:PassesOwn (model X.prog X.w) X.A X.env X.xe)(hc:X.calm=true)(hi:PI X tg iter wi)(hg:PG X tg g)(hb:GW X body tb)
  (hs:∀x,foldedSetIterable iter X.env x=pure x:=by intro _;rfl):PS X (.For tg iter body [] pos) (aBt wi g tb):=by
 intro pins s σ H D I h;refine wpAny_For (thn (hi pins s σ H _ I h) λv s1 h1=>thn h1 λitv s2 h2=>?_) hs;obtain ⟨it,fp,tn,J,H2,e,I2,T,st2,f2,W,⟨m0,w0⟩,turn⟩:=h2;subst e;have stat:∀{H':Hp},(∀b∈fp,H' b=none)->∀b∈fp,lG X pins H' b:=λhn b hb=>⟨hn b hb,(f2 b hb).2⟩;refine codeAny_forLoop_any (λn s'=>∃i σ' H',cJ X pins σ' H' s'/\tn i s'.heap/\(∀b∈fp,H' b=none)/\W i n σ' H') ?_ m0 ⟨0,σ,H2,I2,st2,λb hb=>(f2 b hb).1,w0⟩;rintro n s3 ⟨i,σ3,H3,I3,st3,fr3,w3⟩;rcases turn i n σ3 H3 w3 with ⟨stop,qn⟩ | ⟨go,N,hN,step⟩
 ·refine wpAny_passesOwn hp (thn (T.done X rfl rfl rfl hc i pins s3 σ3 H3 X.xe I3 (stat fr3) st3 stop) λr s4 ⟨hr,I4⟩=>?_);subst hr;exact wpAny_execs_nil ⟨σ3,H3,I4,qn⟩
 ·refine wpAny_passesOwn hp (thn (T.item X rfl rfl rfl hc i pins s3 σ3 H3 X.xe I3 (stat fr3) st3 go) λr s4 ⟨u,hr,h4⟩=>?_);subst hr;refine wpAny_passesOwn hp (thn h4 λ_ s5 ⟨x,H5,I5,r5,y5,st5,fr5⟩=>?_);have I5':=I5.pinned (stat fr5) (T.obj _ _ st5);refine wpAny_passesOwn hp (thn (hg _ s5 σ3 H5 x u _ I5' r5 (step x H5 y5)) λ_ s6 ⟨σ6,H6,I6,q6⟩=>?_);refine wpAny_passesOwn hp (thn (hb _ s6 σ6 H6 _ I6 q6) λf s7 q7=>?_);have again:∀{σ7:St} {H7:Hp},cJ X (pins++uI fp s5.heap) σ7 H7 s7->N σ7 H7->∃m,m<n/\∃i σ' H',cJ X pins σ' H' s7/\tn i s7.heap/\(∀b∈fp,H' b=none)/\W i m σ' H':=λ{σ7 H7} I7 n7=>by
   obtain ⟨m',hm,w7⟩:=hN σ7 H7 n7;refine ⟨m',hm,i+1,σ7,H7,I7.unpinned,T.keep _ _ _ st5 λb hb o e=>(I7.pin (b,o) (bI _ (bI _ (kL hb e)))).1,λb hb=>?_,w7⟩;obtain ⟨o,e,d⟩:=T.obj _ _ st5 b hb;exact (I7.pin (b,o) (bI _ (bI _ (kL hb e)))).2.1
  cases f with
  | next=>obtain ⟨σ7,H7,I7,n7⟩:=q7;exact again I7 n7
  | cont=>obtain ⟨σ7,H7,I7,n7⟩:=q7;exact again I7 n7
  | brk=>obtain ⟨σ7,H7,I7,q7⟩:=q7;exact ⟨σ7,H7,I7.unpinned,q7⟩
  | ret v=>obtain ⟨x7,σ7,H7,I7,r7,q7⟩:=q7;exact ⟨x7,σ7,H7,I7.unpinned,r7,q7⟩
end
theorem kA{K:PySem.W.Frag}{a:Addr}{xs:List V}{g:TG}{tb:TS}{D:rN}{σ:St}{H:Hp}(Pv:Nat->St->Hp->Prop)(h0:Pv 0 σ H)(hl:∀i σ H,i<=xs.length->Pv i σ H->fI K H a xs)
  (hs:∀i x σ H,xs[i]?=some x->Pv i σ H->g x σ H λσ2 H2=>tb { D with nx:=Pv (i+1),ct:=Pv (i+1),bk:=D.nx } σ2 H2) (hd:∀σ H,Pv xs.length σ H->D.nx σ H) :
  ∃W:Nat->Nat->St->Hp->Prop,(∃m,W 0 m σ H)/\∀i m σ H,W i m σ H ->
   ((XU K a).stop i H/\D.nx σ H)\/((XU K a).go i H/\∃N:St->Hp->Prop,(∀σ' H',N σ' H'->∃m',m' < m/\W (i+1) m' σ' H')/\∀x H',(XU K a).yld i H x H'->g x σ H' λσ2 H2=>tb { D with nx:=N,ct:=N,bk:=D.nx } σ2 H2):=by
 refine ⟨λi m σ H=>m=xs.length-i/\i<=xs.length/\Pv i σ H,⟨xs.length,by simp,cG _,h0⟩,?_⟩;rintro i m σ H ⟨rfl,hi,p⟩;have q:=hl i σ H hi p;by_cases hlt:i<xs.length
 ·refine .inr ⟨⟨xs,xs[i],q,by simp [hlt]⟩,Pv (i+1),λσ' H' p'=>⟨xs.length-(i+1),Oo,rfl,hlt,p'⟩,λx H' y=>?_⟩;obtain ⟨e,y⟩:=y;subst e;exact hs i x σ _ (y xs q) p
 ·have e:i=xs.length:=Oo;subst e;exact .inl ⟨⟨xs,q,aL _⟩,hd σ H p⟩
theorem VF{K:PySem.W.Frag}{a:Addr}{xs:List V}{g:TG}{tb:TS}{D:rN}{σ:St}{H:Hp}(Pv:Nat->St->Hp->Prop)(h0:Pv 0 σ H)(hl:∀i σ H,i<=xs.length->Pv i σ H->jM K H a xs)
  (hs:∀i x σ H,xs[i]?=some x->Pv i σ H->g x σ H λσ2 H2=>tb { D with nx:=Pv (i+1),ct:=Pv (i+1),bk:=D.nx } σ2 H2) (hd:∀σ H,Pv xs.length σ H->D.nx σ H) :
  ∃W:Nat->Nat->St->Hp->Prop,(∃m,W 0 m σ H)/\∀i m σ H,W i m σ H ->
   ((Itt K a).stop i H/\D.nx σ H)\/((Itt K a).go i H/\∃N:St->Hp->Prop,(∀σ' H',N σ' H'->∃m',m' < m/\W (i+1) m' σ' H')/\∀x H',(Itt K a).yld i H x H'->g x σ H' λσ2 H2=>tb { D with nx:=N,ct:=N,bk:=D.nx } σ2 H2):=by
 refine ⟨λi m σ H=>m=xs.length-i/\i<=xs.length/\Pv i σ H,⟨xs.length,by simp,cG _,h0⟩,?_⟩;rintro i m σ H ⟨rfl,hi,p⟩;have q:=hl i σ H hi p;by_cases hlt:i<xs.length
 ·refine .inr ⟨⟨xs,xs[i],q,by simp [hlt]⟩,Pv (i+1),λσ' H' p'=>⟨xs.length-(i+1),Oo,rfl,hlt,p'⟩,λx H' y=>?_⟩;obtain ⟨e,y⟩:=y;subst e;exact hs i x σ _ (y xs q) p
 ·have e:i=xs.length:=Oo;subst e;exact .inl ⟨⟨xs,q,aL _⟩,hd σ H p⟩
theorem gI{lo:Int}{n:Nat}{g:TG}{tb:TS}{D:rN}{σ:St}{H:Hp}(Pv:Nat->St->Hp->Prop)(h0:Pv 0 σ H)
  (hs:∀i σ H,i<n->Pv i σ H->g (.int (lo+i)) σ H λσ2 H2=>tb { D with nx:=Pv (i+1),ct:=Pv (i+1),bk:=D.nx } σ2 H2) (hd:∀σ H,Pv n σ H->D.nx σ H) :
  ∃W:Nat->Nat->St->Hp->Prop,(∃m,W 0 m σ H)/\∀i m σ H,W i m σ H ->
   ((WI lo n).stop i H/\D.nx σ H)\/((WI lo n).go i H/\∃N:St->Hp->Prop,(∀σ' H',N σ' H'->∃m',m' < m/\W (i+1) m' σ' H')/\∀x H',(WI lo n).yld i H x H'->g x σ H' λσ2 H2=>tb { D with nx:=N,ct:=N,bk:=D.nx } σ2 H2):=by
 refine ⟨λi m σ H=>m=n-i/\i<=n/\Pv i σ H,⟨n,by simp,cG _,h0⟩,?_⟩;rintro i m σ H ⟨rfl,hi,p⟩;by_cases hlt:i<n
 ·refine .inr ⟨hlt,Pv (i+1),λσ' H' p'=>⟨n-(i+1),Oo,rfl,hlt,p'⟩,λx H' y=>?_⟩;obtain ⟨e,y⟩:=y;subst e y;exact hs i σ _ hlt p
 ·have e:i=n:=Oo;subst e;exact .inl ⟨aL _,hd σ H p⟩
abbrev R2:=V->V->Hp->VK->Prop
def vB(X:Cx)(f:Value->Value->Sem Value)(r:R2):Prop :=
 ∀(pins:List (Addr × Obj)) (s:Shared) (σ:St) (H:Hp) (x y:V) (v u:Value) (Q:VK),cJ X pins σ H s->eB x v->eB y u->r x y H Q ->
  wpAny (model X.prog X.w) X.A (f v u) (EP X pins σ Q) X.xe s
def UnR(X:Cx)(f:Value->Sem Value)(r:V->Hp->VK->Prop):Prop :=
 ∀(pins:List (Addr × Obj)) (s:Shared) (σ:St) (H:Hp) (x:V) (v:Value) (Q:VK),cJ X pins σ H s->eB x v->r x H Q ->
  wpAny (model X.prog X.w) X.A (f v) (EP X pins σ Q) X.xe s
def lE(X:Cx)(f:Value)(r:List V->Hp->VK->Prop):Prop :=
 ∀(pins:List (Addr × Obj)) (s:Shared) (σ:St) (H:Hp) (xs:List V) (us:List Value) (Q:VK),cJ X pins σ H s->dI xs us->r xs H Q ->
  wpAny (model X.prog X.w) X.A (call f us) (EP X pins σ Q) X.xe s
def RG(r:R2)(ta tb:TE):TE:=λσ H Q=>ta σ H λx H1=>tb σ H1 λy H2=>r x y H2 Q
def tUn(r:V->Hp->VK->Prop)(ta:TE):TE:=λσ H Q=>ta σ H λx H1=>r x H1 Q
def rI(C:Int->Int->Prop)(g:Int->Int->V):R2:=λx y H Q=>∃i j,x=.int i/\y=.int j/\C i j/\Q (g i j) H
def rI0(g:Int->Int->V):R2:=λx y H Q=>∃i j,x=.int i/\y=.int j/\Q (g i j) H
def rU(g:Int->V):V->Hp->VK->Prop:=λx H Q=>∃i,x=.int i/\Q (g i) H
section
variable{X:Cx}{a b c:Expr}{ta tb tc:TE}{pos:Pos}
theorem aA3(ha:PE X a ta)(hb:PE X b tb){pins:List (Addr × Obj)}{s:Shared}{σ:St}{H:Hp}{R:V->V->Hp->Prop}(I:cJ X pins σ H s)
  (h:ta σ H λx H1=>tb σ H1 λy H2=>R x y H2) {Q:Value->Shared->Prop} {f:Value->Value->Sem Value}
  (hf:∀v u s2 x y H2,cJ X pins σ H2 s2->eB x v->eB y u->R x y H2->wpAny (model X.prog X.w) X.A (f v u) Q X.xe s2) :
  wpAny (model X.prog X.w) X.A (eval a X.env) (λv s₁=>wpAny (model X.prog X.w) X.A (eval b X.env) (λu s₂=>wpAny (model X.prog X.w) X.A (f v u) Q X.xe s₂) X.xe s₁) X.xe s:=by
 refine thn (ha pins s σ H _ I h) λv s1 ⟨x,H1,I1,r1,q1⟩=>?_;refine thn (hb pins s1 σ H1 _ I1 q1) λu s2 ⟨y,H2,I2,r2,q2⟩=>?_;exact hf v u s2 x y H2 I2 r1 r2 q2
theorem aBP{op:Operator}{r:R2}(ho:vB X (binaryOp op) r)(ha:PE X a ta)(hb:PE X b tb):PE X (.BinOp a op b pos) (RG r ta tb):=by
 intro pins s σ H Q I h;exact wpAny_BinOp (aA3 ha hb I h λv u s2 x y H2 I2 rx ry q=>ho pins s2 σ H2 x y v u Q I2 rx ry q)
theorem aBO{op:UnaryOp}{r:V->Hp->VK->Prop}(ho:UnR X (unaryOp op) r)(ha:PE X a ta):PE X (.UnaryOp op a pos) (tUn r ta):=by
 intro pins s σ H Q I h;exact UnaryOp_ (thn (ha pins s σ H _ I h) λv s1 ⟨x,H1,I1,r1,q1⟩=>ho pins s1 σ H1 x v Q I1 r1 q1)
theorem opI{f:Value->Value->Sem Value}{C:Int->Int->Prop}{g:Int->Int->Int}
  (rule:∀(i j:Int) (t u:Tok) (s:Shared) (Q:Value->Shared->Prop) (E:Value->Shared->Prop),C i j->Q (.int (g i j) s.toks) { s with toks:=s.toks+1 }->wpAny (model X.prog X.w) X.A (f (.int i t) (.int j u)) Q E s) :
  vB X f (rI C λi j=>.int (g i j)):=by
 intro pins s σ H x y v u Q I rx ry h;obtain ⟨i,j,rfl,rfl,hc,q⟩:=h;obtain ⟨t,rfl⟩:=rx;obtain ⟨t',rfl⟩:=ry;exact rule i j t t' s _ _ hc ⟨.int (g i j),H,I.tok _,⟨_,rfl⟩,q⟩
theorem aBV{f:Value->Value->Sem Value}{g:Int->Int->Int}
  (rule:∀(i j:Int) (t u:Tok) (s:Shared) (Q:Value->Shared->Prop) (E:Value->Shared->Prop),Q (.int (g i j) s.toks) { s with toks:=s.toks+1 }->wpAny (model X.prog X.w) X.A (f (.int i t) (.int j u)) Q E s) :
  vB X f (rI0 λi j=>.int (g i j)):=by
 intro pins s σ H x y v u Q I rx ry h;obtain ⟨i,j,rfl,rfl,q⟩:=h;obtain ⟨t,rfl⟩:=rx;obtain ⟨t',rfl⟩:=ry;exact rule i j t t' s _ _ ⟨.int (g i j),H,I.tok _,⟨_,rfl⟩,q⟩
theorem aAA{f:Value->Value->Sem Value}{g:Int->Int->Bool}
  (rule:∀(i j:Int) (t u:Tok) (s:Shared) (Q:Value->Shared->Prop) (E:Value->Shared->Prop),Q (.bool (g i j)) s->wpAny (model X.prog X.w) X.A (f (.int i t) (.int j u)) Q E s) :
  vB X f (rI0 λi j=>.bl (g i j)):=by
 intro pins s σ H x y v u Q I rx ry h;obtain ⟨i,j,rfl,rfl,q⟩:=h;obtain ⟨t,rfl⟩:=rx;obtain ⟨t',rfl⟩:=ry;exact rule i j t t' s _ _ ⟨.bl (g i j),H,I,rfl,q⟩
def aD9(i j:Int):Prop:=0<=j/\j<=1000000/\i.natAbs<2^64
theorem dY:vB X (binaryOp .Add) (rI0 λi j=>.int (i+j)):=aBV λ_ _ _ _ _ _ _ q=>add_int q
theorem uJ:vB X (binaryOp .Sub) (rI0 λi j=>.int (i-j)):=aBV λ_ _ _ _ _ _ _ q=>sub_int q
theorem mI:vB X (binaryOp .Mod) (rI (λ_ j=>0<j) λi j=>.int (i % j)):=opI λi j _ _ _ _ _ hc q=>by
 have h1:(0:Int)<j:=hc;exact mod_int' Oo (by rw [Int.fmod_eq_emod_of_nonneg i Oo];exact q)
theorem aAx:vB X (binaryOp .Pow) (rI aD9 λi j=>.int (i^j.toNat)):=opI λ_ _ _ _ _ _ _ hc q=>pow_int_small hc.1 hc.2.1 hc.2.2 q
theorem unI{f:Value->Sem Value}{g:Int->Int}
  (rule:∀(i:Int) (t:Tok) (s:Shared) (Q:Value->Shared->Prop) (E:Value->Shared->Prop),Q (.int (g i) s.toks) { s with toks:=s.toks+1 }->wpAny (model X.prog X.w) X.A (f (.int i t)) Q E s) :
  UnR X f (rU λi=>.int (g i)):=by
 intro pins s σ H x v Q I rx h;obtain ⟨i,rfl,q⟩:=h;obtain ⟨t,rfl⟩:=rx;exact rule i t s _ _ ⟨.int (g i),H,I.tok _,⟨_,rfl⟩,q⟩
theorem AE:UnR X (unaryOp .USub) (rU λi=>.int (-i)):=unI λ_ _ _ _ _ q=>neg_int q
end
def scal:V->V->Bool
 | .non,.non=>true | .non,.int _=>true | .int _,.non=>true | .non,.bl _=>true | .bl _,.non=>true | .non,.str _=>true | .str _,.non=>true
 | .int _,.int _=>true | .bl _,.bl _=>true | .str _,.str _=>true | .byt _,.byt _=>true
 | .int _,.str _=>true | .str _,.int _=>true | .bl _,.str _=>true | .str _,.bl _=>true
 | _,_=>false
def rEq:R2:=λx y H Q=>scal x y=true/\Q (.bl (decide (x=y))) H
def rNe:R2:=λx y H Q=>scal x y=true/\Q (.bl (!decide (x=y))) H
theorem JA{i j:Int}:decide (V.int i=V.int j)=(i == j):=by
 rw [Bool.eq_iff_iff];simp
theorem QH{i j:Bool}:decide (V.bl i=V.bl j)=(i == j):=by
 rw [Bool.eq_iff_iff];simp
theorem IZ{i j:Str}:decide (V.str i=V.str j)=(i == j):=by
 rw [Bool.eq_iff_iff];simp
theorem JB{i j:Array UInt8}:decide (V.byt i=V.byt j)=(i.toList == j.toList):=by
 rw [Bool.eq_iff_iff];cases i;cases j;simp
section
variable{X:Cx}{a b c:Expr}{ta tb tc:TE}{pos:Pos}
theorem eD{pins:List (Addr × Obj)}{σ:St}{H:Hp}{s:Shared}{Q:VK}{k k':Bool}(I:cJ X pins σ H s)(q:Q (.bl k) H)(e:k=k'):EP X pins σ Q (.bool k') s:=by
 subst e;exact ⟨.bl k,H,I,rfl,q⟩
theorem sV:vB X (compareOp .Eq) rEq:=by
 intro pins s σ H x y v u Q I rx ry h;obtain ⟨hs,q⟩:=h;cases x with
 | non =>
  cases rx;cases y with
  | non=>cases ry;exact PySem.EqNone.eq_none_none (eD I q (by simp))
  | bl j=>cases ry;exact PySem.EqNone.eq_none_bool (eD I q (by simp))
  | int j=>obtain ⟨t',rfl⟩:=ry;exact PySem.EqNone.eq_none_int (eD I q (by simp))
  | str j=>obtain ⟨t',rfl⟩:=ry;exact PySem.EqNone.eq_none_str (eD I q (by simp))
  | _=>exact absurd (show false=true from hs) bN
 | bl i =>
  cases rx;cases y with
  | non=>cases ry;exact PySem.EqNone.eq_bool_none (eD I q (by simp))
  | bl j=>cases ry;exact eq_bool (eD I q QH)
  | str j=>obtain ⟨t',rfl⟩:=ry;exact PySem.EqMixed.eq_bool_str (eD I q (by simp))
  | _=>exact absurd (show false=true from hs) bN
 | int i =>
  obtain ⟨t,rfl⟩:=rx;cases y with
  | non=>cases ry;exact PySem.EqNone.eq_int_none (eD I q (by simp))
  | int j=>obtain ⟨t',rfl⟩:=ry;exact eq_int (eD I q JA)
  | str j=>obtain ⟨t',rfl⟩:=ry;exact PySem.EqMixed.eq_int_str (eD I q (by simp))
  | _=>exact absurd (show false=true from hs) bN
 | str i =>
  obtain ⟨t,rfl⟩:=rx;cases y with
  | non=>cases ry;exact PySem.EqNone.eq_str_none (eD I q (by simp))
  | bl j=>cases ry;exact PySem.EqMixed.eq_str_bool (eD I q (by simp))
  | int j=>obtain ⟨t',rfl⟩:=ry;exact PySem.EqMixed.eq_str_int (eD I q (by simp))
  | str j=>obtain ⟨t',rfl⟩:=ry;exact eq_str (eD I q IZ)
  | _=>exact absurd (show false=true from hs) bN
 | byt i =>
  obtain ⟨t,rfl⟩:=rx;cases y with
  | byt j=>obtain ⟨t',rfl⟩:=ry;exact PySem.W.eq_bytes (eD I q JB)
  | _=>exact absurd (show false=true from hs) bN
 | _=>cases y <;> exact absurd (show false=true from hs) bN
theorem aBT:vB X (compareOp .NotEq) rNe:=by
 intro pins s σ H x y v u Q I rx ry h;obtain ⟨hs,q⟩:=h;cases x with
 | non =>
  cases rx;cases y with
  | non=>cases ry;exact PySem.EqNone.ne_none_none (eD I q (by simp))
  | bl j=>cases ry;exact PySem.EqNone.ne_none_bool (eD I q (by simp))
  | int j=>obtain ⟨t',rfl⟩:=ry;exact PySem.EqNone.ne_none_int (eD I q (by simp))
  | str j=>obtain ⟨t',rfl⟩:=ry;exact PySem.EqNone.ne_none_str (eD I q (by simp))
  | _=>exact absurd (show false=true from hs) bN
 | bl i =>
  cases rx;cases y with
  | non=>cases ry;exact PySem.EqNone.ne_bool_none (eD I q (by simp))
  | bl j=>cases ry;exact ne_bool (eD I q (congrArg not QH))
  | str j=>obtain ⟨t',rfl⟩:=ry;exact PySem.EqMixed.ne_bool_str (eD I q (by simp))
  | _=>exact absurd (show false=true from hs) bN
 | int i =>
  obtain ⟨t,rfl⟩:=rx;cases y with
  | non=>cases ry;exact PySem.EqNone.ne_int_none (eD I q (by simp))
  | int j=>obtain ⟨t',rfl⟩:=ry;exact ne_int (eD I q (congrArg not JA))
  | str j=>obtain ⟨t',rfl⟩:=ry;exact PySem.EqMixed.ne_int_str (eD I q (by simp))
  | _=>exact absurd (show false=true from hs) bN
 | str i =>
  obtain ⟨t,rfl⟩:=rx;cases y with
  | non=>cases ry;exact PySem.EqNone.ne_str_none (eD I q (by simp))
  | bl j=>cases ry;exact PySem.EqMixed.ne_str_bool (eD I q (by simp))
  | int j=>obtain ⟨t',rfl⟩:=ry;exact PySem.EqMixed.ne_str_int (eD I q (by simp))
  | str j=>obtain ⟨t',rfl⟩:=ry;exact ne_str (eD I q (congrArg not IZ))
  | _=>exact absurd (show false=true from hs) bN
 | byt i =>
  obtain ⟨t,rfl⟩:=rx;cases y with
  | byt j=>obtain ⟨t',rfl⟩:=ry;exact PySem.W.ne_bytes (eD I q (congrArg not JB))
  | _=>exact absurd (show false=true from hs) bN
 | _=>cases y <;> exact absurd (show false=true from hs) bN
theorem xD:vB X (compareOp .Lt) (rI0 λi j=>.bl (decide (i<j))):=aAA λ_ _ _ _ _ _ _ q=>lt_int q
theorem IK:vB X (compareOp .Gt) (rI0 λi j=>.bl (decide (j<i))):=aAA λ_ _ _ _ _ _ _ q=>gt_int q
theorem aBU:vB X (compareOp .GtE) (rI0 λi j=>.bl (decide (j<=i))):=aAA λ_ _ _ _ _ _ _ q=>ge_int q
theorem aAy:vB X (compareOp .Is) (λx y H Q=>y=.non/\Q (.bl (decide (x=.non))) H):=by
 intro pins s σ H x y v u Q I rx ry h;obtain ⟨rfl,q⟩:=h;cases ry;refine is_none_gen (eD I q ?_);cases x <;> first
  | (cases rx;rfl)
  | (obtain ⟨t,rfl⟩:=rx;rfl)
theorem nomark(b:Expr){op:CmpOp}(h:op ≠ .In:=by decide)(h2:op ≠ .NotIn:=by decide):behindInMarks op b=false:=by
 have e1:(op == CmpOp.In)=false:=by cases op <;> first | rfl | exact absurd rfl h
 have e2:(op == CmpOp.NotIn)=false:=by cases op <;> first | rfl | exact absurd rfl h2
 cases b <;> simp [behindInMarks,e1,e2]
theorem UN{op:CmpOp}{r:R2}(ho:vB X (compareOp op) r)(ha:PE X a ta)(hb:PE X b tb)(hm:behindInMarks op b=false):PE X (.Compare a [op] [b] pos) (RG r ta tb):=by
 intro pins s σ H Q I h;exact wpAny_Compare1 (aA3 ha hb I h λv u s2 x y H2 I2 rx ry q=>ho pins s2 σ H2 x y v u Q I2 rx ry q) hm
def WO(t:TE):TT:=λσ H Q=>t σ H λx H'=>∃k,x=.bl k/\Q k H'
theorem TZ{op:CmpOp}{r:R2}(ho:vB X (compareOp op) r)(ha:PE X a ta)(hb:PE X b tb)(hm:behindInMarks op b=false):PT X (.Compare a [op] [b] pos) (WO (RG r ta tb)):=by
 intro pins s σ H Q I h;refine wpAny_isTrue_Compare1 (thn (ha pins s σ H _ I h) λv s1 ⟨x,H1,I1,r1,q1⟩=>thn (hb pins s1 σ H1 _ I1 q1) λu s2 ⟨y,H2,I2,r2,q2⟩ =>
  thn (ho pins s2 σ H2 x y v u _ I2 r1 r2 q2) λc s3 ⟨z,H3,I3,r3,k,e,q3⟩=>?_) hm
 subst e;cases r3;exact wpAny_truthy_bool ⟨H3,I3,q3⟩
theorem BE:(sizeLine:Nat)<2^63:=by rw [sizeLine_eq];decide
theorem mS{x:V}{us:List Value}(r:dI [x] us):∃u,us=[u]/\eB x u:=by
 cases r with
 | cons r1 r2=>cases r2;exact ⟨_,rfl,r1⟩
theorem QQ:lE X (.builtin "abs") (λxs H Q=>∃i,xs=[.int i]/\Q (.int (if i<0 then -i else i)) H):=by
 intro pins s σ H xs us Q I r h;obtain ⟨i,rfl,q⟩:=h;obtain ⟨u,rfl,t,rfl⟩:=mS r;exact call_abs_int λu tk=>⟨.int (if i<0 then -i else i),H,I.tok _,⟨_,rfl⟩,q⟩
theorem uW:lE X (.type "int") (λxs H Q=>(∃i,xs=[.int i]/\Q (.int i) H)\/∃k,xs=[.bl k]/\Q (.int (if k then 1 else 0)) H):=by
 intro pins s σ H xs us Q I r h;rcases h with ⟨i,rfl,q⟩ | ⟨k,rfl,q⟩
 ·obtain ⟨u,rfl,t,rfl⟩:=mS r;exact call_int_int ⟨.int i,H,I,⟨_,rfl⟩,q⟩
 ·obtain ⟨u,rfl,r1⟩:=mS r;cases r1;exact call_int_bool ⟨.int (if k then 1 else 0),H,I.tok _,⟨_,rfl⟩,q⟩
def aCn(K:PySem.W.Frag)(x:V)(H:Hp)(n:Nat):Prop :=
 match x with
 | .str y=>y.length<=sizeLine/\n=y.length
 | .byt y=>y.size<=sizeLine/\n=y.size
 | .ref p=>(∃xs,fI K H p xs/\n=xs.length)\/∃xs,jM K H p xs/\n=xs.length
 | _=>False
theorem QP:lE X (.builtin "len") (λxs H Q=>∃x n,xs=[x]/\aCn X.K x H n/\Q (.int n) H):=by
 intro pins s σ H xs us Q I r h;obtain ⟨x,n,rfl,e,q⟩:=h;obtain ⟨u,rfl,rx⟩:=mS r;have hl:=BE;have hs:sizeLine=16777216:=sizeLine_eq;cases x with
 | str y =>
  obtain ⟨t,rfl⟩:=rx;obtain ⟨hy,e'⟩:y.length<=sizeLine/\n=y.length:=e;subst e';exact len_str Oo ⟨.int _,H,I.tok _,⟨_,rfl⟩,q⟩
 | byt y =>
  obtain ⟨t,rfl⟩:=rx;obtain ⟨hy,e'⟩:y.size<=sizeLine/\n=y.size:=e;subst e';exact PySem.W.len_bytes Oo ⟨.int _,H,I.tok _,⟨_,rfl⟩,q⟩
 | ref p =>
  cases rx;have e':(∃xs,fI X.K H p xs/\n=xs.length)\/∃xs,jM X.K H p xs/\n=xs.length:=e;rcases e' with ⟨xs,hx,e'⟩ | ⟨xs,hx,e'⟩
  ·subst e';obtain ⟨its,r',pl,hz⟩:=I.list hx;have hlen:=r'.length;exact Calls.call_len_list pl.isList (by simp only [bC];omega) ⟨.int xs.length,H,I.tok _,⟨_,by simp only [bC];rw [hlen]⟩,q⟩
  ·subst e';obtain ⟨its,r',pl,hz⟩:=I.tuple hx;have hlen:=r'.length;exact len_tuple pl (by simp only [bC];omega) ⟨.int xs.length,H,I.tok _,⟨_,by simp only [bC];rw [hlen]⟩,q⟩
 | _=>exact (show False from e).elim
end
structure MC(h:Heap)(x dx C:Addr)(mA:Str->Option Value):Prop where
 obj:h.get? x=some (PySem.W.instObj C dx)
 ns:h.Ns1 dx mA
 ne:dx≠x
theorem LE{h:Heap}{dx:Addr}{mA:Str->Option Value}(n:h.Ns1 dx mA):∃od,h.get? dx=some od/\∀name,PySem.W.lookIn name od=some (mA name):=by
 obtain ⟨o,es,ep,ho,hd,hk,_,hm⟩:=n;refine ⟨o,ho,λname=>?_⟩;have e:=hm name;unfold nsFind findBy at e;rw [<-Array.find?_toList] at e;unfold PySem.W.lookIn;rw [hd];dsimp only;split
 ·rename_i y q
  rw [q] at e;exact congrArg some e
 ·rename_i q
  rw [q] at e;have a:es.toList.any (·.refKey)=false:=by
   rw [List.any_eq_false];intro y hy;obtain ⟨z,t,hkey⟩:=hk y (Array.mem_toList_iff.mp hy);simp [DictEntry.refKey,hkey]
  have a':¬es.toList.any (·.refKey)=true:=by rw [a];exact bN
  rw [if_neg a'];exact congrArg some e
theorem MC.look{h:Heap}{x dx C:Addr}{mA:Str->Option Value}(I:MC h x dx C mA):∃od,PySem.W.InstAt h x (PySem.W.instObj C dx) C (some od)/\∀name,PySem.W.lookIn name od=some (mA name) :=
 let ⟨od,ho,hl⟩:=LE I.ns
 ⟨od,⟨I.obj,rfl,rfl,ho⟩,hl⟩
section
variable{prog:Program}{w:World}{A:Around}{E:Value->Shared->Prop}{s:Shared}{K:PySem.W.Frag}{x dx C f:Addr}{mA:Str->Option Value}{name:Str}{v:Value}
theorem VE{expr:Bool}{Q:Value->Shared->Prop}(X:K.In s.heap)(I:MC s.heap x dx C mA)(hg:PySem.W.plainGet K C name=true)(hh:PySem.W.hasDictIn K C=true)
  (ha:PySem.W.findIn K (.ref C) name=some none) (hv:mA name=some v) (hv':PySem.W.handedIn v=true) (h:Q v { s with toks:=s.toks+1 }) :
  wpAny (model prog w) A (getAttr (.ref x) name expr) Q E s:=by
 obtain ⟨od,J,hl⟩:=I.look;exact PySem.W.get_value X J (PySem.W.plainGet_of hg).1 (PySem.W.findObj_own hh ha rfl (by rw [hl,hv])) hv' h
theorem SM{ns:List Str}{Q:Unit->Shared->Prop}(X:K.In s.heap)(I:MC s.heap x dx C mA)
  (hs:PySem.W.findIn K (.ref C) "__setattr__" = some (some (.builtin "object.__setattr__"))) (hp:PySem.W.plainOver K C=true) (ht:PySem.W.takerIn K C name=some none) (hh:PySem.W.hasDictIn K C=true)
  (hw:PySem.Within mA ns) (hsz:ns.length<=sizeLine)
  (h:∀h',MC h' x dx C (λy=>if y=name then some v else mA y)->Heap.SameBut dx s.heap h'->Q () { s with heap:=h',toks:=s.toks+2 }) :
  wpAny (model prog w) A (setAttr (.ref x) name v) Q E s:=by
 obtain ⟨od,J,hl⟩:=I.look;refine PySem.W.set_plain X J hs (PySem.W.osa_open (s:={ s with toks:=s.toks+1 }) (r:=none) X J hp ht λb=>?_);obtain ⟨cd,hc,hd'⟩:=PySem.W.any_some hh;have hx:s.heap.get? x=some ⟨.ref C,some dx,.plain,#[]⟩:=I.obj;refine wpAny_bind (wpAny_pure (wpAny_bind (wpAny_bind (wpAny_loadPart hx (wpAny_bind (PySem.W.Looks.here (s:={ s with toks:=s.toks+1 }) (PySem.W.looks_clsIn X hc) ?_))))));rw [hd'];refine wpAny_pure (a:=some dx) (wpAny_bind (wpAny_pure (wpAny_bind ?_)));refine wpAny_nsSet1 (s:={ s with toks:=s.toks+1 }) I.ns λh' hn2 hs2=>?_;obtain ⟨oD,esD,epD,hoD,hdD,hcD⟩:=hn2.count (PySem.Within.cons name v hw);refine wpAny_bind (wpAny_lookBehind hoD (by rw [hdD];exact pastItsLine_dict (aK hcD (by rw [bQ];omega))) ?_);exact wpAny_pure (h _ ⟨(hs2.2 _ (Ne.symm I.ne)).trans I.obj,hn2,I.ne⟩ hs2)
theorem PB{R:Result->Shared->Prop}{vs:List Value}{kw:List (Str × Value)}(X:K.In s.heap)(hm:PySem.W.makesIn K C=true)
  (hi:PySem.W.findIn K (.ref C) "__init__" = some (some (.ref f))) (hf:PySem.W.typeIn K (.ref f)=some (.type "function"))
  (h:codeAny (model prog w) (A.under (.builtin "type.__call__" ⟨.ref C::vs,kw⟩)) (.call (.ref f) ⟨.ref (s.heap.objs.size+1)::vs,kw⟩) (PySem.W.InitBack (s.heap.objs.size+1) R)
   { s with heap:=(s.heap.push PySem.W.emptyDict).push (PySem.W.instObj C s.heap.objs.size) }) :
  codeAny (model prog w) A (.call (.ref C) ⟨vs,kw⟩) R s:=by
 obtain ⟨hh,g,d,t,os⟩:=s;exact PySem.W.make_core (PySem.W.makes_of X hm) (PySem.W.looks_findIn X hi) (λself=>PySem.W.bind_fn X self hf) (.inl rfl) h
end
def eC(f:Str)(v:V):List (Str × V)->List (Str × V)
 | []=>[(f,v)]
 | (g,x)::r=>if g=f then (g,v)::r else (g,x)::eC f v r
theorem mY(f g:Str)(v:V):∀fs:List (Str × V),(eC f v fs).lookup g=if g=f then some v else fs.lookup g
 | []=>by
  show List.lookup g [(f,v)]=_;by_cases h:g=f
  ·have hb:(g == f)=true:=beq_iff_eq.mpr h;simp only [List.lookup,hb,if_pos h]
  ·have hb:(g == f)=false:=beq_eq_false_iff_ne.mpr h;simp only [List.lookup,hb,if_neg h]
 | (k,x)::r=>by
  have ih:=mY f g v r;rw [show eC f v ((k,x)::r)=(if k=f then (k,v)::r else (k,x)::eC f v r) from rfl];by_cases hk:k=f
  ·rw [if_pos hk];by_cases h:g=k
   ·have hb:(g == k)=true:=beq_iff_eq.mpr h;simp only [List.lookup,hb,if_pos (h.trans hk)]
   ·have hb:(g == k)=false:=beq_eq_false_iff_ne.mpr h;simp only [List.lookup,hb,if_neg (λe:g=f=>h (e.trans hk.symm))]
  ·rw [if_neg hk];by_cases h:g=k
   ·have hb:(g == k)=true:=beq_iff_eq.mpr h;simp only [List.lookup,hb,if_neg (λe:g=f=>hk (h.symm.trans e))]
   ·have hb:(g == k)=false:=beq_eq_false_iff_ne.mpr h;simp only [List.lookup,hb];exact ih
theorem uP(f:Str)(v:V):∀fs:List (Str × V),f∈(eC f v fs).map (·.1)/\∀g,g∈fs.map (·.1)->g∈(eC f v fs).map (·.1)
 | []=>⟨by simp [eC],λg h=>by simp at h⟩
 | (k,x)::r=>by
  obtain ⟨i1,i2⟩:=uP f v r;rw [show eC f v ((k,x)::r)=(if k=f then (k,v)::r else (k,x)::eC f v r) from rfl];by_cases hk:k=f
  ·rw [if_pos hk];subst hk;exact ⟨by simp,λg h=>by simpa using h⟩
  ·rw [if_neg hk];refine ⟨?_,λg h=>?_⟩
   ·rw [bL];exact aS _ i1
   ·rw [bL] at h ⊢;rcases bF.mp h with e | e
    ·exact bF.mpr (.inl e)
    ·exact aS _ (i2 g e)
theorem jQ(f:Str)(v:V):∀fs:List (Str × V),(eC f v fs).length<=fs.length+1
 | []=>by simp [eC]
 | (k,x)::r=>by
  have ih:=jQ f v r;rw [show eC f v ((k,x)::r)=(if k=f then (k,v)::r else (k,x)::eC f v r) from rfl];by_cases hk:k=f
  ·rw [if_pos hk,bQ,bQ];omega
  ·rw [if_neg hk,bQ,bQ];omega
theorem sD.some_of{v:V}{o:Option Value}(r:sD (some v) o):∃u,o=some u/\eB v u:=by
 cases o with
 | none=>exact (show False from r).elim
 | some u=>exact ⟨u,rfl,r⟩
theorem LK{v:V}{u:Value}(r:eB v u):PySem.W.handedIn u=true:=by
 cases v with
 | non=>cases (show u=Value.none from r);rfl
 | bl b=>cases (show u=Value.bool b from r);rfl
 | int i=>obtain ⟨t,e⟩:=(show ∃t,u=Value.int i t from r);cases e;rfl
 | str x=>obtain ⟨t,e⟩:=(show ∃t,u=Value.str x t from r);cases e;rfl
 | byt b=>obtain ⟨t,e⟩:=(show ∃t,u=Value.bytes b t from r);cases e;rfl
 | flt b=>obtain ⟨t,e⟩:=(show ∃t,u=Value.float b t from r);cases e;rfl
 | ref a=>cases (show u=Value.ref a from r);rfl
 | ty n=>cases (show u=Value.type n from r);rfl
section
variable{P:Program}{w:World}{H H':Hp}{h h':Heap}{a C dx:Addr}{fs fs':List (Str × V)}
theorem IQ(hok:pO P w H h)(e:H a=some (.ins C dx fs)):∃mA,MC h a dx C mA/\(∀f,sD (fs.lookup f) (mA f))/\PySem.Within mA (fs.map (·.1))/\fs.length<=1000/\H dx=some (.own a):=by
 obtain ⟨d,z,ne,ob,mA,n,r,q⟩:=(show fO P w H h a (.ins C dx fs) from hok a _ e);exact ⟨mA,⟨ob,n,ne⟩,r,q,z,d⟩
end
structure XW(K:PySem.W.Frag)(C:Addr):Prop where
 pg:PySem.W.plainGet K C Str.empty=true
 hd:PySem.W.hasDictIn K C=true
 po:PySem.W.plainOver K C=true
 sa:PySem.W.findIn K (.ref C) "__setattr__" = some (some (.builtin "object.__setattr__"))
theorem XW.get{K:PySem.W.Frag}{C:Addr}(c:XW K C)(f:Str):PySem.W.plainGet K C f=true:=c.pg
def lF(K:PySem.W.Frag)(C:Addr)(f:Str):Prop:=PySem.W.findIn K (.ref C) f=some none
theorem lF.taker{K:PySem.W.Frag}{C:Addr}{f:Str}(n:lF K C f):PySem.W.takerIn K C f=some none:=by
 unfold PySem.W.takerIn;rw [show PySem.W.findIn K (.ref C) f=some none from n]
 rfl
section
variable{X:Cx}{pins:List (Addr × Obj)}{σ:St}{H:Hp}{s:Shared}{a C dx:Addr}{fs:List (Str × V)}{f:Str}{v:V}{A:Around}{E:Value->Shared->Prop}
theorem GM{b:Bool}{Q:Value->Shared->Prop}(I:cJ X pins σ H s)(e:H a=some (.ins C dx fs))(c:XW X.K C)(n:lF X.K C f)(l:fs.lookup f=some v)
  (h:∀u s',cJ X pins σ H s'->eB v u->Q u s'):wpAny (model X.prog X.w) A (getAttr (.ref a) f b) Q E s:=by
 obtain ⟨mA,O,r,_,_,_⟩:=IQ I.hok e;obtain ⟨u,hu,ru⟩:=sD.some_of (v:=v) (o:=mA f) (by rw [<-l];exact r f);exact VE I.kIn O (c.get f) c.hd n hu (LK ru) (h u _ (I.tok _) ru)
theorem FW{y:V}{u:Value}{Q:Unit->Shared->Prop}(I:cJ X pins σ H s)(e:H a=some (.ins C dx fs))(c:XW X.K C)(n:lF X.K C f)(hl:fs.length<1000)(ry:eB y u)
  (h:∀s',cJ X pins σ (upd H a (.ins C dx (eC f y fs))) s'->Q () s'):wpAny (model X.prog X.w) A (setAttr (.ref a) f u) Q E s:=by
 obtain ⟨mA,O,r,wi,_,ho⟩:=IQ I.hok e;have hz:(fs.map (·.1)).length<=sizeLine:=by rw [aA,sizeLine_eq];omega
 refine SM I.kIn O c.sa c.po n.taker c.hd wi hz λh' O' sb=>h _ ?_;have hd:∃o,h'.get? dx=some o:=let ⟨o,_,_,e',_⟩:=O'.ns;⟨o,e'⟩;refine I.write (x:=a) (e:=dx) (by rw [e];exact True.intro) (.inr ho) (λb q hb z=>(sb.2 b hb).trans z) hd ?_;refine ⟨by rw [dB O.ne];exact ho,?_,O.ne,O'.obj,_,O'.ns,λg=>?_,λg hg=>?_⟩
 ·have:=jQ f y fs;omega
 ·show sD ((eC f y fs).lookup g) (if g=f then some u else mA g);rw [mY];by_cases q:g=f
  ·rw [if_pos q,if_pos q];exact ry
  ·rw [if_neg q,if_neg q];exact r g
 ·by_cases q:g=f
  ·rw [q];exact (uP f y fs).1
  ·refine (uP f y fs).2 g (wi g λz=>hg ?_);show (if g=f then some u else mA g)=none;rw [if_neg q];exact z
theorem cJ.made(I:cJ X pins σ H s):cJ X pins σ (upd (upd H s.heap.objs.size (.own (s.heap.objs.size+1))) (s.heap.objs.size+1) (.ins C s.heap.objs.size []))
  { s with heap:=(s.heap.push PySem.W.emptyDict).push (PySem.W.instObj C s.heap.objs.size) }:=by
 have e1:(s.heap.push PySem.W.emptyDict).get? s.heap.objs.size=some PySem.W.emptyDict:=bB s.heap rfl;have e2:((s.heap.push PySem.W.emptyDict).push (PySem.W.instObj C s.heap.objs.size)).get? (s.heap.objs.size+1)=some (PySem.W.instObj C s.heap.objs.size):=by
  have:=bB (s.heap.push PySem.W.emptyDict) (o:=PySem.W.instObj C s.heap.objs.size) rfl
  rwa [gU] at this
 have e3:(s.heap.push PySem.W.emptyDict).Ns s.heap.objs.size (λ_=>none):=⟨PySem.W.emptyDict,#[],_,e1,rfl,(λe he=>absurd he (by simp)),λ_=>rfl⟩;have I1:=I.laid (a:=s.heap.objs.size) (o:=.own (s.heap.objs.size+1)) (h':=s.heap.push PySem.W.emptyDict) (t':=s.toks) (λb u q=>aE _ q) (aL _) ⟨_,e1⟩;refine I1.laid (a:=s.heap.objs.size+1) (o:=.ins C s.heap.objs.size []) (t':=s.toks) (λb u q=>aE _ q) (Nat.le_of_eq (gU _ _)) ?_;have ne:s.heap.objs.size≠s.heap.objs.size+1:=cR (Nat.lt_succ_self _);refine ⟨by rw [dB ne,bK],cG _,ne,e2,λ_=>none,(Heap.Ns1.of_empty e3).at λo q=>aE _ q,λ_=>True.intro,λy hy=>absurd rfl hy⟩
theorem WB{prog:Program}{w:World}{env:Env}{e:Expr}{f:Str}{pos:Pos}{s:Shared}{Q:Value->Shared->Prop}(hb:attributeBase e f env (eval e env)=eval e env)
  (h:wpAny (model prog w) A (eval e env) (λo s₁=>wpAny (model prog w) A (getAttr o f true) Q E s₁) E s):wpAny (model prog w) A (eval (.Attribute e f pos) env) Q E s :=
 Attribute_any_ h (by rw [arm_eval_Attribute,hb])
end
def aCF(K:PySem.W.Frag)(ta:TE)(f:Str):TE:=λσ H Q=>ta σ H λx H1=>∃a C dx fs v,x=.ref a/\H1 a=some (.ins C dx fs)/\XW K C/\lF K C f/\fs.lookup f=some v/\Q v H1
def aBA(K:PySem.W.Frag)(ta tv:TE)(f:Str):TS:=λD σ H=>tv σ H λy H1=>ta σ H1 λx H2=>∃a C dx fs,x=.ref a/\H2 a=some (.ins C dx fs)/\XW K C/\lF K C f/\fs.length<1000 /\
 D.nx σ (upd H2 a (.ins C dx (eC f y fs)))
section
variable{X:Cx}{o e value:Expr}{f:Str}{pos pos' tpos:Pos}{ta tv:TE}
theorem aAt(he:PE X e ta)(hb:attributeBase e f X.env (eval e X.env)=eval e X.env):PE X (.Attribute e f pos) (aCF X.K ta f):=by
 intro pins s σ H Q I h;refine WB hb (thn (he pins s σ H _ I h) λu s1 ⟨x,H1,I1,rx,a,C,dx,fs,v,ex,ea,c,n,l,q⟩=>?_);subst ex;obtain rfl:u=Value.ref a:=rx;exact GM I1 ea c n l λu' s2 I2 ru=>⟨v,H1,I2,ru,q⟩
theorem aAj(ha:PE X o ta)(hv:PE X value tv)(hs:swapsWith value (some (.Attribute o f pos')) pos.line X.env=pure false):PS X (.Assign [.Attribute o f pos'] value pos) (aBA X.K ta tv f):=by
 intro pins s σ H D I h;refine plainObj_wpAny_Assign_Attribute (thn (hv pins s σ H _ I h) λu s1 ⟨y,H1,I1,ry,q⟩=>thn (ha pins s1 σ H1 _ I1 q) λov s2 ⟨x,H2,I2,rx,a,C,dx,fs,ex,ea,c,n,l,q2⟩=>?_) hs;subst ex;obtain rfl:ov=Value.ref a:=rx;exact FW I2 ea c n l ry λs3 I3=>⟨σ,_,I3,q2⟩
end
section
variable{X:Cx}{pins:List (Addr × Obj)}{σ:St}{H:Hp}{s:Shared}{A:Around}{E:Value->Shared->Prop}{Q:Value->Shared->Prop}{c:Value}{b:Bool}
end
structure jS(k:Nat)(A:Around):Prop where
 hd:A.handled=none
 dp:A.depth+3*k+5<recursionLimit
 un:A.units+16*k+200<cLine
 gd:A.guards=some []
theorem jS.mono{j k:Nat}{A:Around}(r:jS k A)(h:j<=k):jS j A:=⟨r.hd,by have:=r.dp;omega,by have:=r.un;omega,r.gd⟩
theorem jS.deeper{k:Nat}{A:Around}(r:jS (k+1) A)(env:Env):jS k (A.deeper env) :=
 ⟨r.hd,by have:=r.dp;show A.depth+1+3*k+5<_;omega,by have:=r.un;show A.units+3+16*k+200<_;omega,r.gd⟩
theorem GI{A:Around}{C:Addr}{us:List Value}{kw:List (Str × Value)}:(A.under (.builtin "type.__call__" ⟨.ref C::us,kw⟩)).depth=A.depth+1:=by
 first | rfl | simp [Around.under,Code.weight,Code.isCreation,Code.isGuard,Code.isCaller,Code.frames,Code.isFrame,guardIds]
theorem GH{A:Around}{C:Addr}{us:List Value}{kw:List (Str × Value)}:(A.under (.builtin "type.__call__" ⟨.ref C::us,kw⟩)).units=A.units+1:=by
 first | rfl | simp [Around.under,Code.cUnits,Code.frames,Code.isFrame]
theorem jS.make{k:Nat}{A:Around}(r:jS (k+1) A)(C:Addr)(us:List Value)(kw:List (Str × Value)):jS k (A.under (.builtin "type.__call__" ⟨.ref C::us,kw⟩)) :=
 ⟨r.hd,by have:=r.dp;rw [GI];omega,by have:=r.un;rw [GH];omega,by first | exact r.gd | (simpa [Around.under,Code.guards,Code.isGuard,guardIds,pushGuards] using r.gd)⟩
theorem jS.depth{k:Nat}{A:Around}(r:jS k A):A.depth<recursionLimit:=by have:=r.dp;omega
theorem jS.units{k:Nat}{A:Around}(r:jS k A):A.units+64<cLine:=by have:=r.un;omega
def YL:TA:=λ_ H Q=>Q [] H
def NI(ta:TE)(tr:TA):TA:=λσ H Q=>ta σ H λx H1=>tr σ H1 λxs H2=>Q (x::xs) H2
section
variable{X:Cx}{e:Expr}{es:List Expr}{te:TE}{t:TA}{pos:Pos}
theorem pa_nil:PA X [] YL:=λ_ _ _ _ H Q I h=>Calls.spliced_nil ⟨[],H,I,.nil,h⟩
theorem UP(ha:PE X e te)(hr:PA X es t)(hs:starEach (e::es) X.env=(false,eval e X.env)::starEach es X.env:=by rfl):PA X (e::es) (NI te t):=by
 intro pos pins s σ H Q I h;rw [hs];show wpAny _ _ (spliced ((false,eval e X.env)::backTo pos (starEach es X.env))) _ _ s;refine Calls.spliced_cons (thn (ha pins s σ H _ I h) λu s1 ⟨x,H1,I1,r1,q1⟩=>?_);exact thn (hr pos pins s1 σ H1 _ I1 q1) λus s2 ⟨xs,H2,I2,r2,q2⟩=>⟨x::xs,H2,I2,.cons r1 r2,q2⟩
def aCD(t:TA):TE:=λσ H Q=>t σ H λxs H1=>xs.length<=sizeLine/\∀p,H1 p=none->Q (.ref p) (upd H1 p (.tup xs))
def aCE(t:TA):TE:=λσ H Q=>t σ H λxs H1=>xs.length<=sizeLine/\∀p,H1 p=none->Q (.ref p) (upd H1 p (.lst xs))
theorem aAq{x1}(h:PA X es t):PE X (.Tuple es x1 pos) (aCD t):=by
 intro pins s σ H Q I hq;refine wpAny_Tuple_spliced (thn (h pos pins s σ H _ I hq) λus s1 ⟨xs,H1,I1,r,z,q⟩=>⟨by rw [<-r.length];exact z,?_⟩);have hf:H1 s1.heap.objs.size=none:=I1.hok.fresh (aL _);refine ⟨.ref s1.heap.objs.size,upd H1 s1.heap.objs.size (.tup xs),I1.laid (t':=s1.toks) (λb u e=>aE _ e) (aL _) ?_,rfl,q _ hf⟩;exact ⟨⟨z,_,bB _ rfl,rfl⟩,us,r,⟨_,bB _ rfl,rfl,_,rfl⟩⟩
theorem aAs(h:PA X es t):PE X (.List es pos) (aCE t):=by
 intro pins s σ H Q I hq;refine wpAny_List_spliced (thn (h pos pins s σ H _ I hq) λus s1 ⟨xs,H1,I1,r,z,q⟩=>⟨by rw [<-r.length];exact z,?_⟩);have hf:H1 s1.heap.objs.size=none:=I1.hok.fresh (aL _);refine ⟨.ref s1.heap.objs.size,upd H1 s1.heap.objs.size (.lst xs),I1.laid (t':=s1.toks) (λb u e=>aE _ e) (aL _) ?_,rfl,q _ hf⟩;exact ⟨z,us,0,r,bB _ rfl⟩
end
abbrev Sp:=List V->Hp->VK->XK->Prop
abbrev MD:=List Env->Hp->Shared->XK->Value->Shared->Prop
structure HB(P:Program)(w:World)(K:PySem.W.Frag)(mg:Str->Option Value)(base:Heap)(A:Around)(outer:List Env)(s:Shared)(H:Hp):Prop where
 frames:A.frames=some outer
 mod:Mod K mg base
 bs:∀b o,base.get? b=some o->s.heap.get? b=some o/\H b=none
 bsz:base.objs.size<=s.heap.objs.size
 funs:s.heap.FunFrames base outer
 frf:∀b∈frs outer,H b=none
 hok:pO P w H s.heap
 bare:AllBare s.gens
def CE(outer:List Env)(P:Program)(w:World)(H:Hp)(s:Shared)(Q:VK)(u:Value)(s':Shared):Prop :=
 ∃v H',s'.os=s.os/\AllBare s'.gens/\Un (frs outer) [] H H' s.heap s'.heap/\pO P w H' s'.heap/\eB v u/\Q v H'
def CR(CX:MD)(outer:List Env)(P:Program)(w:World)(H:Hp)(s:Shared)(Q:VK)(E:XK)(r:Result)(s':Shared):Prop :=
 match r with
 | .ok (.ret u)=>CE outer P w H s Q u s'
 | .ok _=>False
 | .error e=>CX outer H s E e s'
structure dM(P:Program)(w:World)(K:PySem.W.Frag)(mg:Str->Option Value)(base:Heap)(CX:MD)(k:Nat)(f:Addr)(fd:FuncData)(ps:List Str)(sp:Sp):Prop where
 len:∀vs H Q E,sp vs H Q E->vs.length=ps.length
 run:∀(A:Around) (outer:List Env) (s:Shared) (H:Hp) (args:Args) (us:List Value) (vs:List V) (Q:VK) (E:XK),jS k A->HB P w K mg base A outer s H->BindsTo s fd args (ps.zip us)->dI vs us->sp vs H Q E ->
  codeAny (model P w) A (.call (.ref f) args) (CR CX outer P w H s Q E) s
theorem HB.make{P:Program}{w:World}{K:PySem.W.Frag}{mg:Str->Option Value}{base:Heap}{A:Around}{outer:List Env}{s:Shared}{H:Hp}(e:HB P w K mg base A outer s H)(C:Addr)(us:List Value)(kw:List (Str × Value)) :
  HB P w K mg base (A.under (.builtin "type.__call__" ⟨.ref C::us,kw⟩)) outer s H:=⟨by first | exact e.frames | (simpa [Around.under,Code.envs,Code.isFrame,pushEnvs] using e.frames),e.mod,e.bs,e.bsz,e.funs,e.frf,e.hok,e.bare⟩
section
variable{X:Cx}{pins:List (Addr × Obj)}{σ:St}{H:Hp}{s s':Shared}
theorem cJ.env0(I:cJ X pins σ H s):HB X.prog X.w X.K X.mg X.base X.A X.stack s H :=
 ⟨I.ok.frames,I.ok.mod,I.bs,aK I.ok.bsz I.sz,I.stack,I.stkFree,I.hok,I.bare⟩
theorem cJ.after{Q:VK}{u:Value}(I:cJ X pins σ H s)(h:CE X.stack X.prog X.w H s Q u s'):EP X pins σ Q u s':=by
 obtain ⟨v,H',os,bare,un,hok,r,q⟩:=h;obtain ⟨hh,g,d,t,os'⟩:=s';obtain rfl:os'=s.os:=os;exact ⟨v,H',I.call (h':=hh) (g':=g) (d':=d) (t':=t) (ch:=[]) un hok bare (λb z=>absurd z (by simp)),r,q⟩
end
def NJ(sp:Sp)(dvs:List V)(E:XK)(t:TA):TE:=λσ H Q=>t σ H λvs H1=>sp (vs++dvs) H1 Q E
def WR(C:Addr)(sp:Sp)(dvs:List V)(E:XK)(t:TA):TE:=λσ H Q=>t σ H λvs H1=>∀x dx,H1 x=none->H1 dx=none->dx≠x ->
 sp (.ref x::(vs++dvs)) (upd (upd H1 dx (.own x)) x (.ins C dx [])) (λv H2=>v=.non/\Q (.ref x) H2) E
def tP(K:PySem.W.Frag)(fd:FuncData)(ps:List Str)(ds:List Value):Prop :=
 ∀(s:Shared) (us:List Value),K.In s.heap->(us++ds).length=ps.length->BindsTo s fd ⟨us,[]⟩ (ps.zip (us++ds))
theorem tP.all{K:PySem.W.Frag}{fd:FuncData}{ps:List Str}(h:∀us:List Value,us.length=ps.length->bindArgs fd ⟨us,[]⟩=pure (ps.zip us)):tP K fd ps []:=λs us _ hl=>by
 rw [List.append_nil] at hl ⊢;exact .of_eq (h us hl)
def yE(CX:MD)(X:Cx)(E:XK):Prop:=∀(pins:List (Addr × Obj)) (σ:St) (H:Hp) (s:Shared) (e:Value) (s':Shared),cJ X pins σ H s->CX X.stack H s E e s'->X.xe e s'
section
variable{X:Cx}{CX:MD}{k:Nat}{f C:Addr}{fd:FuncData}{ps:List Str}{sp:Sp}{dvs:List V}{ds:List Value}{E:XK}{x m:Str}{p pos apos:Pos}{e o:Expr}{es:List Expr}{ta:TE}{t:TA}
theorem ZW{pins:List (Addr × Obj)}{σ:St}{H:Hp}{s:Shared}{Q:VK}{us:List Value}{vs:List V}(F:dM X.prog X.w X.K X.mg X.base CX k f fd ps sp)(hr:jS k X.A)(hb:tP X.K fd ps ds)(hd:dI dvs ds)(hx:yE CX X E)
  (I:cJ X pins σ H s) (r:dI vs us) (h:sp (vs++dvs) H Q E):wpAny (model X.prog X.w) X.A (call (.ref f) us) (EP X pins σ Q) X.xe s:=by
 have r2:dI (vs++dvs) (us++ds):=r.append hd;have hl:(us++ds).length=ps.length:=by rw [<-r2.length];exact F.len _ _ _ _ h
 refine wpAny_call (codeAny_mono (F.run X.A X.stack s H ⟨us,[]⟩ (us++ds) (vs++dvs) Q E hr I.env0 (hb s us I.kIn hl) r2 h) λr s' hq=>?_);cases r with
 | error e=>exact hx pins σ H s e s' I hq
 | ok fl =>
  cases fl with
  | ret u=>exact I.after hq
  | next=>exact False.elim hq
  | brk=>exact False.elim hq
  | cont=>exact False.elim hq
theorem UO(F:dM X.prog X.w X.K X.mg X.base CX k f fd ps sp)(hr:jS k X.A)(hg:Gl X x)(hm:X.mg x=some (.ref f))(hk:PySem.W.keepIn X.K (.ref f)=true)(hb:tP X.K fd ps ds)(hd:dI dvs ds)(hx:yE CX X E)
  (ha:PA X (e::es) t) (hdb:(x == ("__debug__" : Str))=false:=by decide) (he:starEach (e::es) X.env=(false,eval e X.env)::starEach es X.env:=by rfl) (hpl:(backTo pos (starEach es X.env)).any (·.1)=false:=by rfl) :
  PE X (.Call (.Name x p) (e::es) [] pos) (NJ sp dvs E t):=by
 intro pins s σ H Q I h;refine wpAny_Call_Name_kw (BJ I hg hm ?_ hdb);refine PySem.W.callWith_K (h₀:=X.base) I.ok.mod.kin hk (thn (ha pos pins s σ H _ I h) λus s1 ⟨vs,H1,I1,r,q⟩=>⟨I1.kIn,?_⟩) he hpl;exact ZW F hr hb hd hx I1 r q
structure Mk(K:PySem.W.Frag)(C f:Addr):Prop where
 makes:PySem.W.makesIn K C=true
 init:PySem.W.findIn K (.ref C) "__init__" = some (some (.ref f))
 fn:PySem.W.isFn K (.ref f)=true
 kp:PySem.W.keepIn K (.ref C)=true
theorem NZ{pins:List (Addr × Obj)}{σ:St}{H:Hp}{s:Shared}{Q:VK}{us:List Value}{vs:List V}(M:Mk X.K C f)(F:dM X.prog X.w X.K X.mg X.base CX k f fd ps sp)(hr:jS (k+1) X.A)(hb:tP X.K fd ps ds)(hd:dI dvs ds)
  (hx:yE CX X E) (I:cJ X pins σ H s) (r:dI vs us)
  (h:∀x dx,H x=none->H dx=none->dx≠x->sp (.ref x::(vs++dvs)) (upd (upd H dx (.own x)) x (.ins C dx [])) (λv H2=>v=.non/\Q (.ref x) H2) E) :
  wpAny (model X.prog X.w) X.A (call (.ref C) us) (EP X pins σ Q) X.xe s:=by
 have hq:=h (s.heap.objs.size+1) s.heap.objs.size (I.hok.fresh (Nat.le_succ _)) (I.hok.fresh (aL _)) (cR (Nat.lt_succ_self _));have I2:=cJ.made (C:=C) I;have r2:dI (V.ref (s.heap.objs.size+1)::(vs++dvs)) (Value.ref (s.heap.objs.size+1)::(us++ds)):=.cons rfl (r.append hd);have hl:(Value.ref (s.heap.objs.size+1)::us++ds).length=ps.length:=by
  have e:=r2.length;rw [F.len _ _ _ _ hq] at e;exact e.symm
 refine wpAny_call (PB (f:=f) I.kIn M.makes M.init (beq_iff_eq.mp M.fn) (codeAny_mono (F.run _ X.stack _ _ ⟨Value.ref (s.heap.objs.size+1)::us,[]⟩ (Value.ref (s.heap.objs.size+1)::(us++ds)) _ _ E (hr.make C us [])
  (I2.env0.make C us []) (hb _ (Value.ref (s.heap.objs.size+1)::us) I2.kIn hl) r2 hq) λr s' hq'=>?_))
 cases r with
 | error e=>exact hx pins σ _ _ e s' I2 hq'
 | ok fl =>
  cases fl with
  | ret u =>
   obtain ⟨v,H',I3,rv,ev,q3⟩:=I2.after hq';subst ev;exact ⟨rv,⟨V.ref (s.heap.objs.size+1),H',I3,rfl,q3⟩⟩
  | next=>exact False.elim hq'
  | brk=>exact False.elim hq'
  | cont=>exact False.elim hq'
theorem UI(M:Mk X.K C f)(F:dM X.prog X.w X.K X.mg X.base CX k f fd ps sp)(hr:jS (k+1) X.A)(hg:Gl X x)(hm:X.mg x=some (.ref C))(hb:tP X.K fd ps ds)(hd:dI dvs ds)(hx:yE CX X E)
  (ha:PA X (e::es) t) (hdb:(x == ("__debug__" : Str))=false:=by decide) (he:starEach (e::es) X.env=(false,eval e X.env)::starEach es X.env:=by rfl) (hpl:(backTo pos (starEach es X.env)).any (·.1)=false:=by rfl) :
  PE X (.Call (.Name x p) (e::es) [] pos) (WR C sp dvs E t):=by
 intro pins s σ H Q I h;refine wpAny_Call_Name_kw (BJ I hg hm ?_ hdb);refine PySem.W.callWith_K (h₀:=X.base) I.ok.mod.kin M.kp (thn (ha pos pins s σ H _ I h) λus s1 ⟨vs,H1,I1,r,q⟩=>⟨I1.kIn,?_⟩) he hpl;exact NZ M F hr hb hd hx I1 r q
end
section
variable{X:Cx}{CX:MD}{k:Nat}{f C:Addr}{fd:FuncData}{ps ks:List Str}{sp:Sp}{E:XK}{x m:Str}{p pos apos kpos:Pos}{e o:Expr}{es:List Expr}{kws:List Keyword}{te ta:TE}{t tk:TA}{nm:Option Str}
variable{g:List Value->List Value->List Value}{gV:List V->List V->List V}
end
structure bS(N P:List Str)(sc:Scope):Prop where
 kind:sc.kind=.function
 co:sc.isCoroutine=false
 gen:sc.isGenerator=false
 nd:N.Nodup
 pre:N.take P.length=P
 par:∀x∈P,sc.names.lookup x=some .local\/sc.names.lookup x=some .cell
 nofree:∀y∈sc.names,y.2 ≠ .free
theorem zV{kindOf:Str->Option NameKind}{x:Str}:∀{binds:List (Str × Value)}{m:Str->Option Value},(∀v,(x,v) ∉ binds)->bindL kindOf binds m x=m x
 | [],_,_=>rfl
 | (n,v)::r,m,h=>by
  unfold bindL;rw [zV λw hw=>h w (aS _ hw)];split
  ·have:x≠n:=by rintro rfl;exact h v aW
   simp [this]
  ·rfl
theorem zX{kindOf:Str->Option NameKind}{x:Str}:∀{binds:List (Str × Value)}{m:Str->Option Value},(∀v,(x,v) ∉ binds)->bindC kindOf binds m x=m x
 | [],_,_=>rfl
 | (n,v)::r,m,h=>by
  unfold bindC;rw [zX λw hw=>h w (aS _ hw)];split
  ·rfl
  ·have:x≠n:=by rintro rfl;exact h v aW
   simp [this]
theorem zW{kindOf:Str->Option NameKind}{x:Str}{v:Value}:∀{P:List Str}{vs:List Value}{i:Nat}{m:Str->Option Value},P.Nodup->P[i]?=some x->vs[i]?=some v->kindOf x=some .local ->
  bindL kindOf (P.zip vs) m x=some v
 | [],_,_,_,_,h,_,_=>by simp at h
 | _::_,[],_,_,_,_,h,_=>by simp at h
 | p::P,w::vs,0,m,nd,h1,h2,hk=>by
  simp at h1 h2;subst h1;subst h2;show bindL kindOf ((p,w)::P.zip vs) m p=_;unfold bindL;rw [zV λv hv=>(List.nodup_cons.mp nd).1 (List.of_mem_zip hv).1,if_pos hk];simp
 | p::P,w::vs,i+1,m,nd,h1,h2,hk=>by
  show bindL kindOf ((p,w)::P.zip vs) m x=_;unfold bindL;exact zW (i:=i) (List.nodup_cons.mp nd).2 (by simpa using h1) (by simpa using h2) hk
theorem zY{kindOf:Str->Option NameKind}{x:Str}{v:Value}:∀{P:List Str}{vs:List Value}{i:Nat}{m:Str->Option Value},P.Nodup->P[i]?=some x->vs[i]?=some v->kindOf x≠some .local ->
  bindC kindOf (P.zip vs) m x=some v
 | [],_,_,_,_,h,_,_=>by simp at h
 | _::_,[],_,_,_,_,h,_=>by simp at h
 | p::P,w::vs,0,m,nd,h1,h2,hk=>by
  simp at h1 h2;subst h1;subst h2;show bindC kindOf ((p,w)::P.zip vs) m p=_;unfold bindC;rw [zX λv hv=>(List.nodup_cons.mp nd).1 (List.of_mem_zip hv).1,if_neg hk];simp
 | p::P,w::vs,i+1,m,nd,h1,h2,hk=>by
  show bindC kindOf ((p,w)::P.zip vs) m x=_;unfold bindC;exact zY (i:=i) (List.nodup_cons.mp nd).2 (by simpa using h1) (by simpa using h2) hk
def start(N:List Str)(vs:List V):St:=vs.map some++List.replicate (N.length-vs.length) none
def EF(CX:MD)(P:Program)(w:World)(K:PySem.W.Frag)(mg:Str->Option Value)(base:Heap)(N:List Str)(qual:Str)(scope:Scope)(f:Addr)(cd:Value)(A:Around)(outer:List Env)(s:Shared)(H:Hp)(E:XK):Cx where
 prog:=P
 w:=w
 K:=K
 mg:=mg
 base:=base
 A:=A.deeper (envOfC qual scope s.heap.objs.size f cd)
 N:=N
 s₀:=s
 H₀:=H
 env:=envOfC qual scope s.heap.objs.size f cd
 outer:=outer
 stack:=envOfC qual scope s.heap.objs.size f cd::outer
 ex:=[]
 calm:=true
 fn:=λ_=>true
 pn:=[]
 xe:=λe s'=>wpAny (model P w) (A.deeper (envOfC qual scope s.heap.objs.size f cd)) (leaving (envOfC qual scope s.heap.objs.size f cd) e) (λ_ s''=>CX outer H s E e s'') (λe' s''=>CX outer H s E e' s'') s'
theorem EO{sc:Scope}{n:Nat}{x:Str}(h:sc.names.lookup x=some .cell):∃c,(cellsFrom n sc.names []).lookup x=some c:=by
 have q:=PySem.W.cellsFrom_some sc.names n [] (.inl h);exact Option.isSome_iff_exists.mp q
theorem LH{CX:MD}{P:Program}{w:World}{K:PySem.W.Frag}{mg:Str->Option Value}{base:Heap}{N ps:List Str}{qual:Str}{scope:Scope}{f:Addr}{cd:Value}{A:Around}{outer:List Env}{s s1:Shared}{H:Hp}{E:XK}{us:List Value}{vs:List V}
  (S:bS N ps scope) (hd:A.handled=none) (e0:HB P w K mg base A outer s H) (hl:vs.length=ps.length) (r:dI vs us)
  (x:InCallC s s.heap.objs.size (bindL (envOfC qual scope s.heap.objs.size f cd).kindOf (ps.zip us) λ_=>none) (cellsFrom (s.heap.objs.size+1) scope.names []) (bindC (envOfC qual scope s.heap.objs.size f cd).kindOf (ps.zip us) λ_=>none) s1) :
  cJ (EF CX P w K mg base N qual scope f cd A outer s H E) [] (start N vs) H s1:=by
 have hpl:ps.length<=N.length:=by have:=congrArg List.length S.pre;rw [fA] at this;omega
 obtain ⟨h1,tk,rfl,hk⟩:=x.done;have noA:∀b:Addr,b ∉ (EF CX P w K mg base N qual scope f cd A outer s H E).ex:=λb z=>absurd (show b∈([]:List Addr) from z) (by simp);refine ⟨⟨e0.mod,S.kind,rfl,rfl,aL _,λy z c h1 h2=>?_,λy hy=>?_,λy c _ h=>?_,λ_=>hd,Around.frames_deeper e0.frames,.inr ⟨rfl,rfl⟩,λb z=>absurd z (noA b),e0.bs,e0.bsz,λb _ _=>noA b,λb z=>absurd z (noA b),e0.funs,e0.frf⟩,
  rfl,e0.bare,Un.kept hk,⟨_,x.toInCall.ns,λi y v h1 h2 h3=>?_⟩,λy c h=>⟨_,x.cell y c h⟩,e0.hok.fresh (aL _),λy c h=>?_,λp hp=>absurd (show p∈([]:List (Addr × Obj)) from hp) (by simp),e0.hok.kept hk,?_⟩
 ·exact name_of_addr x.apart (PySem.mem_of_lookup h1) (PySem.mem_of_lookup h2)
 ·have hy:scope.names.lookup y=some .cell\/scope.names.lookup y=some .free:=hy;rcases hy with hy | hy
  ·exact EO hy
  ·exact absurd rfl (S.nofree _ (PySem.mem_of_lookup hy))
 ·exact Nat.le_of_lt (x.above y c (PySem.mem_of_lookup h))
 ·have hi:i<vs.length:=by
   unfold start at h2;by_cases hi:i<vs.length
   ·exact hi
   ·rw [cI (by simpa using hi)] at h2;rw [List.getElem?_replicate] at h2;split at h2 <;> cases h2
  have ha:vs[i]?=some v:=by
   unfold start at h2;rw [cM (by simpa using hi),aN] at h2;cases e:vs[i]? with
   | none=>rw [e] at h2;cases h2
   | some a=>rw [e] at h2;cases h2;rfl
  obtain ⟨u,hu,rv⟩:=r.get ha;have hp:ps[i]?=some y:=by
   rw [<-S.pre,List.getElem?_take_of_lt Oo];exact h1
  have ndP:ps.Nodup:=by rw [<-S.pre];exact S.nd.sublist (List.take_sublist _ _)
  refine ⟨u,rv,?_⟩;rcases S.par y (aF hp) with k | k
  ·exact .inl ⟨k,zW ndP hp hu k⟩
  ·obtain ⟨c,e⟩:=EO (n:=s.heap.objs.size+1) k;refine .inr ⟨.inl k,c,e,?_⟩;have q:=x.cell y c e;rw [zY ndP hp hu (by show scope.names.lookup y≠_;rw [k];decide)] at q;exact q
 ·exact e0.hok.fresh (Nat.le_of_lt (x.above y c (PySem.mem_of_lookup h)))
 ·unfold start;show _=N.length;rw [aP,aA,eV];omega
theorem aB4{CX:MD}{P:Program}{w:World}{K:PySem.W.Frag}{mg:Str->Option Value}{base:Heap}{k:Nat}{f:Addr}{name qual:Str}{params:Arguments}{body:List Stmt}{scope:Scope}{dV kV doc pm cdv ct oc:Value}{an od:Option Addr}
  {osl:Array (Option Value)} {N ps:List Str} {sp:Sp} (lk:K.lookup f=some ⟨oc,od,.func (PySem.W.fnOf name qual params body scope dV kV doc pm an cdv ct),osl⟩) (hcd:PySem.W.codeIn K cdv qual=true) (S:bS N ps scope)
  (len:∀vs H Q E,sp vs H Q E->vs.length=ps.length)
  (hbody:∀(A:Around) (outer:List Env) (s:Shared) (H:Hp) (vs:List V) (Q:VK) (E:XK),jS k (A.deeper (envOfC qual scope s.heap.objs.size f cdv))->sp vs H Q E ->
   ∃t,GW (EF CX P w K mg base N qual scope f cdv A outer s H E) body t/\t { nx:=λ_ H'=>Q .non H',rt:=Q } (start N vs) H) :
  dM P w K mg base CX (k+1) f (PySem.W.fnOf name qual params body scope dV kV doc pm an cdv ct) ps sp:=by
 refine ⟨len,λA outer s H args us vs Q E hr e0 hb r hsp=>?_⟩;have hl:=len _ _ _ _ hsp;have KX:K.In s.heap:=e0.mod.kin.keeps λb o e=>(e0.bs b o e).1;have lim:s.heap.NoLimit:=e0.mod.nolimit.keeps λb o e=>(e0.bs b o e).1;have hkind:∀y∈ps.zip us,scope.names.lookup y.1=some .local\/(scope.names.lookup y.1=some .cell/\((cellsFrom (s.heap.objs.size+1) scope.names []).lookup y.1).isSome=true):=λ⟨n,v⟩ hy=>by
  rcases S.par n (List.of_mem_zip hy).1 with q | q
  ·exact .inl q
  ·exact .inr ⟨q,PySem.W.cellsFrom_some _ _ _ (.inl q)⟩
 refine codeAny_call_function hr.depth (KX _ _ lk) rfl S.co S.gen rfl (PySem.W.codeRec_of KX hcd) (hb _ _ _ _ ?_);refine wpAny_newFunctionEnv_cells S.kind hkind λenv he s1 x=>?_;subst he;refine ⟨lim.keeps x.toInCall.keep,codeAny_func ?_⟩;obtain ⟨t,ht,hq⟩:=hbody A outer s H vs Q E (hr.deeper _) hsp;have I:cJ (EF CX P w K mg base N qual scope f cdv A outer s H E) [] (start N vs) H s1:=LH S hr.hd e0 hl r x;refine wpAny_mono (ht [] s1 (start N vs) H _ I hq) (λfl s' hs=>?_) λe s' hs=>hs;have fin:∀{σ':St} {H':Hp} {v:V} {u:Value},cJ (EF CX P w K mg base N qual scope f cdv A outer s H E) [] σ' H' s'->eB v u->Q v H'->CE outer P w H s Q u s' :=
  λ{σ' H' v u} J rv q=>⟨v,H',J.os,J.bare,J.base,J.hok,rv,q⟩
 cases fl with
 | ret u =>
  obtain ⟨v,σ',H',J,rv,q⟩:=hs;exact fin J rv q
 | next =>
  obtain ⟨σ',H',J,q⟩:=hs;exact fin (v:=V.non) (u:=Value.none) J rfl q
 | brk =>
  obtain ⟨_,_,_,q⟩:=hs;exact False.elim q
 | cont =>
  obtain ⟨_,_,_,q⟩:=hs;exact False.elim q
section
variable{X:Cx}{x:Str}{p pos:Pos}{e:Expr}{es:List Expr}{t:TA}{id T:String}{r:List V->Hp->VK->Prop}
def tCB(r:List V->Hp->VK->Prop)(t:TA):TE:=λσ H Q=>t σ H λvs H1=>r vs H1 Q
theorem OS(hc:lE X (.builtin id) r)(hg:Gl X x)(hm:X.mg x=none)(hv:bootBuiltins x=some (.builtin id))(ha:PA X (e::es) t)(hn:x ≠ "__name__" := by decide)(hdb:(x == ("__debug__" : Str))=false:=by decide)
  (he:starEach (e::es) X.env=(false,eval e X.env)::starEach es X.env:=by rfl) (hpl:(backTo pos (starEach es X.env)).any (·.1)=false:=by rfl):PE X (.Call (.Name x p) (e::es) [] pos) (tCB r t):=by
 intro pins s σ H Q I h;refine wpAny_Call_Name_kw (uO I hg hm hv ?_ hn hdb);exact PyProof.Rows.callWith_builtin1 (thn (ha pos pins s σ H _ I h) λus s1 ⟨vs,H1,I1,r1,q1⟩=>hc pins s1 σ H1 vs us Q I1 r1 q1) he hpl
theorem KY(hc:lE X (.type T) r)(hg:Gl X x)(hm:X.mg x=none)(hv:bootBuiltins x=some (.type T))(ha:PA X (e::es) t)(hn:x ≠ "__name__" := by decide)(hdb:(x == ("__debug__" : Str))=false:=by decide)
  (he:starEach (e::es) X.env=(false,eval e X.env)::starEach es X.env:=by rfl) (hpl:(backTo pos (starEach es X.env)).any (·.1)=false:=by rfl):PE X (.Call (.Name x p) (e::es) [] pos) (tCB r t):=by
 intro pins s σ H Q I h;refine wpAny_Call_Name_kw (uO I hg hm hv ?_ hn hdb);exact PyProof.Rows.callWith_type1 (thn (ha pos pins s σ H _ I h) λus s1 ⟨vs,H1,I1,r1,q1⟩=>hc pins s1 σ H1 vs us Q I1 r1 q1) he hpl
end
end L2
namespace HT
open PySem PyProof.Rows
section
open PySem.SeqAt
open PySem.AutoSeq1 (wpAny_loadPart')
open PySem.MeetsSeq PySem.MeetsSeq2 PySem.MeetsSeq3
end
section
variable{prog:Program}{w:World}{A:Around}{E:Value->Shared->Prop}{s:Shared}
theorem VO{t b:Addr}{vs ws:List Value}{Q:Value->Shared->Prop}(ht:IsTup s.heap t vs.toArray)(hb:IsTup s.heap b ws.toArray)(hv:vs≠[])
  (h1:ws=[]->Q (.ref t) s) (h2:ws≠[]->Q (.ref s.heap.objs.size) { s with heap:=s.heap.push { cls:=.type "tuple",data:=.seq (vs++ws).toArray } })
  (hsz:vs.length+ws.length<=sizeLine):wpAny (model prog w) A (binaryOp .Add (.ref t) (.ref b)) Q E s:=by
 obtain ⟨⟨cls,dd,data,sl⟩,ho,hc,n,hd⟩:=id ht;obtain ⟨⟨cls2,dd2,data2,sl2⟩,ho2,hc2,n2,hd2⟩:=id hb;simp only at hc hd hc2 hd2;subst hc hd hc2 hd2;have e:vs.toArray++ws.toArray=(vs++ws).toArray:=by simp
 by_cases hw:ws=[]
 ·exact concat_meets ⟨_,ho,rfl⟩ ⟨_,ho2,rfl⟩ noFill_tuple_add seq_tuple_add PySem.F.slot_tuple_add PySem.F.entry_tuple_add (PySem.F.args_tuple_add_2 _ _)
   (tuple_addW1 t b vs.toArray ws.toArray n n2 dd dd2 sl sl2 (by simpa using hv) (by simp [hw])) ⟨ho,ho2,h1 hw⟩
 ·refine concat_meets ⟨_,ho,rfl⟩ ⟨_,ho2,rfl⟩ noFill_tuple_add seq_tuple_add PySem.F.slot_tuple_add PySem.F.entry_tuple_add (PySem.F.args_tuple_add_2 _ _)
   (tuple_addW2 t b vs.toArray ws.toArray n n2 dd dd2 sl sl2 (by simpa using hv) (by simpa using hw) (by rw [bC,bC];exact hsz)) ⟨ho,ho2,?_⟩
  rw [e];exact h2 hw
def iW(n d:Nat):Option Int->Nat
 | none=>d
 | some v=>if v<0 then (v+(n:Int)).toNat else min v.toNat n
theorem sR(n d:Nat):iW n d none=d:=rfl
theorem AS(n d k:Nat):iW n d (some (k:Int))=min k n:=by
 show (if (k:Int)<0 then ((k:Int)+(n:Int)).toNat else min (k:Int).toNat n)=min k n;rw [if_neg Oo,Int.toNat_natCast]
theorem ZV(n d:Nat)(hd:d<=n)(o:Option Int):iW n d o<=n:=by
 cases o with
 | none=>exact hd
 | some v =>
  show (if v<0 then (v+(n:Int)).toNat else min v.toNat n)<=n;by_cases hv:v<0
  ·rw [if_pos hv];omega
  ·rw [if_neg hv];exact Nat.min_le_right _ _
theorem JF(v:Int)(n d:Nat):(if v<0 then max (v+(n:Int)) 0 else min v (n:Int))=((iW n d (some v):Nat):Int):=by
 show (if v<0 then max (v+(n:Int)) 0 else min v (n:Int))=(((if v<0 then (v+(n:Int)).toNat else min v.toNat n):Nat):Int);by_cases hv:v<0
 ·simp only [if_pos hv];omega
 ·simp only [if_neg hv];omega
theorem GU(lo hi:Option Int)(n:Nat):Builtin.Slice.sliceAdjust lo hi 1 (n:Int)=(((iW n 0 lo:Nat):Int),((iW n n hi:Nat):Int)):=by
 have h1:¬((1:Int)<0):=Oo;unfold Builtin.Slice.sliceAdjust;simp only [h1,if_false];refine Prod.ext ?_ ?_
 ·cases lo with
  | none=>rfl
  | some v=>exact JF v n 0
 ·cases hi with
  | none=>rfl
  | some v=>exact JF v n n
theorem GD(i j:Nat):Builtin.Slice.slicePlaces (i:Int) (j:Int) 1=j-i:=by
 unfold Builtin.Slice.slicePlaces;have h1:(1:Int) > 0:=Oo;simp only [h1,if_true,Int.ediv_one];split <;> omega
theorem wW{v:Value}{o:Option Int}{Q:Option Int->Shared->Prop}(p:IsPart v o)(h:Q o s):wpAny (model prog w) A (Builtin.Slice.slicePartIndex v) Q E s:=by
 cases p with
 | none=>exact slicePart_none h
 | int i t=>exact slicePart_int h
theorem oB{sl:Addr}{vl vu:Value}{lo hi:Option Int}{n:Nat}{Q:Int × Int × Nat->Shared->Prop}(hs:s.heap.IsSliceOf sl vl vu .none)(pl:IsPart vl lo)(pu:IsPart vu hi)
  (h:Q (((iW n 0 lo:Nat):Int),1,iW n n hi-iW n 0 lo) s):wpAny (model prog w) A (Builtin.Slice.sliceApplied (.ref sl) (pure (n:Int))) Q E s:=by
 obtain ⟨os,hos,hcs,hds⟩:=id hs;unfold Builtin.Slice.sliceApplied Builtin.Slice.sliceFields;refine wpAny_bind (wpAny_bind (wpAny_field hos hds (x:=vl) rfl (wpAny_bind (wpAny_field hos hds (x:=vu) rfl (wpAny_bind (wpAny_field hos hds (x:=.none) rfl (wpAny_pure ?_)))))));refine wpAny_bind (slicePart_none ?_);show wpAny _ _ (if ((1:Int) == 0)=true then _ else _) _ _ s;rw [if_neg Dd];refine wpAny_bind (wW pl (wpAny_bind (wW pu (wpAny_bind (wpAny_pure ?_)))));show wpAny _ _ (match Builtin.Slice.sliceAdjust lo hi 1 (n:Int) with | (lo,hi)=>pure (lo,(1:Int),Builtin.Slice.slicePlaces lo hi 1)) _ _ s;rw [GU lo hi n];show wpAny _ _ (pure (((iW n 0 lo:Nat):Int),(1:Int),Builtin.Slice.slicePlaces ((iW n 0 lo:Nat):Int) ((iW n n hi:Nat):Int) 1)) _ _ s;rw [GD];exact wpAny_pure h
theorem ON(xs:Array Value)(i k:Nat):((List.range k).filterMap λ(m:Nat)=>xs[((i:Int)+(m:Int)*1).toNat]?).toArray=((xs.toList.drop i).take k).toArray:=by
 have e:(λ(m:Nat)=>xs[((i:Int)+(m:Int)*1).toNat]?)=λm=>xs[i+m]?:=by
  funext m
  have:((i:Int)+(m:Int)*1).toNat=i+m:=Oo;rw [this]
 rw [e];have:=pick_run xs i k;rw [List.filterMap_map] at this;have e2:((λx=>xs[x]?) ∘ λx=>i+x)=λm=>xs[i+m]?:=rfl;rw [e2] at this;rw [this]
theorem tE{t sl:Addr}{items:Array Value}{vl vu:Value}{lo hi:Option Int}{Q:Value->Shared->Prop}(ht:IsTup s.heap t items)(hs:s.heap.IsSliceOf sl vl vu .none)(pl:IsPart vl lo)(pu:IsPart vu hi)
  (hw:¬(iW items.size 0 lo=0/\iW items.size items.size hi=items.size))
  (h:Q (.ref s.heap.objs.size) { s with heap:=s.heap.push { cls:=.type "tuple",data:=.seq ((items.toList.drop (iW items.size 0 lo)).take (iW items.size items.size hi-iW items.size 0 lo)).toArray } })
  (hsz:items.size<=sizeLine):wpAny (model prog w) A (getItem (.ref t) (.ref sl)) Q E s:=by
 have htake:sizeOk (.seq ((items.toList.drop (iW items.size 0 lo)).take (iW items.size items.size hi-iW items.size 0 lo)).toArray):=by
  show ((items.toList.drop (iW items.size 0 lo)).take (iW items.size items.size hi-iW items.size 0 lo)).toArray.size<=sizeLine;rw [bC,fA,List.length_drop,Array.length_toList];omega
 have hj:iW items.size items.size hi<=items.size:=ZV _ _ (aL _) hi;obtain ⟨os,hos,hcs,hds⟩:=id hs;have hTs:s.TypeIs (.ref sl) "slice" := ⟨os,hos,hcs⟩;unfold getItem
 try with_reducible refine wpAny_holding ?_
 first | refine wpAny_bind (wpAny_pure ?_) | skip
 refine wpAny_bind (wpAny_sequenceKey ht.typeIs Dd ?_);refine wpAny_bind (wpAny_callSpecial?_slot (name:=Str.ofString "__getitem__") ht.typeIs PyProof.Rows.slot_tuple_getitem
  (wpAny_call_entry PyProof.Rows.slot_tuple_getitem ht.typeIs entry_tuple_getitem ?_ (args_tuple_getitem _ _)))
 show wpAny _ _ (Builtin.Tuple.tupleItemsOf (.ref t) >>= _) _ _ s;refine wpAny_bind (tupleItemsOf_ ht ?_);refine wpAny_bind (wpAny_typeOf hTs ?_);rw [if_pos Dd];refine wpAny_bind (oB hs pl pu ?_);have hno:¬((((iW items.size 0 lo:Nat):Int) == 0&&(1:Int) == 1&&(iW items.size items.size hi-iW items.size 0 lo) == items.size)=true):=by
  intro q;rw [dL,dL] at q;have q1:((iW items.size 0 lo:Nat):Int)=0:=eq_of_beq q.1.1;have q2:iW items.size items.size hi-iW items.size 0 lo=items.size:=eq_of_beq q.2;exact hw ⟨Oo,Oo⟩
 show wpAny _ _ (if (((iW items.size 0 lo:Nat):Int) == 0&&(1:Int) == 1&&(iW items.size items.size hi-iW items.size 0 lo) == items.size)=true then _ else _) _ _ s;rw [if_neg hno,ON]
 first
  | exact wpAny_bind (m:=Builtin.Tuple.tupleExact _) (wpAny_newObj_type (wpAny_pure ⟨_,rfl,wpAny_pure h⟩) htake)
  | exact wpAny_bind (m:=Builtin.Tuple.tupleExact _) (wpAny_newObj_type (wpAny_bind (wpAny_pure (wpAny_pure ⟨_,rfl,wpAny_pure h⟩))) htake)
  | exact wpAny_bind (wpAny_bind (m:=Builtin.Tuple.tupleExact _) (wpAny_newObj_type (wpAny_pure (wpAny_pure ⟨_,rfl,wpAny_pure h⟩)) htake))
  | exact wpAny_bind (wpAny_bind (m:=Builtin.Tuple.tupleExact _) (wpAny_newObj_type (wpAny_pure ⟨_,rfl,wpAny_pure h⟩) htake))
end
end HT
namespace L2
open PySem PySem.Spec PyProof.Rows
abbrev TO:=St->Hp->(Option Int->Hp->Prop)->Prop
def PO(X:Cx)(e:Option Expr)(t:TO):Prop :=
 ∀(pins:List (Addr × Obj)) (s:Shared) (σ:St) (H:Hp) (Q:Option Int->Hp->Prop),cJ X pins σ H s->t σ H Q ->
  wpAny (model X.prog X.w) X.A (evalPart e X.env) (λu s'=>∃o H',cJ X pins σ H' s'/\IsPart u o/\Q o H') X.xe s
def HU:TO:=λ_ H Q=>Q none H
def WP(t:TE):TO:=λσ H Q=>t σ H λx H1=>∃i,x=.int i/\Q (some i) H1
theorem sC{ns:List Int}:∀{us:List Value},dI (ns.map V.int) us->IntsAre us ns:=by
 induction ns with
 | nil=>intro us r;rw [List.map_nil] at r;cases r;exact .nil
 | cons n ns ih =>
  intro us r;rw [bL] at r;cases r with
  | cons r1 r2 =>
   obtain ⟨t,e⟩:=r1;subst e;exact .cons n t (ih r2)
section
variable{X:Cx}{e:Expr}{te:TE}{lo hi:Option Expr}{tl th:TO}{pos p2:Pos}
theorem po_none:PO X none HU:=by
 intro pins s σ H Q I h;rw [evalPart_none];exact wpAny_pure ⟨none,H,I,.none,h⟩
theorem UD(h:PE X e te):PO X (some e) (WP te):=by
 intro pins s σ H Q I hw;rw [evalPart_some];refine thn (h pins s σ H _ I hw) λu s1 ⟨x,H1,I1,r1,q1⟩=>?_;obtain ⟨i,rfl,q⟩:=q1;obtain ⟨t,rfl⟩:=r1;exact ⟨some i,H1,I1,.int i t,q⟩
def SlR(X:Cx)(r:V->Option Int->Option Int->Hp->VK->Prop):Prop :=
 ∀(pins:List (Addr × Obj)) (s:Shared) (σ:St) (H:Hp) (x:V) (v vl vu:Value) (lo hi:Option Int) (sl:Addr) (Q:VK),cJ X pins σ H s->eB x v->s.heap.IsSliceOf sl vl vu .none->IsPart vl lo->IsPart vu hi->r x lo hi H Q ->
  ∃T id,typeLookup (.type T) "__getitem__" = pure (some (.builtin id))/\s.TypeIs v T/\wpAny (model X.prog X.w) X.A (getItem v (.ref sl)) (EP X pins σ Q) X.xe s
def tSl(r:V->Option Int->Option Int->Hp->VK->Prop)(te:TE)(tl th:TO):TE:=λσ H Q=>te σ H λx H1=>tl σ H1 λl H2=>th σ H2 λu H3=>r x l u H3 Q
theorem OP{r:V->Option Int->Option Int->Hp->VK->Prop}(hr:SlR X r)(he:PE X e te)(hl:PO X lo tl)(hu:PO X hi th):PE X (.Subscript e (.Slice lo hi none p2) pos) (tSl r te tl th):=by
 intro pins s σ H Q I h;refine Subscript_ (thn (he pins s σ H _ I h) λv s1 ⟨x,H1,I1,r1,q1⟩=>?_);refine wpAny_Slice (thn (hl pins s1 σ H1 _ I1 q1) λvl s2 ⟨l,H2,I2,pl,q2⟩=>thn (hu pins s2 σ H2 _ I2 q2) λvu s3 ⟨u,H3,I3,pu,q3⟩=>?_);rw [evalPart_none];refine wpAny_pure ?_;have I4:cJ X pins σ H3 { s3 with heap:=s3.heap.push { cls:=.type "slice",data:=.fields #[vl,vu,.none] } }:=I3.kept (t':=s3.toks) λb ob q=>aE _ q;obtain ⟨T,id,hT,ht,hg⟩:=hr pins { s3 with heap:=s3.heap.push { cls:=.type "slice",data:=.fields #[vl,vu,.none] } } σ H3 x v vl vu l u s3.heap.objs.size Q I4 r1 (Heap.IsSliceOf.new ..) pl pu q3;show wpAny (model X.prog X.w) X.A (subscriptTail e (.Slice lo hi none p2) v (.ref s3.heap.objs.size)) (EP X pins σ Q) X.xe { s3 with heap:=s3.heap.push { cls:=.type "slice",data:=.fields #[vl,vu,.none] } };exact tail_any (ops:=[.ref s3.heap.objs.size,v]) ht hT hg (by with_unfolding_all rfl)
def lC(xs:List V)(lo hi:Option Int):List V:=(xs.drop (HT.iW xs.length 0 lo)).take (HT.iW xs.length xs.length hi-HT.iW xs.length 0 lo)
theorem vK(xs:List V)(lo hi:Option Int):(lC xs lo hi).length<=xs.length:=by
 unfold lC;rw [fA,List.length_drop];omega
def aCQ(K:PySem.W.Frag):V->Option Int->Option Int->Hp->VK->Prop:=λx lo hi H Q=>∃a xs,x=.ref a/\jM K H a xs /\
 ¬(HT.iW xs.length 0 lo=0/\HT.iW xs.length xs.length hi=xs.length)/\∀p,H p=none->Q (.ref p) (upd H p (.tup (lC xs lo hi)))
theorem YO:SlR X (aCQ X.K):=by
 intro pins s σ H x v vl vu lo hi sl Q I rx hs pl pu h;obtain ⟨a,xs,rfl,hx,hw,q⟩:=h;cases rx;obtain ⟨its,r,ht,hz⟩:=I.tuple hx;have hlen:its.toArray.size=xs.length:=by rw [bC];exact r.length.symm
 refine ⟨"tuple",_,PyProof.Rows.slot_tuple_getitem.lookup,ht.typeIs,?_⟩;refine HT.tE ht hs pl pu (by rw [hlen];exact hw) ?_ (by rw [hlen];exact hz);rw [hlen];refine ⟨.ref s.heap.objs.size,_,I.laid (t':=s.toks) (o:=.tup (lC xs lo hi)) (λb ob q=>aE _ q) (aL _) ?_,rfl,q _ (I.hok.fresh (aL _))⟩;exact ⟨⟨aK (vK xs lo hi) hz,_,bB _ rfl,rfl⟩,_,(r.drop (HT.iW xs.length 0 lo)).take (HT.iW xs.length xs.length hi-HT.iW xs.length 0 lo),IsTup.new _ _⟩
def aBJ(K:PySem.W.Frag):R2:=λx y H Q=>∃a b xs ys,x=.ref a/\y=.ref b/\jM K H a xs/\jM K H b ys/\xs≠[]/\xs.length+ys.length<=sizeLine /\
 (ys=[]->Q (.ref a) H)/\(ys≠[]->∀p,H p=none->Q (.ref p) (upd H p (.tup (xs++ys))))
theorem dI.nil_iff{xs:List V}{us:List Value}(r:dI xs us):us=[]↔xs=[]:=by
 cases r with
 | nil=>simp
 | cons _ _=>simp
theorem UQ:vB X (binaryOp .Add) (aBJ X.K):=by
 intro pins s σ H x y v u Q I rx ry h;obtain ⟨a,b,xs,ys,rfl,rfl,ha,hb,hx,hz,q1,q2⟩:=h;cases rx;cases ry;obtain ⟨its,r1,p1,_⟩:=I.tuple ha;obtain ⟨its2,r2,p2,_⟩:=I.tuple hb;refine HT.VO p1 p2 (λz=>hx (r1.nil_iff.mp z)) (λz=>⟨.ref a,H,I,rfl,q1 (r2.nil_iff.mp z)⟩) (λz=>?_) (by rw [<-r1.length,<-r2.length];exact hz);refine ⟨.ref s.heap.objs.size,_,I.laid (t':=s.toks) (o:=.tup (xs++ys)) (λb ob q=>aE _ q) (aL _) ?_,rfl,q2 (λw=>z (r2.nil_iff.mpr w)) _ (I.hok.fresh (aL _))⟩;exact ⟨⟨by rw [aP];exact hz,_,bB _ rfl,rfl⟩,_,r1.append r2,IsTup.new _ _⟩
end
def XD(n:Nat)(i:Int):Option Nat:=if 0<=i then (if i<n then some i.toNat else none) else if -(n:Int)<=i then some (i+n).toNat else none
def BV{α:Type}(xs:List α)(i:Int):Option α:=(XD xs.length i).bind λj=>xs[j]?
theorem VC{n:Nat}{i:Int}{j:Nat}(h:XD n i=some j):seqIndex? i n=some j/\j<n/\-(n:Int)<=i/\i<n:=by
 unfold XD at h;by_cases h0:0<=i
 ·rw [if_pos h0] at h;by_cases h1:i<n
  ·rw [if_pos h1] at h;have e:i.toNat=j:=hZ h;exact ⟨by rw [seqIndex_of h0 h1,e],Oo,Oo,h1⟩
  ·rw [if_neg h1] at h;cases h
 ·rw [if_neg h0] at h;by_cases h1:-(n:Int)<=i
  ·rw [if_pos h1] at h;have e:(i+n).toNat=j:=hZ h;exact ⟨by rw [seqIndex_neg Oo h1,e],Oo,h1,Oo⟩
  ·rw [if_neg h1] at h;cases h
theorem BU{α:Type}{xs:List α}{i:Int}{v:α}(h:BV xs i=some v):∃j,seqIndex? i xs.length=some j/\xs[j]?=some v/\j<xs.length/\-(xs.length:Int)<=i/\i<xs.length:=by
 unfold BV at h;cases e:XD xs.length i with
 | none=>rw [e] at h;cases h
 | some j =>
  rw [e] at h;obtain ⟨h1,h2,h3,h4⟩:=VC e;exact ⟨j,h1,h,h2,h3,h4⟩
theorem dU{α:Type}{xs:List α}{j:Nat}{v:α}(h:xs[j]?=some v):BV xs (j:Int)=some v:=by
 have hj:j<xs.length:=(aI.mp h).1;have e:XD xs.length (j:Int)=some j:=by
  unfold XD;rw [if_pos Oo,if_pos Oo];simp
 unfold BV;rw [e];exact h
theorem QX{α:Type}(xs:List α)(v:α):BV (xs++[v]) (-1)=some v:=by
 have hl:(xs++[v]).length=xs.length+1:=by simp
 have e:XD (xs++[v]).length (-1)=some xs.length:=by
  unfold XD;rw [hl,if_neg Dd,if_pos Oo];congr 1;omega
 unfold BV;rw [e];show (xs++[v])[xs.length]?=some v;simp
def JO(b:Expr):Prop:=∀o i,subscripted b false o i=operate [o,i] (getItem o i)
def RC(X:Cx)(r:R2):Prop :=
 ∀(value slice:Expr) (pins:List (Addr × Obj)) (s:Shared) (σ:St) (H:Hp) (x y:V) (v u:Value) (Q:VK),cJ X pins σ H s->eB x v->eB y u->r x y H Q ->
  subscripted slice false v u=operate [v,u] (getItem v u)->wpAny (model X.prog X.w) X.A (subscriptTail value slice v u) (EP X pins σ Q) X.xe s
def RP(X:Cx)(id:String)(r:V->List V->Hp->VK->Prop):Prop :=
 ∀(pins:List (Addr × Obj)) (s:Shared) (σ:St) (H:Hp) (x:V) (xs:List V) (v:Value) (us:List Value) (Q:VK),cJ X pins σ H s->eB x v->dI xs us->r x xs H Q ->
  wpAny (model X.prog X.w) X.A (call (.builtin id) (v::us)) (EP X pins σ Q) X.xe s
section
variable{X:Cx}{a b:Expr}{ta tb:TE}{pos:Pos}
theorem RC.or{r r':R2}(h:RC X r)(h':RC X r'):RC X (λx y H Q=>r x y H Q\/r' x y H Q):=by
 intro value slice pins s σ H x y v u Q I rx ry q hs;rcases q with q | q
 ·exact h value slice pins s σ H x y v u Q I rx ry q hs
 ·exact h' value slice pins s σ H x y v u Q I rx ry q hs
theorem aBQ{r:R2}(hr:RC X r)(ha:PE X a ta)(hb:PE X b tb)(hs:JO b):PE X (.Subscript a b pos) (RG r ta tb):=by
 intro pins s σ H Q I h;exact Subscript_ (aA3 ha hb I h λv u s2 x y H2 I2 rx ry q=>hr a b pins s2 σ H2 x y v u Q I2 rx ry q (hs _ _))
def aBH(K:PySem.W.Frag):R2:=λx y H Q=>∃p xs i v,x=.ref p/\y=.int i/\fI K H p xs/\BV xs i=some v/\Q v H
def aBF(K:PySem.W.Frag):R2:=λx y H Q=>∃p xs i v,x=.ref p/\y=.int i/\jM K H p xs/\BV xs i=some v/\Q v H
def aBG:R2:=λx y H Q=>∃z i c,x=.str z/\y=.int i/\z.length<=sizeLine/\BV z.cps.toList i=some c/\Q (.str ⟨#[c]⟩) H
theorem VB:RC X (aBH X.K):=by
 intro value slice pins s σ H x y v u Q I rx ry h hs;obtain ⟨p,xs,i,z,rfl,rfl,hq,he,q⟩:=h;cases rx;obtain ⟨t,rfl⟩:=ry;obtain ⟨its,r,pl,hz⟩:=I.list hq;obtain ⟨j,h1,h2,h3,h4,h5⟩:=BU he;obtain ⟨w,ew,rw'⟩:=r.get h2;have hl:=r.length;have hn:=BE;have fin:EP X pins σ Q w s:=⟨z,H,I,rw',q⟩;by_cases h0:0<=i
 ·have hj:i.toNat=j:=by
   rw [seqIndex_of h0 h5] at h1;exact hZ h1
  exact item_listR pl.isList h0 Oo (by rw [hj];simpa using ew) fin hs
 ·have hj:(i+(its.toArray.size:Int)).toNat=j:=by
   rw [seqIndex_neg Oo h4] at h1;rw [bC,<-hl];exact hZ h1
  exact subscriptTail_builtinR (x:=w) pl.isList.typeIs slot_list_getitem.lookup
   (wpAny_getItem_list_neg (Q:=λr s'=>r=w/\EP X pins σ Q r s') pl.isList Oo (by rw [bC] <;> omega) Oo (by rw [hj];simpa using ew) ⟨rfl,fin⟩) hs
theorem aAK:RC X (aBF X.K):=by
 intro value slice pins s σ H x y v u Q I rx ry h hs;obtain ⟨p,xs,i,z,rfl,rfl,hq,he,q⟩:=h;cases rx;obtain ⟨t,rfl⟩:=ry;obtain ⟨its,r,pl,hz⟩:=I.tuple hq;obtain ⟨j,h1,h2,h3,h4,h5⟩:=BU he;obtain ⟨w,ew,rw'⟩:=r.get h2;have hl:=r.length;have hn:=BE;have fin:EP X pins σ Q w s:=⟨z,H,I,rw',q⟩;exact subscriptTail_builtinR (x:=w) pl.typeIs slot_tuple_getitem.lookup
  (getItem_tuple (j:=j) (Q:=λr s'=>r=w/\EP X pins σ Q r s') pl Oo Oo (by rw [bC,<-hl];exact h1) (by simpa using ew) ⟨rfl,fin⟩) hs
theorem aAL:RC X aBG:=by
 intro value slice pins s σ H x y v u Q I rx ry h hs;obtain ⟨z,i,c,rfl,rfl,hz,he,q⟩:=h;obtain ⟨t,rfl⟩:=rx;obtain ⟨t',rfl⟩:=ry;obtain ⟨j,h1,h2,h3,h4,h5⟩:=BU he;have hl:z.cps.toList.length=z.length:=by simp [Str.length]
 rw [hl] at h1 h4 h5;have hn:=BE;exact tail_any (typeIs_str s z t) slot_str_getitem.lookup (getItem_str (c:=c) (by
  have e1:decide (i < -(2^63:Int))=false:=cO Oo;have e2:decide (i ≥ 2^63)=false:=cO Oo;rw [e1,e2,Bool.or_false]) (by rw [h1];simpa using h2) ⟨.str ⟨#[c]⟩,H,I.tok _,⟨_,rfl⟩,q⟩) hs
def rIx(K:PySem.W.Frag):R2:=λx y H Q=>aBH K x y H Q\/aBF K x y H Q\/aBG x y H Q
theorem bO:RC X (rIx X.K):=VB.or (aAK.or aAL)
theorem AR(lo hi:Option Int)(n:Nat):(sliceBounds lo hi none n).1=((HT.iW n 0 lo:Nat):Int)/\(sliceBounds lo hi none n).2.1=((HT.iW n n hi:Nat):Int)/\(sliceBounds lo hi none n).2.2=1:=by
 refine ⟨?_,?_,rfl⟩
 ·cases lo with
  | none=>simp [sliceBounds,HT.iW]
  | some i =>
   simp only [sliceBounds,HT.iW,Option.getD_none,show (1:Int) > 0 by decide,if_true];by_cases h:i<0
   ·simp only [h,if_true] <;> omega
   ·simp only [h,if_false] <;> omega
 ·cases hi with
  | none=>simp [sliceBounds,HT.iW]
  | some i =>
   simp only [sliceBounds,HT.iW,Option.getD_none,show (1:Int) > 0 by decide,if_true];by_cases h:i<0
   ·simp only [h,if_true] <;> omega
   ·simp only [h,if_false] <;> omega
theorem yJ(its:List Value)(lo hi:Option Int):slicePick its.toArray lo hi none=((its.drop (HT.iW its.length 0 lo)).take (HT.iW its.length its.length hi-HT.iW its.length 0 lo)).toArray:=by
 obtain ⟨h1,h2,h3⟩:=AR lo hi its.toArray.size;unfold slicePick;rw [h1,h2,h3];simp only [sliceRange_one,pick_run,bC] <;> rfl
def aBE(K:PySem.W.Frag):V->Option Int->Option Int->Hp->VK->Prop:=λx lo hi H Q=>∃a xs,x=.ref a/\fI K H a xs/\∀p,H p=none->Q (.ref p) (upd H p (.lst (lC xs lo hi)))
theorem HZ:SlR X (aBE X.K):=by
 intro pins s σ H x v vl vu lo hi sl Q I rx hs pl pu h;obtain ⟨a,xs,rfl,hx,q⟩:=h;cases rx;obtain ⟨its,r,ht,hz⟩:=I.list hx;have hlen:=r.length;refine ⟨"list",_,slot_list_getitem.lookup,ht.isList.typeIs,?_⟩;refine wpAny_getItem_list_slice ht.isList hs pl pu .none (by simp) ?_ (by rw [bC] <;> omega);rw [yJ,<-hlen];refine ⟨.ref s.heap.objs.size,_,I.laid (t':=s.toks) (o:=.lst (lC xs lo hi)) (λb ob q=>aE _ q) (aL _) ?_,rfl,q _ (I.hok.fresh (aL _))⟩;exact ⟨aK (vK xs lo hi) hz,_,0,(r.drop (HT.iW xs.length 0 lo)).take (HT.iW xs.length xs.length hi-HT.iW xs.length 0 lo),bB _ rfl⟩
def qN:V->Bool
 | .non=>true
 | .bl _=>true
 | .int _=>true
 | .str _=>true
 | _=>false
def QE:V->V->Bool
 | .non,.non=>true
 | .bl a,.bl b=>a == b
 | .bl a,.int b=>(if a then 1 else 0) == b
 | .int a,.bl b=>a == (if b then 1 else 0)
 | .int a,.int b=>a == b
 | .str a,.str b=>a == b
 | _,_=>false
theorem aAU{A:Around}{s:Shared}{y x:V}{u v:Value}(ry:eB y u)(rx:eB x v)(fy:qN y=true)(fx:qN x=true):SeqAt.EqAt A s u v (QE y x):=by
 cases y with
 | non =>
  cases ry;cases x with
  | non=>cases rx;exact SeqAt.EqAt.same _
  | bl b=>cases rx;exact SeqAt.EqAt.none_bool b
  | int b=>obtain ⟨t,rfl⟩:=rx;exact SeqAt.EqAt.none_int b t
  | str b=>obtain ⟨t,rfl⟩:=rx;exact SeqAt.EqAt.none_str b t
  | _=>exact absurd (show false=true from fx) bN
 | bl a =>
  cases ry;cases x with
  | non=>cases rx;exact SeqAt.EqAt.bool_none a
  | bl b=>cases rx;exact SeqAt.EqAt.bool_bool a b
  | int b=>obtain ⟨t,rfl⟩:=rx;exact SeqAt.EqAt.bool_int a b t
  | str b=>obtain ⟨t,rfl⟩:=rx;exact SeqAt.EqAt.bool_str a b t
  | _=>exact absurd (show false=true from fx) bN
 | int a =>
  obtain ⟨t',rfl⟩:=ry;cases x with
  | non=>cases rx;exact SeqAt.EqAt.int_none a t'
  | bl b=>cases rx;exact SeqAt.EqAt.int_bool a t' b
  | int b=>obtain ⟨t,rfl⟩:=rx;exact SeqAt.EqAt.int_int a t' b t
  | str b=>obtain ⟨t,rfl⟩:=rx;exact SeqAt.EqAt.int_str a t' b t
  | _=>exact absurd (show false=true from fx) bN
 | str a =>
  obtain ⟨t',rfl⟩:=ry;cases x with
  | non=>cases rx;exact SeqAt.EqAt.str_none a t'
  | bl b=>cases rx;exact SeqAt.EqAt.str_bool a t' b
  | int b=>obtain ⟨t,rfl⟩:=rx;exact SeqAt.EqAt.str_int a t' b t
  | str b=>obtain ⟨t,rfl⟩:=rx;exact SeqAt.EqAt.str_str a t' b t
  | _=>exact absurd (show false=true from fx) bN
 | _=>exact absurd (show false=true from fy) bN
def XI(x:V)(u:Value):Bool:=match u with
 | .none=>QE .non x
 | .bool b=>QE (.bl b) x
 | .int i _=>QE (.int i) x
 | .str z _=>QE (.str z) x
 | _=>false
theorem aAT{x y:V}{u:Value}(r:eB y u)(f:qN y=true):XI x u=QE y x:=by
 cases y with
 | non=>cases r;rfl
 | bl b=>cases r;rfl
 | int i=>obtain ⟨t,rfl⟩:=r;rfl
 | str z=>obtain ⟨t,rfl⟩:=r;rfl
 | _=>exact absurd (show false=true from f) bN
theorem xF{A:Around}{s:Shared}{x:V}{v:Value}(rx:eB x v)(fx:qN x=true):∀{xs:List V}{us:List Value},dI xs us->xs.all qN=true->∀u∈us,SeqAt.EqAt A s u v (XI x u)
 | _,_,.nil,_=>λu hu=>by cases hu
 | y::xs,u::us,.cons r t,f=>λu' hu=>by
  rw [List.all_cons,dL] at f;rcases bF.mp hu with rfl | hu
  ·rw [aAT r f.1];exact aAU r rx f.1 fx
  ·exact xF rx fx t f.2 u' hu
theorem BS:lE X (.type "list") (λxs H Q=>∃p ys,xs=[.ref p]/\(fI X.K H p ys\/jM X.K H p ys)/\∀l,H l=none->Q (.ref l) (upd H l (.lst ys))):=by
 intro pins s σ H xs us Q I r h;obtain ⟨p,ys,rfl,hq,q⟩:=h;obtain ⟨u,rfl,rx⟩:=mS r;cases rx;have fin:∀(its:List Value),dI ys its->ys.length<=sizeLine->∀(h':Heap) (c':Nat),(∀b o',s.heap.get? b=some o'->h'.get? b=some o') ->
   h'.get? s.heap.objs.size=some { cls:=.type "list",dict:=none,data:=.seq its.toArray c',slots:=#[] }->EP X pins σ Q (.ref s.heap.objs.size) { s with heap:=h' }:=λits r' hz h' c' kp e =>
  ⟨.ref s.heap.objs.size,_,I.laid (t':=s.toks) kp (aL _) (show fO X.prog X.w _ h' _ (.lst ys) from ⟨hz,its,c',r',e⟩),rfl,q _ (I.hok.fresh (aL _))⟩
 rcases hq with hq | hq
 ·obtain ⟨its,r',pl,hz⟩:=I.list hq;have hlen:=r'.length;obtain ⟨o,ho,hc,n,hd⟩:=pl.isList;exact call_list_seq p (.inl rfl) ho hc hd (λh' c' kp e=>fin its r' hz h' c' kp e) (by simp only [bC] <;> omega)
 ·obtain ⟨its,r',pl,hz⟩:=I.tuple hq;have hlen:=r'.length;obtain ⟨o,ho,hc,n,hd⟩:=pl;exact call_list_seq p (.inr rfl) ho hc hd (λh' c' kp e=>fin its r' hz h' c' kp e) (by simp only [bC] <;> omega)
theorem dP:lE X (.type "tuple") (λxs H Q=>∃p ys,xs=[.ref p]/\((fI X.K H p ys/\∀l,H l=none->Q (.ref l) (upd H l (.tup ys)))\/(jM X.K H p ys/\Q (.ref p) H))):=by
 intro pins s σ H xs us Q I r h;obtain ⟨p,ys,rfl,h⟩:=h;obtain ⟨u,rfl,rx⟩:=mS r;cases rx;rcases h with ⟨hq,q⟩ | ⟨hq,q⟩
 ·obtain ⟨its,r',pl,hz⟩:=I.list hq;have hlen:=r'.length;refine call_tuple_list pl.isList (λh' kp=>?_) (by simp only [bC] <;> omega);have I1:cJ X pins σ H { s with heap:=h' }:=I.kept (t':=s.toks) kp;have I2:cJ X pins σ (upd H h'.objs.size (.tup ys)) { s with heap:=h'.push { cls:=.type "tuple",data:=.seq its.toArray } } :=
   I1.laid (t':=s.toks) (λb o e=>aE _ e) (aL _) (show fO X.prog X.w _ _ _ (.tup ys) from ⟨⟨hz,_,bB _ rfl,rfl⟩,its,r',IsTup.new _ _⟩)
  exact ⟨.ref h'.objs.size,_,I2,rfl,q _ (I1.hok.fresh (aL _))⟩
 ·obtain ⟨its,r',pl,hz⟩:=I.tuple hq;exact call_tuple_same pl ⟨.ref p,H,I,rfl,q⟩
def tyV(K:PySem.W.Frag)(T:String)(x:V)(H:Hp):Prop:=match x with
 | .str _=>T = "str"
 | .int _=>T = "int"
 | .ref p=>(T = "list" /\ ∃xs,fI K H p xs)\/(T = "tuple" /\ ((∃o,K.lookup p=some o/\o.cls=.type "tuple" /\ o.dict=none)\/∃xs,H p=some (.tup xs))) \/
   (T = "dict" /\ ((∃kvs,H p=some (.dK kvs))\/∃kvs,H p=some (.dT kvs)))\/(T = "set" /\ ∃S n,H p=some (.set S n))
 | _=>False
theorem NA{pins:List (Addr × Obj)}{σ:St}{H:Hp}{s:Shared}{T:String}{x:V}{v:Value}(I:cJ X pins σ H s)(r:eB x v)(ty:tyV X.K T x H) :
  s.TypeIs v T/\∀a,v=.ref a->∃ob,s.heap.get? a=some ob/\ob.dict=none:=by
 cases x with
 | str z =>
  obtain ⟨t,rfl⟩:=r;cases (show T = "str" from ty);exact ⟨typeIs_str s z t,λ_ e=>nomatch e⟩
 | int i =>
  obtain ⟨t,rfl⟩:=r;cases (show T = "int" from ty);exact ⟨typeIs_int s i t,λ_ e=>nomatch e⟩
 | ref p =>
  cases r;rcases ty with ⟨rfl,xs,hq⟩ | ⟨rfl,⟨o,hk,hc,hd⟩ | ⟨xs,hq⟩⟩ | ⟨rfl,hk⟩ | ⟨rfl,S,n,hk⟩
  ·obtain ⟨its,_,pl,_⟩:=I.list hq;refine ⟨pl.isList.typeIs,λa e=>?_⟩;cases e;obtain ⟨o,n,e,c,hd,_⟩:=pl;exact ⟨o,e,hd⟩
  ·refine ⟨⟨o,I.kIn p o hk,hc⟩,λa e=>?_⟩;cases e;exact ⟨o,I.kIn _ o hk,hd⟩
  ·obtain ⟨⟨_,on,en,dn⟩,_,_,o,e1,e2,_⟩:=(show fO X.prog X.w H s.heap p (.tup xs) from I.hok p _ hq);refine ⟨⟨o,e1,e2⟩,λa e=>?_⟩;cases e;exact ⟨on,en,dn⟩
  ·have z:∃o,s.heap.get? p=some o/\o.ExactDict:=by
    rcases hk with ⟨kvs,hk⟩ | ⟨kvs,hk⟩
    ·obtain ⟨_,_,_,_,o,_,_,e,ex,_⟩:=I.hok p _ hk;exact ⟨o,e,ex⟩
    ·obtain ⟨_,_,_,_,o,_,_,e,ex,_⟩:=I.hok p _ hk;exact ⟨o,e,ex⟩
   obtain ⟨o,e,ex⟩:=z;refine ⟨⟨o,e,ex.1⟩,λa e2=>?_⟩;cases e2;exact ⟨o,e,ex.2.1⟩
  ·obtain ⟨o,_,_,_,e,ex,_⟩:=I.hok p _ hk;refine ⟨⟨o,e,ex.1⟩,λa e2=>?_⟩;cases e2;exact ⟨o,e,ex.2.1⟩
 | _=>exact False.elim ty
def aBx(K:PySem.W.Frag)(T:String)(r:V->List V->Hp->VK->Prop)(to:TE):TE:=λσ H Q=>to σ H λx H1=>tyV K T x H1/\r x [] H1 Q
def tBM(K:PySem.W.Frag)(T:String)(r:V->List V->Hp->VK->Prop)(to:TE)(t:TA):TE:=λσ H Q=>to σ H λx H1=>tyV K T x H1/\t σ H1 λxs H2=>r x xs H2 Q
variable{o e:Expr}{es:List Expr}{to:TE}{t:TA}{name:Str}{apos cpos:Pos}{T id:String}{r:V->List V->Hp->VK->Prop}
theorem aAu(pa:PlainAttrs T)(slot:Slot T name id)(hty:typeOf (.builtin id)=pure (.type "method_descriptor"))(hm:RP X id r)(ho:PE X o to)
  (hbase:attributeBase o name X.env (eval o X.env)=eval o X.env:=by rfl) (hline:(apos.endLine == cpos.line)=true:=by rfl):PE X (.Call (.Attribute o name apos) [] [] cpos) (aBx X.K T r to):=by
 intro pins s σ H Q I h;refine wpAny_Call_method0_late hbase hline (thn (ho pins s σ H _ I h) λv s1 ⟨x,H1,I1,r1,ty,q1⟩=>?_);obtain ⟨h1,h2⟩:=NA I1 r1 ty;exact ⟨T,id,pa,slot,hty,h1,h2,Calls.callWith_builtin rfl (PySem.evalArgs_none (hm pins s1 σ H1 x [] v [] Q I1 r1 .nil q1))⟩
theorem aBS(pa:PlainAttrs T)(slot:Slot T name id)(hty:typeOf (.builtin id)=pure (.type "method_descriptor"))(hm:RP X id r)(ho:PE X o to)(ha:PA X (e::es) t)
  (hbase:attributeBase o name X.env (eval o X.env)=eval o X.env:=by rfl)
  (hfew:((backTo cpos (starEach (e::es) X.env)).all (λx=>!x.1)&&(backToKw cpos (keywordEach [] X.env)).all (λx=>x.1.isSome)
   && decide ((e::es).length+([]:List Keyword).length+(if ([]:List Keyword).isEmpty then 0 else 1)<30))=true:=by rfl)
  (hline:(apos.endLine == cpos.line)=true:=by rfl) (hs:starEach (e::es) X.env=(false,eval e X.env)::starEach es X.env:=by rfl) (hplain:(backTo cpos (starEach es X.env)).any (·.1)=false:=by rfl) :
  PE X (.Call (.Attribute o name apos) (e::es) [] cpos) (tBM X.K T r to t):=by
 intro pins s σ H Q I h;refine wpAny_Call_method_late hbase hfew hline rfl (thn (ho pins s σ H _ I h) λv s1 ⟨x,H1,I1,r1,ty,q1⟩=>?_);obtain ⟨h1,h2⟩:=NA I1 r1 ty;refine ⟨T,id,pa,slot,hty,h1,h2,?_⟩;have hA:=ha cpos pins s1 σ H1 _ I1 q1;rw [hs] at hA ⊢;refine Calls.callWith_builtin (by show (false || (backTo cpos (starEach es X.env)).any (·.1))=false;rw [hplain] <;> rfl) (Calls.evalArgs_plain ?_);exact thn hA λus s2 ⟨vs,H2,I2,r2,q2⟩=>hm pins s2 σ H2 x vs v us Q I2 r1 r2 q2
/- xs.append(e),list.index on a module's tuple .. are RP facts of 06m -/
end
def MtM(X:Cx)(id:String)(r:V->List V->Hp->VK->Prop):Prop :=
 ∀(pins:List (Addr × Obj)) (s:Shared) (σ:St) (H:Hp) (x:V) (xs:List V) (v:Value) (us:List Value) (Q:VK),cJ X pins σ H s->eB x v->dI xs us->r x xs H Q ->
  wpAny (model X.prog X.w) X.A (call (.builtin id) (v::us)) (EP X pins σ Q) X.xe s
theorem dI.one:∀{x:V}{us:List Value},dI [x] us->∃u,us=[u]/\eB x u
 | _,_,.cons r .nil=>⟨_,rfl,r⟩
theorem dI.zero:∀{us:List Value},dI [] us->us=[]
 | _,.nil=>rfl
theorem dI.dropLast{xs:List V}{us:List Value}(h:dI xs us):dI xs.dropLast us.dropLast:=by
 induction h with
 | nil=>exact .nil
 | cons r t ih =>
  cases t with
  | nil=>exact .nil
  | cons q t'=>exact .cons r ih
theorem GO{α:Type}(l:List α):l.eraseIdx (l.length-1)=l.dropLast:=by
 induction l with
 | nil=>rfl
 | cons a r ih =>
  cases r with
  | nil=>rfl
  | cons b r =>
   have e:(a::b::r).length-1=((b::r).length-1)+1:=by
    have h1:(a::b::r).length=r.length+2:=rfl;have h2:(b::r).length=r.length+1:=rfl;omega
   rw [e,List.eraseIdx_cons_succ,ih]
   all_goals rfl
section
variable{X:Cx}{pins:List (Addr × Obj)}{σ:St}{H:Hp}{s:Shared}{l b:Addr}{xs ys zs:List V}
theorem cJ.lset{its its':List Value}{n:Nat}{f:Array Value->Array Value}{t':Nat}(I:cJ X pins σ H s)(hH:H l=some (.lst xs))
  (e:s.heap.get? l=some { cls:=.type "list",data:=.seq its.toArray n }) (hf:f its.toArray=its'.toArray) (hv:dI ys its') (hz:ys.length<=sizeLine) :
  cJ X pins σ (upd H l (.lst ys)) { s with heap:=s.heap.update l (Obj.mapSeq f),toks:=t' }:=by
 have q:=PySem.IsL.update e f;rw [hf] at q;refine I.write (x:=l) (e:=l) (by rw [hH];exact trivial) (.inl rfl) (λb' u hb hu=>(Heap.get?_update_other s.heap (Obj.mapSeq f) (Ne.symm hb)).trans hu) ⟨_,q⟩ ?_;exact ⟨hz,its',_,hv,q⟩
theorem cJ.lnew{its:List Value}{t':Nat}(I:cJ X pins σ H s)(hv:dI ys its)(hz:ys.length<=sizeLine) :
  cJ X pins σ (upd H s.heap.objs.size (.lst ys)) { s with heap:=s.heap.push { cls:=.type "list",data:=.seq its.toArray },toks:=t' } :=
 I.laid (λ_ _ q=>aE _ q) (aL _) ⟨hz,its,0,hv,bB _ rfl⟩
theorem cJ.fresh(I:cJ X pins σ H s):H s.heap.objs.size=none:=I.hok.fresh (aL _)
theorem cJ.lstM(I:cJ X pins σ H s)(hH:H l=some (.lst xs)):xs.length<=sizeLine/\∃(its:List Value) (n:Nat),dI xs its/\xs.length=its.length/\s.heap.get? l=some { cls:=.type "list",data:=.seq its.toArray n }:=by
 obtain ⟨z,its,n,r,e⟩:=I.hok l _ hH;exact ⟨z,its,n,r,r.length,e⟩
theorem OW{n:Nat}(h:n<=sizeLine):Builtin.List.listTooLong n=false:=by
 unfold Builtin.List.listTooLong;exact cO Oo
end
section
variable{X:Cx}
def IJ:V->List V->Hp->VK->Prop:=λx vs H Q=>∃l xs y,x=.ref l/\vs=[y]/\H l=some (.lst xs)/\xs.length<sizeLine/\Q .non (upd H l (.lst (xs++[y])))
theorem uM:MtM X "list.append" IJ:=by
 intro pins s σ H x vs v us Q I rx rv h;obtain ⟨l,xs,y,rfl,rfl,hH,hz,q⟩:=h;cases rx;obtain ⟨u,rfl,ru⟩:=rv.one;obtain ⟨z,its,n,r,hl,e⟩:=I.lstM hH;refine call_meets F.slot_list_append ⟨_,e,rfl⟩ F.entry_list_append (F.args_list_append_2 _ _) (PySem.list_append l its.toArray n u (by rw [bC];omega)) ⟨e,?_⟩;refine ⟨.non,_,I.lset (its':=its++[u]) hH e (by simp) (r.append (.cons ru .nil)) ?_,rfl,q⟩;rw [aP,List.length_singleton];omega
def IH:V->List V->Hp->VK->Prop:=λx vs H Q=>∃l b xs zs,x=.ref l/\vs=[.ref b]/\H l=some (.lst xs)/\H b=some (.lst zs)/\xs.length+zs.length<=sizeLine/\Q .non (upd H l (.lst (xs++zs)))
theorem LA:MtM X "list.extend" IH:=by
 intro pins s σ H x vs v us Q I rx rv h;obtain ⟨l,b,xs,zs,rfl,rfl,hH,hB,hz,q⟩:=h;cases rx;obtain ⟨u,rfl,ru⟩:=rv.one;cases ru;obtain ⟨z,its,n,r,hl,e⟩:=I.lstM hH;obtain ⟨z2,its2,n2,r2,hl2,e2⟩:=I.lstM hB;have hsz:its.toArray.size+its2.toArray.size<=sizeLine:=by rw [bC,bC];omega
 have hlong:¬(!its.toArray.isEmpty&&Builtin.List.listTooLong (its.toArray.size+its2.toArray.size))=true:=by
  rw [OW hsz,Bool.and_false];exact bN
 refine call_meets F.slot_list_extend ⟨_,e,rfl⟩ F.entry_list_extend (F.args_list_extend_2 _ _)
  (AutoSeq1.list_extend_list_list_0 l its.toArray n b its2.toArray n2 hlong (by rw [bC];omega) Oo) ⟨e,e2,?_⟩
 refine ⟨.non,_,I.lset (its':=its++its2) hH e (by simp) (r.append r2) ?_,rfl,q⟩;rw [aP];omega
def aAa:V->List V->Hp->VK->Prop:=λx vs H Q=>∃l xs y,x=.ref l/\vs=[]/\H l=some (.lst xs)/\xs[xs.length-1]?=some y/\Q y (upd H l (.lst xs.dropLast))
theorem aAC:MtM X "list.pop" aAa:=by
 intro pins s σ H x vs v us Q I rx rv h;obtain ⟨l,xs,y,rfl,rfl,hH,hy,q⟩:=h;cases rx;have hus:=rv.zero;subst hus;obtain ⟨z,its,n,r,hl,e⟩:=I.lstM hH;obtain ⟨u,hu,ru⟩:=r.get hy;have hy':its.toArray[its.toArray.size-1]?=some u:=by
  show its.toArray[its.length-1]?=some u;rw [<-Array.getElem?_toList,<-hl];exact hu
 refine call_meets F.slot_list_pop ⟨_,e,rfl⟩ F.entry_list_pop (F.args_list_pop_1 _) (MeetsSeq.list_pop_last l its.toArray n u hy' (by rw [bC];omega)) ⟨e,?_⟩;refine ⟨y,_,I.lset (its':=its.dropLast) hH e ?_ r.dropLast ?_,ru,q⟩
 ·show its.toArray.eraseIdxIfInBounds (its.toArray.size-1)=its.dropLast.toArray;rw [bC,List.eraseIdxIfInBounds_toArray,GO]
 ·rw [List.length_dropLast];omega
def aBK:R2:=λx y H Q=>∃l b xs zs,x=.ref l/\y=.ref b/\H l=some (.lst xs)/\H b=some (.lst zs)/\xs.length+zs.length<=sizeLine/\∀p,H p=none->Q (.ref p) (upd H p (.lst (xs++zs)))
theorem OU:vB X (binaryOp .Add) aBK:=by
 intro pins s σ H x y v u Q I rx ry h;obtain ⟨l,b,xs,zs,rfl,rfl,hH,hB,hz,q⟩:=h;cases rx;cases ry;obtain ⟨z,its,n,r,hl,e⟩:=I.lstM hH;obtain ⟨z2,its2,n2,r2,hl2,e2⟩:=I.lstM hB;refine PySem.P.add_list e e2 ?_ (by rw [bC,bC];omega);have ea:its.toArray++its2.toArray=(its++its2).toArray:=by simp
 rw [ea];exact ⟨.ref _,_,I.lnew (t':=s.toks) (r.append r2) (by rw [aP];omega),rfl,q _ I.fresh⟩
end
section
variable{prog:Program}{w:World}{A:Around}{E:Value->Shared->Prop}{s:Shared}
end
section
variable{X:Cx}
end
end L2
namespace Att
open PySem PySem.W PySem.Calls PyProof.Rows
theorem vQ{P:Params}{h:Heap}:∀(ns:List Int) (vs:List Value),WellAll P h vs (ns.map WData.int)->IntsAre vs ns:=by
 intro ns
 induction ns with
 | nil =>
  intro vs w;rw [List.map_nil] at w;cases w;exact .nil
 | cons n ns ih =>
  intro vs w;rw [bL] at w;cases w with
  | cons a b =>
   cases a;exact .cons _ _ (ih _ b)
theorem KF{l:OpenLaw}{n:Nat}(hn:l.most=some n){P:Params}{h:Heap}{args:List WData}{vals:List Value}
  (hpre:l.row.toRowW.claim.pre args=true) (hwl:WellAll P h vals args) :
  ∃a vs ns,vals=[Value.ref a]/\args=[WData.list (ns.map WData.int)]/\h.get? a=some { cls:=.type "list",data:=.seq vs.toArray }/\IntsAre vs ns/\ns.length<=n:=by
 have hsh:WShape.hasAll [] args [.list .int]=true:=(pre_splitW hpre).1;have hc:l.pre.holds [] { args:=args }=true:=(pre_splitW hpre).2;obtain ⟨d,r,rfl,h1,h2⟩:=hasAllW_cons hsh;obtain rfl:=hasAllW_nil h2;obtain ⟨xs,rfl,h3⟩:=hasW_list h1;obtain ⟨ns,rfl⟩:=items_int h3;have hlen:ns.length<=n:=by
  unfold OpenLaw.pre at hc;have h4:(WTm.not (.lt (.lit (.int (n:Int))) (.len (.arg 0)))).holds [] { args:=[.list (ns.map .int)] }=true:=by
   have h4:=(holds_andW hc).1;rw [hn] at h4;exact h4
  have h5:=condW_of h4 (w_not (w_lt w_lit (w_len_list (w_arg rfl))));rw [aA] at h5;refine Nat.le_of_not_lt λq=>?_;have q':(n:Int)<((ns.length:Nat):Int):=Oo
  first
   | (rw [cP q'] at h5;exact absurd h5 Dd)
   | (simp at h5;omega)
 cases hwl with
 | cons w1 w2 =>
  cases w2;cases w1 with
  | list ho hall=>exact ⟨_,_,ns,rfl,rfl,ho,vQ ns _ hall,hlen⟩
theorem KN(l:OpenLaw)(args:List WData):l.row.toRowW.claim.post args (.bool true) args=true :=
 postW_of (r:=l.row.toRowW) (X:=(true == true))
  (show WShape.has [] (.bool true) .bool=true by first | rfl | decide | simp [WShape.has,WShape.arms,WShape.armsAll])
  (show (WTm.eq .res (.lit (.bool true))).value [] { args:=args,res:=some (.bool true),after:=args }=some (.bool (true == true)) from w_eq_bool (w_res rfl) w_lit) rfl
theorem ES{l:OpenLaw}{n:Nat}{q:Program}{loose:List Str}{XP:(Str->Option Value)->Heap->Prop}{YP:World->Heap->Prop}{d:DefRec}
  (hn:l.most=some n) (hdf:d.params.defaults=[])
  (call:∀(w:World) (s₀ s₁:Shared) (mg mb:Str->Option Value) (fa:Addr) (o:Obj) (pm cd doc:Value) (a:Addr) (vs:List Value) (ns:List Int),
   Ground q loose [] XP w s₀ mg mb s₁.heap->YP w s₁.heap ->
   s₁.heap.get? fa=some o->o.data=.func (docDef d.name d.params d.body d.scope pm cd doc)->s₁.heap.CodeRec cd d.name->mg d.name=some (.ref fa) ->
   s₁.heap.get? a=some { cls:=.type "list",data:=.seq vs.toArray }->IntsAre vs ns->ns.length<=n->s₁.gens=#[] ->
   codeAny (model l.prog w) callerA (.call (.ref fa) ⟨[.ref a],[]⟩) (λr s'=>r=.ok (.ret (.bool true))/\OldK s₁.heap s'.heap/\s'.os=s₁.os/\AllBare s'.gens) s₁) :
  WalkO q loose XP YP l.row.toRowW d [] (λf vs=>PySem.call f vs):=by
 intro w s₀ s₁ mg mb G Y fa o pm cd doc dV kV ho hd hcd hD hmg hg args vals as hpre hlay hrd hwl hlo;obtain rfl:dV=.none:=Dflts.none hD hdf;obtain rfl:kV=.none:=Dflts.noKw hD;obtain ⟨a,vs,ns,rfl,rfl,hobj,hints,hlen⟩:=KF hn hpre hwl;refine enter_call (codeAny_mono (call w s₀ s₁ mg mb fa o pm cd doc a vs ns G Y ho (fd_plain hd) hcd hmg hobj hints hlen hg) λr s' hq=>?_);obtain ⟨rfl,h2,h3,h4⟩:=hq;exact ⟨.inl ⟨.bool true,.bool true,[],rfl,λ_=>rfl,.bool true,KN l _,λ_=>⟨List.Pairwise.nil,λ_ hm=>(nomatch hm)⟩⟩,h2,h3,h4⟩
section
variable{prog:Program}{w:World}{A:Around}{E:Value->Shared->Prop}{s:Shared}{K:Frag}
end
end Att
namespace L2
open PySem PySem.Spec PyProof.Rows
theorem yT:∀{vs:List Value}{ns:List Int},IntsAre vs ns->dI (ns.map V.int) vs
 | _,_,.nil=>.nil
 | _,_,.cons n t h=>.cons ⟨t,rfl⟩ (yT h)
def WH(H:Hp):Prop:=∀b,H b=none\/∃o xs,H b=some (.frz o (.lst xs))
theorem PH{P:Program}{w:World}{K:PySem.W.Frag}{mg mb:Str->Option Value}{CX:MD}{k:Nat}{fa a:Addr}{fd:FuncData}{x:Str}{sp:Sp}{s₁:Shared}{vs:List Value}{ns:List Int}
  (KX:K.In s₁.heap) (hns:s₁.heap.Ns mainGlobals mg) (hb:s₁.heap.Ns builtinsNs mb) (hbb:∀x:Str,x ≠ "__name__" -> mb x=bootBuiltins x) (hlim:s₁.heap.NoLimit) (hg:s₁.gens=#[])
  (ha:s₁.heap.get? a=some { cls:=.type "list",data:=.seq vs.toArray }) (hi:IntsAre vs ns) (hl:ns.length<=sizeLine) (hr:jS k callerA)
  (F:∀base:Heap,K.In base->base.Ns mainGlobals mg->dM P w K mg base CX k fa fd [x] sp) (hbind:∀(s:Shared) (u:Value),BindsTo s fd ⟨[u],[]⟩ [(x,u)])
  (hsp:∀H:Hp,WH H->fI K H a (ns.map V.int)->sp [.ref a] H (λv _=>v=.bl true) λ_ _ _=>False)
  (hCX:∀H e s',CX [] H s₁ (λ_ _ _=>False) e s'->False) :
  codeAny (model P w) callerA (.call (.ref fa) ⟨[.ref a],[]⟩) (λr s'=>r=.ok (.ret (.bool true))/\OldK s₁.heap s'.heap/\s'.os=s₁.os/\AllBare s'.gens) s₁:=by
 have rv:=yT hi;have lenV:=hi.length;have core:∀H:Hp,WH H->fI K H a (ns.map V.int)->pO P w H s₁.heap->(∀b,H b≠none->b=a)->(H a≠none->K.lookup a=none) ->
   codeAny (model P w) callerA (.call (.ref fa) ⟨[.ref a],[]⟩) (λr s'=>r=.ok (.ret (.bool true))/\OldK s₁.heap s'.heap/\s'.os=s₁.os/\AllBare s'.gens) s₁:=by
  intro H hO hS hok hA hK;have base_of:∀{b:Addr} {o:Obj},s₁.heap.get? b=some o->H b=none->(BL s₁.heap H).get? b=some o:=λe n=>PX e n;have noA:∀{b:Addr} {o:Obj} {es:Array DictEntry} {ep:Nat},s₁.heap.get? b=some o->o.data=.dict es ep->H b=none:=λ{b o es ep} e d=>by
   cases q:H b with
   | none=>rfl
   | some u =>
    have e':b=a:=hA b (by rw [q];simp);subst e';rw [ha] at e;cases e;have d':Data.seq vs.toArray _=Data.dict es ep:=d;cases d'
  have nsK:∀{b:Addr} {m:Str->Option Value},s₁.heap.Ns b m->(BL s₁.heap H).Ns b m:=λ{b m} ⟨o,es,ep,e,d,r⟩=>⟨o,es,ep,base_of e (noA e d),d,r⟩;have hKb:K.In (BL s₁.heap H):=λb o e=>base_of (KX b o e) (by
   cases q:H b with
   | none=>rfl
   | some u =>
    have e':b=a:=hA b (by rw [q];simp);subst e';rw [hK (by rw [q];simp)] at e;cases e)
  have hM:Mod K mg (BL s₁.heap H):=⟨hKb,nsK hns,⟨mb,nsK hb,hbb⟩,let ⟨mc,h1,h2⟩:=hlim;⟨mc,nsK h1,h2⟩⟩;have e0:HB P w K mg (BL s₁.heap H) callerA [] s₁ H:=⟨rfl,hM,λb o e=>US e,Nat.le_of_eq (LI _ _),trivial,λb hb=>absurd (show b∈([]:List Addr) from hb) (by simp),hok,.of_eq hg⟩;refine codeAny_mono ((F _ hKb (nsK hns)).run callerA [] s₁ H ⟨[.ref a],[]⟩ [.ref a] [.ref a] _ _ hr e0 (hbind s₁ (.ref a)) (.cons rfl .nil) (hsp H hO hS)) λr s' h=>?_;cases r with
  | error e=>exact (hCX H e s' h).elim
  | ok fl =>
   cases fl with
   | next=>exact False.elim h
   | brk=>exact False.elim h
   | cont=>exact False.elim h
   | ret u =>
    obtain ⟨v,H',os,bare,un,hok',r',q⟩:=h;have q':v=.bl true:=q;subst q';obtain rfl:u=Value.bool true:=r';refine ⟨rfl,OldK.of_keep λb o e=>?_,os,bare⟩;cases q:H b with
    | none=>exact un.keep b o e q (by intro z;exact absurd (show b∈([]:List Addr) from z) (by simp)) (by simp)
    | some u =>
     rcases hO b with z | ⟨ob,xs,z⟩
     ·rw [q] at z;cases z
     ·have z2:=un.frzs b ob _ z;obtain ⟨e1,_⟩:=hok b _ z;obtain ⟨e2,_⟩:=hok' b _ z2;rw [e] at e1;cases e1;exact e2
 cases hk:K.lookup a with
 | some o =>
  have e:=KX a o hk;rw [ha] at e;cases e;refine core (λ_=>none) (λ_=>.inl rfl) (.inr ⟨_,vs.toArray,_,hk,rfl,rfl,rfl,by rw [bC,lenV];exact hl,by simpa using rv⟩) (λb u z=>by have z':(none:Option HO)=some u:=z;cases z') (λb z=>absurd rfl z) λz=>absurd rfl z
 | none =>
  refine core (λb=>if b=a then some (.frz { cls:=.type "list",data:=.seq vs.toArray } (.lst (ns.map V.int))) else none) (λb=>?_) (.inl (.inr ⟨{ cls:=.type "list",data:=.seq vs.toArray },if_pos rfl⟩)) (λb u z=>?_) (λb z=>?_) λ_=>hk
  ·by_cases hb:b=a
   ·exact .inr ⟨_,_,if_pos hb⟩
   ·exact .inl (if_neg hb)
  ·by_cases hb:b=a
   ·have z':=(if_pos hb).symm.trans z;cases z';subst hb;exact ⟨ha,by rw [aA];exact hl,vs,_,rv,ha⟩
   ·have z':=(if_neg hb).symm.trans z;cases z'
  ·by_cases hb:b=a
   ·exact hb
   ·exact absurd (if_neg hb) z
theorem HL{l:PySem.W.OpenLaw}{n k:Nat}{q:Program}{loose:List Str}{XP:(Str->Option Value)->Heap->Prop}{YP:World->Heap->Prop}{d:DefRec}{K:Params->PySem.W.Frag}{CX:World->MD}{sp:World->Sp}{x:Str}
  (hn:l.most=some n) (hn2:n<=sizeLine) (hdf:d.params.defaults=[]) (hr:jS k callerA)
  (hY:∀(w:World) (h:Heap),YP w h->(K w.params).In h)
  (F:∀(w:World) (mg:Str->Option Value) (fa:Addr) (h:Heap),(K w.params).In h->h.Ns mainGlobals mg->mg d.name=some (.ref fa) ->
   ∃fd:FuncData,(∀(s:Shared) (u:Value),BindsTo s fd ⟨[u],[]⟩ [(x,u)]) /\
    ∀base:Heap,(K w.params).In base->base.Ns mainGlobals mg->dM l.prog w (K w.params) mg base (CX w) k fa fd [x] (sp w))
  (hsp:∀(w:World) (H:Hp) (a:Addr) (ns:List Int),ns.length<=n->WH H->fI (K w.params) H a (ns.map V.int)->sp w [.ref a] H (λv _=>v=.bl true) λ_ _ _=>False)
  (hCX:∀(w:World) (H:Hp) (s:Shared) (e:Value) (s':Shared),CX w [] H s (λ_ _ _=>False) e s'->False) :
  PySem.W.WalkO q loose XP YP l.row.toRowW d [] (λf vs=>PySem.call f vs):=by
 refine Att.ES hn hdf λw s₀ s₁ mg mb fa o pm cd doc a vs ns G Y ho hd hcd hmg hobj hints hlen hg=>?_;have KX:=hY w _ Y;obtain ⟨fd,hb,hF⟩:=F w mg fa _ KX G.T.g hmg;exact PH KX G.T.g G.T.b G.T.builtins G.T.nolimit hg hobj hints (aK hlen hn2) hr hF hb (λH hO hS=>hsp w H a ns hlen hO hS) λH e s'=>hCX w H s₁ e s'
theorem MY{l:PySem.W.OpenLaw}{n k:Nat}{q:Program}{loose:List Str}{XP:(Str->Option Value)->Heap->Prop}{YP:World->Heap->Prop}{d:DefRec}{K:Params->PySem.W.Frag}{CX:MD}{sp:PySem.W.Frag->Sp}{x:Str}
  (hn:l.most=some n) (hn2:n<=sizeLine) (hdf:d.params.defaults=[]) (hr:jS k callerA)
  (hY:∀(w:World) (h:Heap),YP w h->(K w.params).In h)
  (F:∀(w:World) (mg:Str->Option Value) (fa:Addr) (h:Heap),(K w.params).In h->h.Ns mainGlobals mg->mg d.name=some (.ref fa) ->
   ∃fd:FuncData,(∀(s:Shared) (u:Value),BindsTo s fd ⟨[u],[]⟩ [(x,u)]) /\
    ∀base:Heap,(K w.params).In base->base.Ns mainGlobals mg->dM l.prog w (K w.params) mg base CX k fa fd [x] (sp (K w.params)))
  (hsp:∀(K:PySem.W.Frag) (H:Hp) (a:Addr) (ns:List Int),ns.length<=n->WH H->fI K H a (ns.map V.int)->sp K [.ref a] H (λv _=>v=.bl true) λ_ _ _=>False)
  (hCX:∀(H:Hp) (s:Shared) (e:Value) (s':Shared),CX [] H s (λ_ _ _=>False) e s'->False) :
  PySem.W.WalkO q loose XP YP l.row.toRowW d [] (λf vs=>PySem.call f vs) :=
 HL (K:=K) (CX:=λ_=>CX) (sp:=λw=>sp (K w.params)) hn hn2 hdf hr hY F (λw H a ns h1 h2 h3=>hsp (K w.params) H a ns h1 h2 h3) λ_ H s e s'=>hCX H s e s'
end L2
/- THE LAST THEOREM (shape;LID,My.* are yours):
   My.Adr: a structure of the addresses that your layer names (classes,functions);My.Txt K t: a structure (Prop) of the equations over K;
   My.txt_mk:{K} {implicit addresses ..} (e1:nsIn K mainGlobals "law" = some (some (.ref f))) (e2:K.lookup f=some ⟨oc,od,.func (fnOf "law" "law" params body scope dV kV doc pm an cdv ct),sl⟩) (e3:codeIn K cdv "law" = true) .. : ∃t,My.Txt K t
set_option maxRecDepth 100000 in
set_option maxHeartbeats 0 in
theorem PySem.Challenge.cw_LID_holds : PySem.Challenge.rw_LID.Holds := by
  w_on;o_law;k_head;(case hw=>w_witness2)
  k_fill
  refine L2.HL (l:=PySem.Challenge.rw_LID) (n:=63) (k:=40) (x := "script") (CX:=λw=>..) (sp:=λ_=>My.sp_law) rfl Dd rfl ⟨rfl,Dd,Dd⟩ (λw h Y=>PySem.W.kIn_of Y) ?F ?S ?C
  case F =>
    intro w mg fa h KX G hmg;have T:∃t,My.Txt (L2.KOf KX) t:=by
      dsimp only [L2.KOf]                          -- K must stand as «<heap const> w.params» for k_is
      refine' My.txt_mk ?e1 ?e2 ?e3 ..
      (case e1=>PySem.W.k_is)                    -- in the order: a name -> its address -> its object -> its parts
      (case e2=>PySem.W.k_is)
      ..
    obtain ⟨t,T⟩:=T;have e0:=hmg.symm.trans (PySem.W.mg_of KX G T.law);cases e0                                       -- fa is the law's own address;exact ⟨_,λs u=>.of_eq rfl,λbase kb nb=>My.law_fn T kb nb⟩     -- if «.of_eq rfl» comes too early: refine' ⟨_,?b,λbase kb nb=>My.law_fn T kb nb⟩;exact λs u=>.of_eq rfl
  case S=>exact λw H a ns hl hO hS=>..
  case C=>exact ..
(the tactic k_is has no namespace: write k_is) -/
namespace L2
open PySem PySem.Spec PyProof.Rows
def VD(s:Stmt)(j:Nat):Stmt:=match s with
 | .ClassDef _ _ _ body _ _ _ _ _ _ _=>body.getD j (.Pass ⟨0,0,0,0⟩)
 | _=>.Pass ⟨0,0,0,0⟩
def pH(s:Stmt):Arguments:=match s with
 | .FunctionDef _ a _ _ _ _ _ _ _ _=>a
 | _=>{ posonlyargs:=[],args:=[],vararg:=none,kwonlyargs:=[],kw_defaults:=[],kwarg:=none,defaults:=[] }
def kP(s:Stmt):List Stmt:=match s with
 | .FunctionDef _ _ b _ _ _ _ _ _ _=>b
 | _=>[]
def aO(s:Stmt):Scope:=match s with
 | .FunctionDef _ _ _ _ _ _ sc _ _ _=>sc
 | _=>{ kind:=.function,names:=[],isGenerator:=false,isCoroutine:=false }
abbrev cS:MD:=λ_ _ _ _ _ _=>False
abbrev E0:XK:=λ_ _ _=>False
theorem WZ{X:Cx}:yE cS X E0:=λ_ _ _ _ _ _ _ h=>h.elim
structure iV(K:PySem.W.Frag)(x qual:Str)(st:Stmt)(f:Addr)(fd:FuncData):Prop where
 ex:∃(oc:Value) (od:Option Addr) (kV doc pm:Value) (an:Option Addr) (cdv ct:Value) (osl:Array (Option Value)),
  fd=PySem.W.fnOf x qual (pH st) (kP st) (aO st) .none kV doc pm an cdv ct/\K.lookup f=some ⟨oc,od,.func fd,osl⟩/\PySem.W.codeIn K cdv qual=true
 kp:PySem.W.keepIn K (.ref f)=true
section
variable{P:Program}{w:World}{K:PySem.W.Frag}{mg:Str->Option Value}{base:Heap}
theorem iV.ok{x qual:Str}{st:Stmt}{f:Addr}{fd:FuncData}{N ps:List Str}{k:Nat}{sp:Sp}(F:iV K x qual st f fd)(S:bS N ps (aO st))(len:∀vs H Q E,sp vs H Q E->vs.length=ps.length)
  (hbody:∀(cdv:Value) (A:Around) (outer:List Env) (s:Shared) (H:Hp) (vs:List V) (Q:VK) (E:XK),jS k (A.deeper (envOfC qual (aO st) s.heap.objs.size f cdv))->sp vs H Q E ->
   ∃t,GW (EF cS P w K mg base N qual (aO st) f cdv A outer s H E).nox (kP st) t/\t { nx:=λ_ H'=>Q .non H',rt:=Q } (start N vs) H):dM P w K mg base cS (k+1) f fd ps sp:=by
 obtain ⟨oc,od,kV,doc,pm,an,cdv,ct,osl,rfl,lk,hcd⟩:=F.ex;refine aB4 lk hcd S len λA outer s H vs Q E hr hsp=>?_;obtain ⟨t,h,q⟩:=hbody cdv A outer s H vs Q E hr hsp;exact ⟨t,h.nox,q⟩
theorem iV.binds{x qual:Str}{st:Stmt}{f:Addr}{fd:FuncData}{ps:List Str}(F:iV K x qual st f fd)
  (h:∀(kV doc pm:Value) (an:Option Addr) (cdv ct:Value) (us:List Value),us.length=ps.length->bindArgs (PySem.W.fnOf x qual (pH st) (kP st) (aO st) .none kV doc pm an cdv ct) ⟨us,[]⟩=pure (ps.zip us)):tP K fd ps []:=by
 obtain ⟨oc,od,kV,doc,pm,an,cdv,ct,osl,rfl,lk,hcd⟩:=F.ex;exact .all (h kV doc pm an cdv ct)
theorem BN{x qual:Str}{st:Stmt}{f:Addr}{oc:Value}{od an:Option Addr}{osl:Array (Option Value)}{kV doc pm cdv ct:Value}(l:K.lookup f=some ⟨oc,od,.func (PySem.W.fnOf x qual (pH st) (kP st) (aO st) .none kV doc pm an cdv ct),osl⟩)
  (c:PySem.W.codeIn K cdv qual=true) (k:PySem.W.keepIn K (.ref f)=true):iV K x qual st f (PySem.W.fnOf x qual (pH st) (kP st) (aO st) .none kV doc pm an cdv ct):=⟨⟨oc,od,kV,doc,pm,an,cdv,ct,osl,rfl,l,c⟩,k⟩
end
theorem tZ{n:Nat}(h:n<=1000):n<sizeLine:=bA h Dd
section
variable{X:Cx}
theorem pv(i:Nat){x:Str}{pos:Pos}(hN:X.N[i]?=some x:=by rfl)(hv:Vis X.env.scope x:=by first | exact Or.inl rfl | exact Or.inr (Or.inl rfl) | exact Or.inr (Or.inr rfl))(hd:(x == ("__debug__" : Str))=false:=by decide)
  (hcd:(x == ("__classdict__" : Str))=false:=by decide):PE X (.Name x pos) (YJ i):=aAp hN hv hd hcd
end
theorem PR{A B:Prop}(h:B):if false=true then A else B:=by
 rw [if_neg bN];exact h
theorem PP{A B:Prop}(h:A):if true=true then A else B:=by
 rw [if_pos rfl];exact h
theorem aB1{c A B:Prop}[Decidable c](h1:c->A)(h2:¬c->B):if c then A else B:=by
 by_cases h:c
 ·rw [if_pos h];exact h1 h
 ·rw [if_neg h];exact h2 h
def aU(H H':Hp):Prop:=∀b o,H b=some o->H' b=some o
theorem aU.refl(H:Hp):aU H H:=λ_ _ h=>h
theorem aU.trans{H H1 H2:Hp}(a:aU H H1)(b:aU H1 H2):aU H H2:=λc o h=>b c o (a c o h)
theorem aU.free{H H':Hp}(e:aU H H'){l:Addr}(h:H' l=Option.none):H l=Option.none:=by
 cases q:H l with
 | none=>rfl
 | some o =>
  rw [e l o q] at h;cases h
section
variable{κ:Type}[DecidableEq κ]
def fG(kvs:List (κ × V))(k:κ):Option V:=(kvs.find? λkv=>decide (kv.1=k)).map (·.2)
def iY(kvs:List (κ × V))(k:κ)(v:V):List (κ × V) :=
 if (kvs.any λkv=>decide (kv.1=k))=true then kvs.map (λkv=>if kv.1=k then (kv.1,v) else kv) else kvs++[(k,v)]
theorem iD{p:κ × V}{r:List (κ × V)}{k:κ}(e:p.1=k):fG (p::r) k=some p.2:=by simp [fG,List.find?_cons,e]
theorem iE{p:κ × V}{r:List (κ × V)}{k:κ}(e:¬p.1=k):fG (p::r) k=fG r k:=by simp [fG,List.find?_cons,e]
theorem kU(k:κ):∀kvs:List (κ × V),(kvs.any λkv=>decide (kv.1=k))=(fG kvs k).isSome
 | []=>rfl
 | p::r=>by
  rw [List.any_cons];by_cases e:p.1=k
  ·simp only [iD e,cP e,Bool.true_or,Option.isSome_some]
  ·rw [iE e,cO e,Bool.false_or];exact kU k r
theorem CI(k j:κ)(y:V):∀kvs:List (κ × V),fG (kvs.map λkv=>if kv.1=k then (kv.1,y) else kv) j=(fG kvs j).map λx=>if j=k then y else x
 | []=>rfl
 | p::r=>by
  have ih:=CI k j y r;rw [bL];by_cases h:p.1=k
  ·rw [if_pos h];by_cases e:p.1=j
   ·rw [iD (p:=(p.1,y)) e,iD e,Option.map_some,if_pos (e.symm.trans h)]
   ·rw [iE (p:=(p.1,y)) e,iE e,ih]
  ·rw [if_neg h];by_cases e:p.1=j
   ·rw [iD (p:=p) e,iD e,Option.map_some,if_neg (λz=>h (e.trans z))]
   ·rw [iE (p:=p) e,iE e,ih]
theorem yU(k j:κ)(y:V):∀kvs:List (κ × V),fG kvs k=none->fG (kvs++[(k,y)]) j=if j=k then some y else fG kvs j
 | [],_=>by
  by_cases e:k=j
  ·rw [if_pos e.symm];exact iD (p:=(k,y)) e
  ·rw [if_neg (λz=>e z.symm)];exact iE (p:=(k,y)) e
 | p::r,hn=>by
  rw [List.cons_append];have hk:¬p.1=k:=λz=>by rw [iD z] at hn;cases hn
  rw [iE hk] at hn;have ih:=yU k j y r hn;by_cases e:p.1=j
  ·rw [iD e,iD e,if_neg (λz=>hk (e.trans z))]
  ·rw [iE e,iE e,ih]
theorem iC(kvs:List (κ × V))(k j:κ)(y:V):fG (iY kvs k y) j=if j=k then some y else fG kvs j:=by
 unfold iY;by_cases a:(kvs.any λkv=>decide (kv.1=k))=true
 ·rw [if_pos a,CI];rw [kU] at a;by_cases e:j=k
  ·obtain ⟨x,hx⟩:=Option.isSome_iff_exists.mp a;rw [if_pos e,e,hx,Option.map_some,if_pos rfl]
  ·rw [if_neg e];cases fG kvs j with
   | none=>rfl
   | some x=>rw [Option.map_some,if_neg e]
 ·rw [if_neg a];refine yU k j y kvs ?_;rw [kU] at a;cases q:fG kvs k with
  | none=>rfl
  | some x=>rw [q] at a;exact (a rfl).elim
theorem eQ(kvs:List (κ × V))(k:κ)(v:V):(iY kvs k v).length<=kvs.length+1:=by
 unfold iY;split
 ·rw [aA];omega
 ·rw [aP,bQ,List.length_nil];omega
theorem DF{kvs:List (κ × V)}{k:κ}(v:V)(h:fG kvs k=none):iY kvs k v=kvs++[(k,v)]:=by
 unfold iY;rw [kU,h];exact if_neg Dd
theorem sD.isSome_eq{o:Option V}{u:Option Value}(r:sD o u):o.isSome=u.isSome:=by
 cases o with
 | none=>cases u with
  | none=>rfl
  | some _=>exact (show False from r).elim
 | some _=>cases u with
  | none=>exact (show False from r).elim
  | some _=>rfl
theorem sD.getD{o:Option V}{u:Option Value}{d:V}{d':Value}(r:sD o u)(rd:eB d d'):eB (o.getD d) (u.getD d'):=by
 cases o with
 | none=>cases u with
  | none=>exact rd
  | some _=>exact (show False from r).elim
 | some _=>cases u with
  | none=>exact (show False from r).elim
  | some _=>exact r
theorem KV.val{kvs:List (κ × V)}{vs:List (κ × Value)}(r:KV kvs vs)(k:κ):sD (fG kvs k) (valueAt vs k):=by
 unfold KV at r
 induction r with
 | nil=>exact True.intro
 | @cons p q ps qs h t ih =>
  obtain ⟨h1,h2⟩:=h;by_cases e:p.1=k
  ·have e':q.1=k:=h1.symm.trans e;have b:valueAt (q::qs) k=some q.2:=by simp [valueAt,List.find?_cons,e']
   rw [iD e,b];exact h2
  ·have e':¬q.1=k:=λz=>e (h1.trans z);have b:valueAt (q::qs) k=valueAt qs k:=by simp [valueAt,List.find?_cons,e']
   rw [iE e,b];exact ih
theorem KV.any{kvs:List (κ × V)}{vs:List (κ × Value)}(r:KV kvs vs)(k:κ):(kvs.any λkv=>decide (kv.1=k))=vs.any λkv=>decide (kv.1=k):=by
 unfold KV at r
 induction r with
 | nil=>rfl
 | cons h t ih=>rw [List.any_cons,List.any_cons,ih,h.1]
theorem KV.repl{kvs:List (κ × V)}{vs:List (κ × Value)}(r:KV kvs vs)(k:κ){y:V}{u:Value}(ry:eB y u) :
  KV (kvs.map λkv=>if kv.1=k then (kv.1,y) else kv) (vs.map λkv=>if kv.1=k then (kv.1,u) else kv):=by
 unfold KV at r ⊢
 induction r with
 | nil=>exact .nil
 | @cons p q ps qs h t ih =>
  rw [bL,bL];refine .cons ?_ ih;obtain ⟨h1,h2⟩:=h;by_cases e:p.1=k
  ·rw [if_pos e,if_pos (h1.symm.trans e)];exact ⟨h1,ry⟩
  ·rw [if_neg e,if_neg (λz=>e (h1.trans z))];exact ⟨h1,h2⟩
theorem KV.put{kvs:List (κ × V)}{vs:List (κ × Value)}(r:KV kvs vs)(k:κ){y:V}{u:Value}(ry:eB y u):KV (iY kvs k y) (stored vs k u):=by
 unfold iY stored;rw [r.any k];by_cases e:(vs.any λkv=>decide (kv.1=k))=true
 ·rw [if_pos e,if_pos e];exact r.repl k ry
 ·rw [if_neg e,if_neg e];exact Paired.snoc r ⟨rfl,ry⟩
theorem KV.length{kvs:List (κ × V)}{vs:List (κ × Value)}(r:KV kvs vs):kvs.length=vs.length:=Paired.length r
end
theorem zO{P:Program}{w:World}{k:eO}{u:Value}(r:eB (kV k) u):(dE P w).is k u=true:=by
 cases k with
 | inl i=>obtain ⟨t,e⟩:=(show ∃t,u=Value.int i t from r);subst e;exact DL P w i t
 | inr x=>obtain ⟨t,e⟩:=(show ∃t,u=Value.str x t from r);subst e;exact DK P w x t
theorem zP{P:Program}{w:World}:∀{ks:List eO}{us:List Value},dI (ks.map kV) us->ItemsAre (dE P w) ks us
 | [],_,r=>by rw [List.map_nil] at r;cases r;exact .nil
 | k::ks,_,r=>by
  rw [bL] at r;cases r with
  | cons h t=>exact .cons (zO h) (zP t)
abbrev KT(H:Hp):List (List eO × V)->List (List eO × Addr × Value)->Prop:=Paired λp q=>p.1=q.1/\H q.2.1=some (.tup (p.1.map kV))/\eB p.2 q.2.2
theorem KT.val{H:Hp}{kvs:List (List eO × V)}{xs:List (List eO × Addr × Value)}(r:KT H kvs xs)(k:List eO):sD (fG kvs k) ((atKey xs k).map (·.2)):=by
 induction r with
 | nil=>exact True.intro
 | @cons p q ps qs h t ih =>
  obtain ⟨h1,_,h2⟩:=h;by_cases e:p.1=k
  ·have e':q.1=k:=h1.symm.trans e;have b:atKey (q::qs) k=some q.2:=by simp [atKey,List.find?_cons,e']
   rw [iD e,b];exact h2
  ·have e':¬q.1=k:=λz=>e (h1.trans z);have b:atKey (q::qs) k=atKey qs k:=by simp [atKey,List.find?_cons,e']
   rw [iE e,b];exact ih
theorem KT.repl{H:Hp}{kvs:List (List eO × V)}{xs:List (List eO × Addr × Value)}(r:KT H kvs xs)(k:List eO){y:V}{u:Value}(ry:eB y u) :
  KT H (kvs.map λkv=>if kv.1=k then (kv.1,y) else kv) (xs.map (putAt k u)):=by
 induction r with
 | nil=>exact .nil
 | @cons p q ps qs h t ih =>
  rw [bL,bL];refine .cons ?_ ih;obtain ⟨h1,h2,h3⟩:=h;unfold putAt;by_cases e:p.1=k
  ·rw [if_pos e,if_pos (h1.symm.trans e)];exact ⟨h1,h2,ry⟩
  ·rw [if_neg e,if_neg (λz=>e (h1.trans z))];exact ⟨h1,h2,h3⟩
theorem KT.put{H:Hp}{kvs:List (List eO × V)}{xs:List (List eO × Addr × Value)}(r:KT H kvs xs)(k:List eO){b:Addr}{y:V}{u:Value}(hb:H b=some (.tup (k.map kV)))(ry:eB y u) :
  KT H (iY kvs k y) (storedH xs k b u):=by
 have e:(kvs.any λkv=>decide (kv.1=k))=(atKey xs k).isSome:=by
  rw [kU,(r.val k).isSome_eq,Option.isSome_map]
 unfold iY storedH;rw [e];by_cases q:(atKey xs k).isSome=true
 ·rw [if_pos q,if_pos q];exact r.repl k ry
 ·rw [if_neg q,if_neg q];exact Paired.snoc r ⟨rfl,hb,ry⟩
theorem KT.keeps{H H':Hp}{kvs:List (List eO × V)}{xs:List (List eO × Addr × Value)}(r:KT H kvs xs)(ht:∀b ys,H b=some (.tup ys)->H' b=some (.tup ys)):KT H' kvs xs :=
 Paired.mapP r λ_ _ z=>⟨z.1,ht _ _ z.2.1,z.2.2⟩
section
variable{P:Program}{w:World}{H:Hp}{h:Heap}{a:Addr}
theorem WY{u:HO}(ok:pO P w H h)(e:Rd H a u):fO P w H h a u:=e.ok ok
theorem zS{kvs:List (eO × V)}(ok:pO P w H h)(e:Rd H a (.dK kvs)):kvs.length<=sizeLine/\(a == sysModules)=false/\∃vs,KV kvs vs/\h.DictOf (dE P w) a vs :=
 show fO P w H h a (.dK kvs) from WY ok e
theorem XL{kvs:List (eO × V)}(ok:pO P w H h)(e:H a=some (.dK kvs)):kvs.length<=sizeLine/\(a == sysModules)=false/\∃vs,KV kvs vs/\h.DictOf (dE P w) a vs:=zS ok (.inl e)
theorem rY{ks:List eO}(ok:pO P w H h)(e:H a=some (.tup (ks.map kV))):(tupleKind (dE P w)).is h ks a:=by
 obtain ⟨_,its,r,o,h1,h2,n,h3⟩:=(show fO P w H h a (.tup (ks.map kV)) from ok a _ e);exact ⟨o,its.toArray,n,h1,h2,h3,by simpa using zP r⟩
theorem zR{kvs:List (List eO × V)}(ok:pO P w H h)(e:Rd H a (.dT kvs)):kvs.length<=sizeLine/\(a == sysModules)=false /\
  ∃xs,KT H kvs xs/\h.DictOfH (tupleKind (dE P w)) a xs:=by
 obtain ⟨z,y,xs,r,o,es,ep,h1,h2,h3,h4,h5⟩:=(show fO P w H h a (.dT kvs) from WY ok e);refine ⟨z,y,xs,r,o,es,ep,h1,h2,h3,h4,λx hx=>?_,h5⟩;have all:∀{l:List (List eO × V)} {m:List (List eO × Addr × Value)},KT H l m->∀x∈m,(tupleKind (dE P w)).is h x.1 x.2.1:=by
  intro l m q
  induction q with
  | nil=>intro x hx;exact nomatch hx
  | @cons p q ps qs hq t ih =>
   intro x hx;rcases bF.mp hx with e | hx
   ·subst e;exact rY ok (by rw [<-hq.1];exact hq.2.1)
   ·exact ih x hx
 exact all r x hx
theorem XJ{kvs:List (List eO × V)}(ok:pO P w H h)(e:H a=some (.dT kvs)):kvs.length<=sizeLine/\(a == sysModules)=false /\
  ∃xs,KT H kvs xs/\h.DictOfH (tupleKind (dE P w)) a xs:=zR ok (.inl e)
end
def oQ(H:Hp)(a:Addr)(y:V)(r:Option V):Prop :=
 (∃kvs k,Rd H a (.dK kvs)/\y=kV k/\r=fG kvs k)\/∃kvs k b,Rd H a (.dT kvs)/\y=.ref b/\H b=some (.tup (k.map kV))/\r=fG kvs k
def CB(H:Hp)(a:Addr)(y v:V)(H':Hp):Prop :=
 (∃kvs k,H a=some (.dK kvs)/\y=kV k/\kvs.length<sizeLine/\H'=upd H a (.dK (iY kvs k v))) \/
 ∃kvs k b,H a=some (.dT kvs)/\y=.ref b/\H b=some (.tup (k.map kV))/\kvs.length<sizeLine/\H'=upd H a (.dT (iY kvs k v))
theorem oQ.k{H:Hp}{a:Addr}{kvs:List (eO × V)}{k:eO}(e:H a=some (.dK kvs)):oQ H a (kV k) (fG kvs k):=.inl ⟨kvs,k,.inl e,rfl,rfl⟩
theorem oQ.t{H:Hp}{a b:Addr}{kvs:List (List eO × V)}{k:List eO}(e:H a=some (.dT kvs))(eb:H b=some (.tup (k.map kV))):oQ H a (.ref b) (fG kvs k):=.inr ⟨kvs,k,b,.inl e,rfl,eb,rfl⟩
theorem CB.k{H:Hp}{a:Addr}{kvs:List (eO × V)}{k:eO}{v:V}(e:H a=some (.dK kvs))(hl:kvs.length<sizeLine):CB H a (kV k) v (upd H a (.dK (iY kvs k v))):=.inl ⟨kvs,k,e,rfl,hl,rfl⟩
theorem CB.t{H:Hp}{a b:Addr}{kvs:List (List eO × V)}{k:List eO}{v:V}(e:H a=some (.dT kvs))(eb:H b=some (.tup (k.map kV)))(hl:kvs.length<sizeLine) :
  CB H a (.ref b) v (upd H a (.dT (iY kvs k v))):=.inr ⟨kvs,k,b,e,rfl,eb,hl,rfl⟩
section
variable{X:Cx}{pins:List (Addr × Obj)}{σ:St}{H:Hp}{s:Shared}{a:Addr}{y v:V}{u r:Value}{o:Option V}{A:Around}{E:Value->Shared->Prop}
theorem cJ.big(I:cJ X pins σ H s):sysModules<s.heap.objs.size:=by
 have h:mainGlobals<s.heap.objs.size:=(I.mod.glob.keeps I.bk).lt;exact Nat.lt_trans Dd h
theorem LN{Q:Value->Shared->Prop}(hu:A.units+1<cLine)(I:cJ X pins σ H s)(g:oQ H a y (some v))(ry:eB y u)(h:∀w' s',cJ X pins σ H s'->eB v w'->Q w' s') :
  wpAny (model X.prog X.w) A (getItem (.ref a) u) Q E s:=by
 rcases g with ⟨kvs,k,e,ey,l⟩ | ⟨kvs,k,b,e,ey,eb,l⟩
 ·subst ey;obtain ⟨z,hd,vs,rel,dd⟩:=zS I.hok e;obtain ⟨w',hw,rw'⟩:=sD.some_of (v:=v) (o:=valueAt vs k) (by rw [l];exact rel.val k);exact wpAny_getItem_of (zO ry) dd.mapOf hw (h w' _ (I.tok _) rw')
 ·subst ey;cases (show u=Value.ref b from ry);obtain ⟨z,hd,xs,rel,dd⟩:=zR I.hok e;obtain ⟨w',hw,rw'⟩:=sD.some_of (v:=v) (o:=(atKey xs k).map (·.2)) (by rw [l];exact rel.val k);obtain ⟨p,hp,hp2⟩:=eL.mp hw;refine wpAny_getItem_heap (tupleKind_room_in1 hu) (rY I.hok eb) dd hp ?_;rw [hp2];exact h w' _ (I.tok _) rw'
theorem aDM{Q:Value->Shared->Prop}(hu:A.units+1<cLine)(I:cJ X pins σ H s)(g:oQ H a y o)(ry:eB y u)(h:∀s',cJ X pins σ H s'->Q (.bool o.isSome) s') :
  wpAny (model X.prog X.w) A (compareOp .In u (.ref a)) Q E s:=by
 rcases g with ⟨kvs,k,e,ey,l⟩ | ⟨kvs,k,b,e,ey,eb,l⟩
 ·subst ey;obtain ⟨z,hd,vs,rel,dd⟩:=zS I.hok e;refine wpAny_in_of (zO ry) hd dd.mapOf ?_;rw [<-(rel.val k).isSome_eq,<-l];exact h _ (I.tok _)
 ·subst ey;cases (show u=Value.ref b from ry);obtain ⟨z,hd,xs,rel,dd⟩:=zR I.hok e;refine wpAny_in_heap (tupleKind_room_in1 hu) (rY I.hok eb) hd dd ?_;have q:=(rel.val k).isSome_eq;rw [Option.isSome_map] at q;rw [<-q,<-l];exact h _ (I.tok _)
theorem tG{h':Heap}{t':Nat}{ob:HO}(I:cJ X pins σ H s)(mu:Mut (H a))(hs:Heap.SameBut a s.heap h')(he:∃q,h'.get? a=some q)(new:fO X.prog X.w (upd H a ob) h' a ob) :
  cJ X pins σ (upd H a ob) { s with heap:=h',toks:=t' } :=
 I.write (x:=a) (e:=a) mu (.inl rfl) (λb q hb z=>(hs.2 b hb).trans z) he new
theorem QF{P:Program}{w:World}{H':Hp}{h':Heap}{kvs:List (eO × V)}{vs:List (eO × Value)}(z:kvs.length<=sizeLine)(hd:(a == sysModules)=false)(rel:KV kvs vs)(dd:h'.DictOf (dE P w) a vs) :
  fO P w H' h' a (.dK kvs):=⟨z,hd,vs,rel,dd⟩
theorem LM{H':Hp}{Q:Unit->Shared->Prop}(hu:A.units+1<cLine)(I:cJ X pins σ H s)(g:CB H a y v H')(ry:eB y u)(rv:eB v r)(h:∀s',cJ X pins σ H' s'->Q () s') :
  wpAny (model X.prog X.w) A (setItem (.ref a) u r) Q E s:=by
 rcases g with ⟨kvs,k,e,ey,l,eH⟩ | ⟨kvs,k,b,e,ey,eb,l,eH⟩
 ·subst ey eH;obtain ⟨z,hd,vs,rel,dd⟩:=XL I.hok e;have hz:vs.length<=sizeLine:=by rw [<-rel.length];exact z
  have hl:(iY kvs k v).length<=sizeLine:=by have:=eQ kvs k v;omega
  refine wpAny_setItem_pairs (hsz:=hz) (zO ry) dd λh' dd' hs=>h _ ?_;have he:∃q,h'.get? a=some q:=let ⟨q,_,_,hq,_⟩:=dd';⟨q,hq⟩;exact tG I (by rw [e];exact True.intro) hs he (QF hl hd (rel.put k rv) dd')
 ·subst ey eH;cases (show u=Value.ref b from ry);obtain ⟨z,hd,xs,rel,dd⟩:=XJ I.hok e;have hz:xs.length<=sizeLine:=by rw [<-Paired.length rel];exact z
  have hl:(iY kvs k v).length<=sizeLine:=by have:=eQ kvs k v;omega
  refine wpAny_setItem_heap (hsz:=hz) (tupleKind_room_in1 hu) (rY I.hok eb) dd λh' dd' hs=>h _ ?_;obtain ⟨q,es,ep,hq,h2,h3,h4,_,h5⟩:=dd';refine tG I (by rw [e];exact True.intro) hs ⟨q,hq⟩ ⟨hl,hd,_,(rel.put k eb rv).keeps λc ys ec=>?_,q,es,ep,hq,h2,h3,h4,h5⟩;rw [dB (oC ec e (λz=>nomatch z))];exact ec
end
section
variable{X:Cx}{pins:List (Addr × Obj)}{σ:St}{H:Hp}{s:Shared}{a:Addr}{kvs:List (eO × V)}{k:eO}{u:Value}{A:Around}{E:Value->Shared->Prop}
end
def aBa(i:Expr):Prop:=∀ov iv,subscripted i false ov iv=operate [ov,iv] (getItem ov iv)
theorem SH{prog:Program}{w:World}{A:Around}{E:Value->Shared->Prop}{s:Shared}{env:Env}{value slice:Expr}{pos:Pos}{T id:String}{Q:Value->Shared->Prop}
  (hl:typeLookup (.type T) "__getitem__" = pure (some (.builtin id))) (hs:aBa slice)
  (h:wpAny (model prog w) A (eval value env) (λo s₁=>wpAny (model prog w) A (eval slice env) (λi s₂=>s₂.TypeIs o T/\wpAny (model prog w) A (getItem o i) Q E s₂) E s₁) E s) :
  wpAny (model prog w) A (eval (.Subscript value slice pos) env) Q E s:=by
 refine Subscript_ (wpAny_mono h (λo s₁ h₁=>wpAny_mono h₁ (λi s₂ h₂=>?_) λ_ _ x=>x) λ_ _ x=>x);obtain ⟨hT,h₂⟩:=h₂;unfold subscriptTail;refine wpAny_bind ?_;rw [getitemInPython_of_ne hT.not_modules];refine wpAny_bind (wpAny_specialOf hT hl ?_);have fin:wpAny (model prog w) A (subscripted slice false o i) (λr s₃=>wpAny (model prog w) A (letTemporaryGo value o r >>= λ_=>pure r) Q E s₃) E s₂:=by
  rw [hs o i];exact wpAny_operating (wpAny_mono h₂ (λr s₃ h₃=>wpAny_bind (wpAny_letTemporaryGo (wpAny_pure h₃))) λ_ _ x=>x)
 first
  | exact wpAny_pure (wpAny_bind fin)
  | exact wpAny_bind (wpAny_pure (wpAny_bind fin))
  | exact wpAny_bind fin
theorem EC{X:Cx}{pins:List (Addr × Obj)}{σ:St}{H:Hp}{s:Shared}{a:Addr}{y:V}{o:Option V}(I:cJ X pins σ H s)(g:oQ H a y o):s.TypeIs (.ref a) "dict" := by
 rcases g with ⟨kvs,k,e,_,_⟩ | ⟨kvs,k,b,e,_,_,_⟩
 ·obtain ⟨_,_,vs,_,dd⟩:=zS I.hok e;exact dd.typeIs
 ·obtain ⟨_,_,xs,_,dd⟩:=zR I.hok e;exact dd.typeIs
def aBu(td ty:TE):TE:=λσ H Q=>td σ H λx H1=>ty σ H1 λy H2=>∃a v,x=.ref a/\oQ H2 a y (some v)/\Q v H2
def aBB(td ty tv:TE):TS:=λD σ H=>tv σ H λv H1=>td σ H1 λx H2=>ty σ H2 λy H3=>∃a H4,x=.ref a/\CB H3 a y v H4/\D.nx σ H4
section
variable{X:Cx}{o i e value:Expr}{pos pos' tpos:Pos}{td ty tv:TE}
theorem UL(hu:X.A.units+1<cLine)(ho:PE X o td)(hi:PE X i ty)(hs:aBa i):PE X (.Subscript o i pos) (aBu td ty):=by
 intro pins s σ H Q I h;refine SH PySem.F.slot_dict_getitem.lookup hs (thn (ho pins s σ H _ I h) λu s1 ⟨x,H1,I1,rx,q1⟩=>thn (hi pins s1 σ H1 _ I1 q1) λiv s2 ⟨y,H2,I2,ry,a,v,ex,g,q2⟩=>?_);subst ex;obtain rfl:u=Value.ref a:=rx;exact ⟨EC I2 g,LN hu I2 g ry λw' s3 I3 rw'=>⟨v,H2,I3,rw',q2⟩⟩
theorem UC(hu:X.A.units+1<cLine)(ho:PE X o td)(hi:PE X i ty)(hv:PE X value tv)(hs:swapsWith value (some (.Subscript o i pos')) pos.line X.env=pure false) :
  PS X (.Assign [.Subscript o i pos'] value pos) (aBB td ty tv):=by
 intro pins s σ H D I h;refine wpAny_Assign_Subscript (thn (hv pins s σ H _ I h) λr s1 ⟨v,H1,I1,rv,q1⟩=>thn (ho pins s1 σ H1 _ I1 q1) λu s2 ⟨x,H2,I2,rx,q2⟩=>thn (hi pins s2 σ H2 _ I2 q2) λiv s3 ⟨y,H3,I3,ry,a,H4,ex,g,q3⟩=>?_) hs;subst ex;obtain rfl:u=Value.ref a:=rx;exact LM hu I3 g ry rv λs4 I4=>⟨σ,H4,I4,q3⟩
end
theorem QG{P:Program}{w:World}{H:Hp}(h:Heap)(hb:sysModules<h.objs.size):fO P w H (h.push { cls:=.type "dict",data:=.dict #[] }) h.objs.size (.dK []) :=
 ⟨cG _,beq_eq_false_iff_ne.mpr (Ne.symm (cR hb)),[],.nil,Heap.DictOf.new h⟩
theorem xT{P:Program}{w:World}{H:Hp}(h:Heap)(hb:sysModules<h.objs.size):fO P w H (h.push { cls:=.type "dict",data:=.dict #[] }) h.objs.size (.dT []) :=
 ⟨cG _,beq_eq_false_iff_ne.mpr (Ne.symm (cR hb)),[],.nil,_,#[],0,bB _ rfl,⟨rfl,rfl,rfl⟩,rfl,rfl,List.nodup_nil⟩
def NG:TE:=λ_ H Q=>∀p,H p=none->Q (.ref p) (upd H p (.dT []))
section
variable{X:Cx}{pos:Pos}
theorem pe_dnewT:PE X (.Dict [] [] pos) NG:=λpins s σ H Q I h =>
 wpAny_Dict_empty ⟨.ref s.heap.objs.size,_,I.laid (a:=s.heap.objs.size) (o:=.dT []) (t':=s.toks) (λ_ _ q=>aE _ q) (aL _) (xT s.heap I.big),rfl,h _ (I.hok.fresh (aL _))⟩
end
def FL:List (TE × TE)->St->Hp->(List (V × V)->Hp->Prop)->Prop
 | [],_,H,Q=>Q [] H
 | (tk,tv)::r,σ,H,Q=>tk σ H λx H1=>tv σ H1 λy H2=>FL r σ H2 λps H3=>Q ((x,y)::ps) H3
abbrev VV:List (V × V)->List (Value × Value)->Prop:=Paired λp q=>eB p.1 q.1/\eB p.2 q.2
def PPs(X:Cx)(pos:Pos)(keys:List (Option Expr))(values:List Expr)(trs:List (TE × TE)):Prop :=
 ∀(pins:List (Addr × Obj)) (s:Shared) (σ:St) (H:Hp) (Q:List (V × V)->Hp->Prop),cJ X pins σ H s->FL trs σ H Q ->
  wpAny (model X.prog X.w) X.A (evalPairs (pairTrees keys values X.env pos)) (λvs s'=>∃ps H',cJ X pins σ H' s'/\VV ps vs/\Q ps H') X.xe s
theorem pps_nil{X:Cx}{pos:Pos}:PPs X pos [] [] []:=λpins s σ H Q I h=>pairTrees_nil_walk ⟨[],H,I,.nil,h⟩
theorem OM{X:Cx}{pos:Pos}{k v:Expr}{ks:List (Option Expr)}{vs:List Expr}{tk tv:TE}{trs:List (TE × TE)}(hk:PE X k tk)(hv:PE X v tv)(hr:PPs X pos ks vs trs) :
  PPs X pos (some k::ks) (v::vs) ((tk,tv)::trs):=λpins s σ H Q I h =>
 pairTrees_cons_walk (thn (hk pins s σ H _ I h) λu s1 ⟨x,H1,I1,rx,q1⟩=>thn (hv pins s1 σ H1 _ I1 q1) λw2 s2 ⟨y,H2,I2,ry,q2⟩ =>
  thn (hr pins s2 σ H2 _ I2 q2) λws s3 ⟨ps,H3,I3,rel,q3⟩=>⟨(x,y)::ps,H3,I3,.cons ⟨rx,ry⟩ rel,q3⟩)
def xE(kvs more:List (eO × V)):List (eO × V):=more.foldl (λacc kv=>iY acc kv.1 kv.2) kvs
theorem KV.merge:∀{more:List (eO × V)}{rs:List (eO × Value)}{kvs:List (eO × V)}{vs:List (eO × Value)},KV more rs->KV kvs vs->KV (xE kvs more) (merged vs rs):=by
 intro more rs kvs vs r;unfold KV at r
 induction r generalizing kvs vs with
 | nil=>intro q;exact q
 | @cons p q ps qs h t ih =>
  intro r0;have e:KV (iY kvs p.1 p.2) (stored vs q.1 q.2):=by
   have:=r0.put p.1 h.2;rw [<-h.1];exact this
  exact ih e
theorem rP:∀(more kvs:List (eO × V)),(xE kvs more).length<=kvs.length+more.length
 | [],kvs=>by show kvs.length<=kvs.length+0;omega
 | p::r,kvs=>by
  have h1:=rP r (iY kvs p.1 p.2);have h2:=eQ kvs p.1 p.2;show (xE (iY kvs p.1 p.2) r).length<=_;rw [bQ];omega
theorem xW{P:Program}{w:World}:∀{kvs:List (eO × V)}{ws:List (Value × Value)},VV (kvs.map λkv=>(kV kv.1,kv.2)) ws->∃rs,Carries (dE P w) ws rs/\KV kvs rs
 | [],_,r=>by rw [List.map_nil] at r;cases r;exact ⟨[],True.intro,.nil⟩
 | p::kvs,_,r=>by
  rw [bL] at r;cases r with
  | @cons a b as bs h t =>
   obtain ⟨rs,c,q⟩:=xW (P:=P) (w:=w) t;obtain ⟨b1,b2⟩:=b;exact ⟨(p.1,b2)::rs,⟨zO h.1,rfl,c⟩,.cons ⟨rfl,h.2⟩ q⟩
def WU(trs:List (TE × TE)):TE:=λσ H Q=>∀p,H p=none->FL trs σ (upd H p (.dK [])) λps H2=>H2 p=some (.dK [])/\∃kvs:List (eO × V),ps=kvs.map (λkv=>(kV kv.1,kv.2))/\kvs.length<=15/\Q (.ref p) (upd H2 p (.dK (xE [] kvs)))
theorem UK{X:Cx}{pos:Pos}{keys:List (Option Expr)}{values:List Expr}{trs:List (TE × TE)}(h:PPs X pos keys values trs)(hall:keys.all (·.isSome)=true)(hl:keys.length=values.length)(h0:keys≠[])
  (h15:keys.length<=15):PE X (.Dict keys values pos) (WU trs):=by
 intro pins s σ H Q I q;have hn:=I.hok.fresh (aL s.heap.objs.size);have I1:=I.laid (a:=s.heap.objs.size) (o:=.dK []) (h':=s.heap.push { cls:=.type "dict",data:=.dict #[] }) (t':=s.toks) (λ_ _ q=>aE _ q) (aL _) (QG s.heap I.big);refine wpAny_Dict_walk (knd:=dE X.prog X.w) hall hl h0 h15 (thn (h pins _ σ _ _ I1 (q _ hn)) λws s2 ⟨ps,H2,I2,rel,e,kvs,ep,lk,q2⟩=>?_);subst ep;obtain ⟨rs,c,rk⟩:=xW (P:=X.prog) (w:=X.w) rel;obtain ⟨z,hd,vs0,r0,dd⟩:=XL I2.hok e;cases r0;refine ⟨rs,c,dd,λh' dd' hs=>⟨.ref s.heap.objs.size,_,?_,rfl,q2⟩⟩;have hz:(xE [] kvs).length<=sizeLine:=by
  have h1:=rP kvs [];rw [List.length_nil] at h1;rw [sizeLine_eq];omega
 have he:∃q,h'.get? s.heap.objs.size=some q:=let ⟨q,_,_,hq,_⟩:=dd';⟨q,hq⟩;exact tG I2 (by rw [e];exact True.intro) hs he (QF hz hd (rk.merge .nil) dd')
structure M2(X:Cx)(o:Expr)(m:Str)(apos:Pos)(e f:Expr)(cpos:Pos):Prop where
 base:attributeBase o m X.env (eval o X.env)=eval o X.env
 few:((backTo cpos (starEach [e,f] X.env)).all (λx=>!x.1)&&(backToKw cpos (keywordEach [] X.env)).all (λx=>x.1.isSome)
  && decide (([e,f]:List Expr).length+([]:List Keyword).length+(if ([]:List Keyword).isEmpty then 0 else 1)<30))=true
 line:(apos.endLine == cpos.line)=true
 trees:backTo cpos (starEach [e,f] X.env)=[(false,eval e X.env),(false,eval f X.env)]
def IsD(H:Hp)(a:Addr):Prop:=(∃kvs,Rd H a (.dK kvs))\/∃kvs,Rd H a (.dT kvs)
theorem aAM{X:Cx}{pins:List (Addr × Obj)}{σ:St}{H:Hp}{s:Shared}{a:Addr}(I:cJ X pins σ H s)(d:IsD H a) :
  s.TypeIs (.ref a) "dict" /\ (∀b,Value.ref a=.ref b->∃ob,s.heap.get? b=some ob/\ob.dict=none)/\(a == sysModules)=false:=by
 rcases d with ⟨kvs,e⟩ | ⟨kvs,e⟩
 ·obtain ⟨_,hd,vs,_,dd⟩:=zS I.hok e;refine ⟨dd.typeIs,λb q=>?_,hd⟩;cases q;obtain ⟨ob,_,_,h1,h2,_⟩:=dd;exact ⟨ob,h1,h2.2.1⟩
 ·obtain ⟨_,hd,xs,_,dd⟩:=zR I.hok e;refine ⟨dd.typeIs,λb q=>?_,hd⟩;cases q;obtain ⟨ob,_,_,h1,h2,_⟩:=dd;exact ⟨ob,h1,h2.2.1⟩
section
variable{X:Cx}{pins:List (Addr × Obj)}{σ:St}{H:Hp}{s:Shared}{a:Addr}{y d:V}{u r:Value}{o:Option V}{A:Around}{E:Value->Shared->Prop}
theorem aAV{Q:Value->Shared->Prop}(hu:A.units+1<cLine)(I:cJ X pins σ H s)(g:oQ H a y o)(ry:eB y u)(rd:eB d r)(h:∀w' s',cJ X pins σ H s'->eB (o.getD d) w'->Q w' s') :
  wpAny (model X.prog X.w) A (call (.builtin "dict.get") [.ref a,u,r]) Q E s:=by
 rcases g with ⟨kvs,k,e,ey,l⟩ | ⟨kvs,k,b,e,ey,eb,l⟩
 ·subst ey;obtain ⟨z,hd,vs,rel,dd⟩:=zS I.hok e;refine call_meetsIn PySem.F.slot_dict_get dd.typeIs PySem.F.entry_dict_get (PySem.F.args_dict_get_3 _ _ _) (meets_dict_get_default (dE X.prog X.w) a (zO ry) hd r) ⟨_,dd.mapOf,h _ _ (I.tok _) ?_⟩;rw [l];exact (rel.val k).getD rd
 ·subst ey;cases (show u=Value.ref b from ry);obtain ⟨z,hd,xs,rel,dd⟩:=zR I.hok e;refine call_meetsIn PySem.F.slot_dict_get dd.typeIs PySem.F.entry_dict_get (PySem.F.args_dict_get_3 _ _ _) (meetsH_dict_get_default (tupleKind (dE X.prog X.w)) a b hd r) ⟨tupleKind_room_in1 hu,k,xs,rY I.hok eb,dd,h _ _ (I.tok _) ?_⟩;rw [l];exact (rel.val k).getD rd
end
def NH(td ty tx:TE):TE:=λσ H Q=>td σ H λx H1=>∃a,x=.ref a/\IsD H1 a/\ty σ H1 λy H2=>tx σ H2 λz H3=>∃o,oQ H3 a y o/\Q (o.getD z) H3
section
variable{X:Cx}{o e f:Expr}{apos cpos:Pos}{td ty tx:TE}
theorem OR(hu:X.A.units+1<cLine)(ho:PE X o td)(he:PE X e ty)(hf:PE X f tx)(m:M2 X o "get" apos e f cpos):PE X (.Call (.Attribute o "get" apos) [e,f] [] cpos) (NH td ty tx):=by
 intro pins s σ H Q I h;refine wpAny_Call_method m.base m.few m.line PySem.F.plainAttrs_dict PySem.F.slot_dict_get PySem.F.type_dict_get (thn (ho pins s σ H _ I h) λu s1 ⟨x,H1,I1,rx,a,ex,d,q1⟩=>?_);subst ex;obtain rfl:u=Value.ref a:=rx;obtain ⟨t1,t2,_⟩:=aAM I1 d;refine ⟨t1,t2,?_⟩;rw [m.trees];refine Calls.callWith_builtin rfl (Calls.evalArgs_plain (Calls.spliced_cons (thn (he pins s1 σ H1 _ I1 q1) λiv s2 ⟨y,H2,I2,ry,q2⟩ =>
  Calls.spliced_cons (thn (hf pins s2 σ H2 _ I2 q2) λfv s3 ⟨z,H3,I3,rz,ov,g,q3⟩=>Calls.spliced_nil ?_))))
 exact aAV hu I3 g ry rz λw' s4 I4 rw'=>⟨_,H3,I4,rw',q3⟩
end
section
variable{X:Cx}{pins:List (Addr × Obj)}{σ:St}{H:Hp}{s:Shared}{a:Addr}{kvs:List (eO × V)}{A:Around}{E:Value->Shared->Prop}
end
section
variable{X:Cx}{pins:List (Addr × Obj)}{σ:St}{H:Hp}{s:Shared}{a:Addr}{y:V}{u:Value}{A:Around}{E:Value->Shared->Prop}
end
section
variable{κ:Type}[DecidableEq κ]
theorem MZ{kvs:List (κ × V)}{k:κ}(h:fG kvs k=none):¬k∈kvs.map (·.1):=by
 intro m;obtain ⟨p,hp,e⟩:=aQ.mp m;have q:(kvs.any λkv=>decide (kv.1=k))=true:=List.any_eq_true.mpr ⟨p,hp,cP e⟩;rw [kU,h] at q;exact absurd q (by simp)
theorem HQ{kvs:List (κ × V)}{k:κ}{v:V}(h:fG kvs k=some v):k∈kvs.map (·.1):=by
 have q:(kvs.any λkv=>decide (kv.1=k))=true:=by
  rw [kU,h]
  all_goals rfl
 obtain ⟨p,hp,e⟩:=List.any_eq_true.mp q;exact aQ.mpr ⟨p,hp,of_decide_eq_true e⟩
end
abbrev bits(i:Int):Nat:=Builtin.Int.intBits i
def RE(i j:Int):Prop:=0<j/\bits j<=9000
theorem DR{j:Int}{n:Nat}(h:bits j<=n)(hn:0<n):j.natAbs.log2<n:=by
 unfold bits Builtin.Int.intBits at h;by_cases hj:(j == 0)=true
 ·have:j=0:=by simpa using hj
  subst this;exact bA (by decide +kernel:(0:Int).natAbs.log2<=0) hn
 ·rw [if_neg hj] at h;omega
section
variable{X:Cx}
theorem fL:vB X (binaryOp .FloorDiv) (rI RE λi j=>.int (i/j)):=opI λi j _ _ _ _ _ hc q=>by
 refine floordiv_int (by have:=hc.1;omega) ?_ (.inl (PyProof.noPylong_of_log2 (DR hc.2 Dd)));rw [Int.fdiv_eq_ediv_of_nonneg i (by have:=hc.1;omega)];exact q
theorem dO:vB X (binaryOp .Mult) (rI IntMulOk λi j=>.int (i*j)):=opI λ_ _ _ _ _ _ _ hc q=>mul_int q hc
end
mutual
def cA(H:Hp):PyData->V->Prop
 | .none,v=>v=.non
 | .bool b,v=>v=.bl b
 | .int i,v=>v=.int i
 | .str x,v=>v=.str x
 | .list ds,v=>∃a xs,v=.ref a/\H a=some (.lst xs)/\aT H ds xs
 | .tuple ds,v=>∃a xs,v=.ref a/\H a=some (.tup xs)/\aT H ds xs
 | .dict kvs,v=>kvs=[]/\∃a,v=.ref a/\H a=some (.dK [])
def aT(H:Hp):List PyData->List V->Prop
 | [],vs=>vs=[]
 | d::ds,vs=>∃x xs,vs=x::xs/\cA H d x/\aT H ds xs
end
mutual
theorem cA.same{H H':Hp}(e:aU H H'):∀{d:PyData}{v:V},cA H d v->cA H' d v
 | .none,_,h=>h
 | .bool _,_,h=>h
 | .int _,_,h=>h
 | .str _,_,h=>h
 | .list ds,_,h=>by
  unfold cA at h ⊢;obtain ⟨a,xs,rfl,h1,h2⟩:=h;exact ⟨a,xs,rfl,e _ _ h1,aT.same e h2⟩
 | .tuple ds,_,h=>by
  unfold cA at h ⊢;obtain ⟨a,xs,rfl,h1,h2⟩:=h;exact ⟨a,xs,rfl,e _ _ h1,aT.same e h2⟩
 | .dict kvs,_,h=>by
  unfold cA at h ⊢;obtain ⟨h0,a,rfl,h1⟩:=h;exact ⟨h0,a,rfl,e _ _ h1⟩
theorem aT.same{H H':Hp}(e:aU H H'):∀{ds:List PyData}{vs:List V},aT H ds vs->aT H' ds vs
 | [],_,h=>h
 | d::ds,_,h=>by
  unfold aT at h ⊢;obtain ⟨x,xs,rfl,h1,h2⟩:=h;exact ⟨x,xs,rfl,cA.same e h1,aT.same e h2⟩
end
theorem cA.tup{H:Hp}{a:Addr}{xs:List V}{ds:List PyData}(h:H a=some (.tup xs))(r:aT H ds xs):cA H (.tuple ds) (.ref a):=by
 unfold cA;exact ⟨a,xs,rfl,h,r⟩
theorem cA.lst{H:Hp}{a:Addr}{xs:List V}{ds:List PyData}(h:H a=some (.lst xs))(r:aT H ds xs):cA H (.list ds) (.ref a):=by
 unfold cA;exact ⟨a,xs,rfl,h,r⟩
theorem cA.int{H:Hp}(i:Int):cA H (.int i) (.int i):=by unfold cA;rfl
theorem cA.str{H:Hp}(i:Str):cA H (.str i) (.str i):=by unfold cA;rfl
theorem aT.nil{H:Hp}:aT H [] []:=by unfold aT;rfl
theorem aT.cons{H:Hp}{d:PyData}{ds:List PyData}{x:V}{xs:List V}(h:cA H d x)(hs:aT H ds xs):aT H (d::ds) (x::xs):=by
 unfold aT;exact ⟨x,xs,rfl,h,hs⟩
section
variable{X:Cx}{pins:List (Addr × Obj)}{σ:St}{H:Hp}{s:Shared}
mutual
theorem cA.reads(I:cJ X pins σ H s):∀{d:PyData}{v:V}{u:Value},cA H d v->eB v u->∃as,Reads s.heap u d as
 | .none,_,u,h,r=>by
  cases (show _=V.non from h);cases (show u=Value.none from r);exact ⟨_,.none⟩
 | .bool b,_,u,h,r=>by
  cases (show _=V.bl b from h);cases (show u=Value.bool b from r);exact ⟨_,.bool b⟩
 | .int b,_,u,h,r=>by
  cases (show _=V.int b from h);obtain ⟨t,q⟩:=(show ∃t,u=Value.int b t from r);cases q;exact ⟨_,.int b t⟩
 | .str b,_,u,h,r=>by
  cases (show _=V.str b from h);obtain ⟨t,q⟩:=(show ∃t,u=Value.str b t from r);cases q;exact ⟨_,.str b t⟩
 | .list ds,v,u,h,r=>by
  unfold cA at h;obtain ⟨a,xs,rfl,h1,h2⟩:=h;cases (show u=Value.ref a from r);obtain ⟨_,its,n,r',e⟩:=(show fO X.prog X.w H s.heap a (.lst xs) from I.hok a _ h1);obtain ⟨as,q⟩:=aT.reads I h2 r';exact ⟨_,.list e rfl rfl (by simpa using q)⟩
 | .tuple ds,v,u,h,r=>by
  unfold cA at h;obtain ⟨a,xs,rfl,h1,h2⟩:=h;cases (show u=Value.ref a from r);obtain ⟨_,its,r',o,e,hc,n,hd⟩:=(show fO X.prog X.w H s.heap a (.tup xs) from I.hok a _ h1);obtain ⟨as,q⟩:=aT.reads I h2 r';exact ⟨_,.tuple e hc hd (by simpa using q)⟩
 | .dict kvs,v,u,h,r=>by
  unfold cA at h;obtain ⟨rfl,a,rfl,h1⟩:=h;cases (show u=Value.ref a from r);obtain ⟨_,_,vs,kv,o,es,ep,e,hx,hd,_,hes,_⟩:=(show fO X.prog X.w H s.heap a (.dK []) from I.hok a _ h1);cases kv;have he:es.toList=[]:=by
   cases q:es.toList with
   | nil=>rfl
   | cons y ys=>rw [q] at hes;cases hes
  exact ⟨_,.dict e hx.1 hd (by rw [he];exact .nil) (by rw [he];exact .nil)⟩
theorem aT.reads(I:cJ X pins σ H s):∀{ds:List PyData}{vs:List V}{us:List Value},aT H ds vs->dI vs us->∃as,ReadsAll s.heap us ds as
 | [],_,us,h,r=>by
  cases (show _=[] from h);cases r;exact ⟨_,.nil⟩
 | d::ds,_,us,h,r=>by
  unfold aT at h;obtain ⟨x,xs,rfl,h1,h2⟩:=h;cases r with
  | cons r1 r2 =>
   obtain ⟨as,q1⟩:=cA.reads I h1 r1;obtain ⟨bs,q2⟩:=aT.reads I h2 r2;exact ⟨_,.cons q1 q2⟩
end
end
section
variable{X:Cx}
end
section
variable{X:Cx}
end
structure eZ(CX:MD)(P:Program)(w:World)(K:PySem.W.Frag)(mg:Str->Option Value)(base:Heap)(k:Nat)(x:Str)(ps:List Str)(sp:Sp):Prop where
 ex:∃(f:Addr) (fd:FuncData),dM P w K mg base CX k f fd ps sp/\mg x=some (.ref f)/\PySem.W.keepIn K (.ref f)=true/\tP K fd ps []
section
variable{X:Cx}{k:Nat}{ps:List Str}{sp:Sp}{x:Str}{p pos:Pos}{e:Expr}{es:List Expr}{t:TA}
theorem aBR(F:eZ cS X.prog X.w X.K X.mg X.base k x ps sp)(hr:jS k X.A)(ha:PA X (e::es) t)(hg:Gl X x:=by rfl)
  (hdb:(x == ("__debug__" : Str))=false:=by decide) (he:starEach (e::es) X.env=(false,eval e X.env)::starEach es X.env:=by rfl) (hpl:(backTo pos (starEach es X.env)).any (·.1)=false:=by rfl) :
  PE X (.Call (.Name x p) (e::es) [] pos) (NJ sp [] E0 t):=by
 obtain ⟨f,fd,h1,h2,h3,h4⟩:=F.ex;exact UO h1 hr hg h2 h3 h4 .nil WZ ha hdb he hpl
end
section
variable{K:PySem.W.Frag}{H:Hp}{p:Addr}{xs:List V}{i:Int}{v:V}{Q:VK}
theorem PM(h:H p=some (.lst xs))(e:BV xs i=some v)(q:Q v H):rIx K (.ref p) (.int i) H Q:=.inl ⟨p,xs,i,v,rfl,rfl,fI.of h,e,q⟩
theorem mP(h:H p=some (.tup xs))(e:BV xs i=some v)(q:Q v H):rIx K (.ref p) (.int i) H Q:=.inr (.inl ⟨p,xs,i,v,rfl,rfl,jM.of h,e,q⟩)
end
def gX(p:Addr)(H:Hp):Hp:=λb=>if b=p then none else H b
theorem gX.at{p b:Addr}{H:Hp}(h:b≠p):gX p H b=H b:=by unfold gX;rw [if_neg h]
theorem gX.self{p:Addr}{H:Hp}:gX p H p=none:=by unfold gX;rw [if_pos rfl]
theorem gX.same{p:Addr}{H:Hp}:aU (gX p H) H:=λb o h=>by
 unfold gX at h;by_cases e:b=p
 ·rw [if_pos e] at h;cases h
 ·rw [if_neg e] at h;exact h
theorem gX.ne{p b:Addr}{H:Hp}{o:HO}(h:gX p H b=some o):b≠p:=λe=>by
 subst e;rw [gX.self] at h;cases h
theorem gX.of{p b:Addr}{H:Hp}{o:HO}(n:b≠p)(h:H b=some o):gX p H b=some o:=by rw [gX.at n];exact h
theorem gX.upd_self{p:Addr}{H:Hp}{o:HO}:gX p (upd H p o)=gX p H:=by
 funext b
 by_cases e:b=p
 ·subst e;rw [gX.self,gX.self]
 ·rw [gX.at e,gX.at e,L2.dB e]
abbrev aR(p:Addr)(H H':Hp):Prop:=aU (gX p H) (gX p H')
theorem aU.but{p:Addr}{H H':Hp}(h:aU H H'):aR p H H':=λb o e=>by
 have n:=gX.ne e;exact gX.of n (h _ _ (gX.same _ _ e))
theorem aU.upd{H:Hp}{q:Addr}{o:HO}(h:H q=none):aU H (upd H q o):=λb u e=>by
 rw [L2.dB (cQ e h)];exact e
theorem aR.self{p:Addr}{H:Hp}{o:HO}:aR p H (upd H p o):=by unfold aR;rw [gX.upd_self];exact aU.refl _
theorem aR.free{p q:Addr}{H H':Hp}(e:aR p H H')(hp:∃o,H' p=some o)(h:H' q=none):H q=none:=by
 cases k:H q with
 | none=>rfl
 | some o =>
  by_cases n:q=p
  ·subst n;obtain ⟨o',h'⟩:=hp;rw [h'] at h;cases h
  ·have:=gX.same _ _ (e q o (gX.of n k));rw [this] at h;cases h
section
variable{K:PySem.W.Frag}{H:Hp}{p:Addr}{xs:List V}{i:Int}{v:V}{Q:VK}
theorem alT{Q:V->Hp->Prop}(hz:xs.length<=sizeLine)(k:∀q H',H q=none->H' q=some (.tup xs)->aU H H'->Q (.ref q) H'):xs.length<=sizeLine/\∀p,H p=none->Q (.ref p) (upd H p (.tup xs)) :=
 ⟨hz,λq hq=>k q _ hq bK (aU.upd hq)⟩
theorem alL{Q:V->Hp->Prop}(hz:xs.length<=sizeLine)(k:∀q H',H q=none->H' q=some (.lst xs)->aU H H'->Q (.ref q) H'):xs.length<=sizeLine/\∀p,H p=none->Q (.ref p) (upd H p (.lst xs)) :=
 ⟨hz,λq hq=>k q _ hq bK (aU.upd hq)⟩
theorem aR.at{p b:Addr}{H H':Hp}{o:HO}(s:aR p H H')(n:b≠p)(h:H b=some o):H' b=some o:=gX.same _ _ (s _ _ (gX.of n h))
end
theorem vU{n:Nat}(h:n<=64):n<=sizeLine:=aK h Dd
theorem rZ{c A B:Prop}[Decidable c](h1:c->A)(h2:¬c->B):if decide c=true then A else B :=
 aB1 (λh=>h1 (of_decide_eq_true h)) (λh=>h2 (λk=>h (cP k)))
theorem aB0{c A B:Prop}[Decidable c](h1:¬c->A)(h2:c->B):if (!decide c)=true then A else B :=
 aB1 (λh=>h1 (λk=>by rw [cP k] at h;exact absurd h Dd)) (λh=>h2 (Decidable.of_not_not λk=>h (by rw [cO k];rfl)))
def rO(c:TT):TT:=λσ H Q=>∃Q':Bool->Hp->Prop,c σ H Q'/\∀b H1,Q' b H1->Q b H1
theorem PT.mono{X:Cx}{e:Expr}{c:TT}(h:PT X e c):PT X e (rO c):=λpins s σ H Q I ⟨Q',h1,h2⟩ =>
 thn (h pins s σ H Q' I h1) λb s' ⟨H',I',q⟩=>⟨H',I',h2 _ _ q⟩
theorem KM{X:Cx}{pos:Pos}{c:Expr}{body:List Stmt}{tc:TT}{tb:TS}(hp:PassesOwn (model X.prog X.w) X.A X.env X.xe)(hc:PT X c tc)(hb:GW X body tb):PS X (.While c body [] pos) (AF (rO tc) tb) :=
 OJ hp hc.mono hb
@[irreducible] def KJ(K:PySem.W.Frag):List V->Hp->VK->Prop:=λxs H Q=>∃x n,xs=[x]/\aCn K x H n/\Q (.int n) H
@[irreducible] def TW:List V->Hp->VK->Prop:=λxs H Q=>∃i,xs=[.int i]/\Q (.int (i.natAbs:Int)) H
section
variable{X:Cx}{K:PySem.W.Frag}{H:Hp}{p:Addr}{xs:List V}{Q:VK}
theorem nC:lE X (.builtin "len") (KJ X.K):=by unfold KJ;exact QP
theorem aAX:lE X (.builtin "abs") TW:=by
 unfold TW;exact λpins s σ H xs us Q I r ⟨i,e,q⟩=>QQ pins s σ H xs us Q I r ⟨i,e,by
 have:(if i<0 then -i else i)=(i.natAbs:Int):=by split <;> omega
 rw [this];exact q⟩
theorem rlL(h:H p=some (.lst xs))(q:Q (.int xs.length) H):KJ K [V.ref p] H Q:=by unfold KJ;exact ⟨_,_,rfl,.inl ⟨xs,fI.of h,rfl⟩,q⟩
theorem rlT(h:H p=some (.tup xs))(q:Q (.int xs.length) H):KJ K [V.ref p] H Q:=by unfold KJ;exact ⟨_,_,rfl,.inr ⟨xs,jM.of h,rfl⟩,q⟩
theorem raI{i:Int}(q:Q (.int (i.natAbs:Int)) H):TW [V.int i] H Q:=by unfold TW;exact ⟨i,rfl,q⟩
end
theorem vS{c:TT}{tb:TS}{D:rN}{σ:St}{H:Hp}(W:Nat->St->Hp->Prop)(R:St->Hp->Prop)(m:Nat)(h0:W m σ H)
  (hs:∀m σ H,W m σ H->c σ H λb H1=>if b=true then tb { D with nx:=λσ' H'=>∃m',m' < m/\W m' σ' H',ct:=λσ' H'=>∃m',m' < m/\W m' σ' H',bk:=D.nx } σ H1 else R σ H1)
  (hd:∀σ H,R σ H->D.nx σ H):AF (rO c) tb D σ H :=
 ⟨W,⟨m,h0⟩,λm σ H hw=>⟨_,hs m σ H hw,λb H1 q=>by
  by_cases hb:b=true
  ·rw [if_pos hb] at q ⊢;exact ⟨_,λ_ _ h=>h,q⟩
  ·rw [if_neg hb] at q ⊢;exact hd _ _ q⟩⟩
def aBv(t:TS):TS:=λD σ H=>∃R:St->Hp->Prop,(∀σ' H',R σ' H'->D.nx σ' H')/\t { D with nx:=R } σ H
theorem aAk{X:Cx}{st:Stmt}{t:TS}(h:PS X st t):PS X st (aBv t):=λpins s σ H D I ⟨R,hR,q⟩ =>
 thn (h pins s σ H _ I q) λf s' z=>by
  cases f with
  | next=>obtain ⟨σ',H',I',r⟩:=z;exact ⟨σ',H',I',hR _ _ r⟩
  | brk=>exact z
  | cont=>exact z
  | ret u=>exact z
section
variable{es:List Expr}{env:Env}
theorem gH{a b c}:starEach (.BoolOp a b c::es) env=(false,eval (.BoolOp a b c) env)::starEach es env:=by rw [starEach] <;> (intros;contradiction)
theorem iJ{a b c d}:starEach (.BinOp a b c d::es) env=(false,eval (.BinOp a b c d) env)::starEach es env:=by rw [starEach] <;> (intros;contradiction)
theorem fS{a b c}:starEach (.UnaryOp a b c::es) env=(false,eval (.UnaryOp a b c) env)::starEach es env:=by rw [starEach] <;> (intros;contradiction)
theorem jZ{a b c}:starEach (.Dict a b c::es) env=(false,eval (.Dict a b c) env)::starEach es env:=by rw [starEach] <;> (intros;contradiction)
theorem fE{a b c d}:starEach (.ListComp a b c d::es) env=(false,eval (.ListComp a b c d) env)::starEach es env:=by rw [starEach] <;> (intros;contradiction)
theorem fT{a b c d}:starEach (.Compare a b c d::es) env=(false,eval (.Compare a b c d) env)::starEach es env:=by rw [starEach] <;> (intros;contradiction)
theorem gP{a b c d}:starEach (.Call a b c d::es) env=(false,eval (.Call a b c d) env)::starEach es env:=by rw [starEach] <;> (intros;contradiction)
theorem fF{a b c}:starEach (.Constant a b c::es) env=(false,eval (.Constant a b c) env)::starEach es env:=by rw [starEach] <;> (intros;contradiction)
theorem dR{a b c}:starEach (.Attribute a b c::es) env=(false,eval (.Attribute a b c) env)::starEach es env:=by rw [starEach] <;> (intros;contradiction)
theorem cZ{a b c}:starEach (.Subscript a b c::es) env=(false,eval (.Subscript a b c) env)::starEach es env:=by rw [starEach] <;> (intros;contradiction)
theorem gO{a b}:starEach (.Name a b::es) env=(false,eval (.Name a b) env)::starEach es env:=by rw [starEach] <;> (intros;contradiction)
theorem iI{a b c}:starEach (.Tuple a b c::es) env=(false,eval (.Tuple a b c) env)::starEach es env:=by rw [starEach] <;> (intros;contradiction)
end
section
variable{X:Cx}{k:Nat}{ps:List Str}{sp:Sp}{x:Str}{p pos:Pos}{e:Expr}{es:List Expr}{te:TE}{t:TA}{id T:String}{r:List V->Hp->VK->Prop}
theorem xY{env:Env}:(backTo pos (starEach [] env)).any (·.1)=false:=rfl
theorem tK{env:Env}(hs:starEach (e::es) env=(false,eval e env)::starEach es env)(h:(backTo pos (starEach es env)).any (·.1)=false):(backTo pos (starEach (e::es) env)).any (·.1)=false:=by
 rw [hs];show (false || (backTo pos (starEach es env)).any (·.1))=false;rw [h];rfl
end
structure gW(X:Cx)(e:Expr)(t:TE):Prop where p:PE X e t
structure MB(X:Cx)(e:Expr)(t:TT):Prop where p:PT X e t
structure PWw(X:Cx)(e:Expr)(t:TT):Prop where p:PW X e t
structure GX(X:Cx)(es:List Expr)(t:TA):Prop where p:PA X es t
structure FB(X:Cx)(st:Stmt)(t:TS):Prop where p:PS X st t
structure yO(X:Cx)(st:List Stmt)(t:TS):Prop where p:GW X st t
structure XT(X:Cx)(e:Expr)(t:TG):Prop where p:PG X e t
structure WG(X:Cx)(es:List Expr)(t:RA):Prop where p:PGs X es t
structure MJ(X:Cx)(tg iter:Expr)(t:TI):Prop where p:PI X tg iter t
structure POw(X:Cx)(e:Option Expr)(t:TO):Prop where p:PO X e t
@[irreducible] def ID(xs:List V)(H:Hp)(Q:VK):Prop:=xs.length<=sizeLine/\∀p,H p=none->Q (.ref p) (upd H p (.tup xs))
@[irreducible] def IE(xs:List V)(H:Hp)(Q:VK):Prop:=xs.length<=sizeLine/\∀p,H p=none->Q (.ref p) (upd H p (.lst xs))
theorem rK{xs:List V}{H:Hp}{Q:VK}(hz:xs.length<=64)(k:∀q H',H q=none->H' q=some (.tup xs)->aU H H'->Q (.ref q) H'):ID xs H Q:=by unfold ID;exact alT (vU hz) k
theorem AZ{xs:List V}{H:Hp}{Q:VK}(hz:xs.length<=64)(k:∀q H',H q=none->H' q=some (.lst xs)->aU H H'->Q (.ref q) H'):IE xs H Q:=by unfold IE;exact alL (vU hz) k
def tTu(t:TA):TE:=λσ H Q=>t σ H λxs H1=>ID xs H1 Q
def tLs(t:TA):TE:=λσ H Q=>t σ H λxs H1=>IE xs H1 Q
theorem aCR{ts us:TS}{D:rN}{σ:St}{H:Hp}(h:ts { D with nx:=us D } σ H):YK ts us D σ H:=h
theorem aDE{te:TE}{g:TG}{D:rN}{σ:St}{H:Hp}(h:te σ H λx H1=>g x σ H1 D.nx):AH te g D σ H:=h
section
variable{X:Cx}{a b c e o tg:Expr}{es rest:List Expr}{ta tb tc te to:TE}{tA tB':TT}{t:TA}{pos p p2:Pos}{st:Stmt}{sts body orelse:List Stmt}{ts us:TS}{x:Str}{r r':R2}{id T:String}{rl:List V->Hp->VK->Prop}{k i j:Nat}{ps:List Str}{sp:Sp}{n:Nat}
theorem aD(i:Nat){x:Str}{pos:Pos}(hN:X.N[i]?=some x:=by rfl)(hv:Vis X.env.scope x:=by first | exact Or.inl rfl | exact Or.inr (Or.inl rfl) | exact Or.inr (Or.inr rfl))(hd:(x == ("__debug__" : Str))=false:=by decide)
  (hcd:(x == ("__classdict__" : Str))=false:=by decide):gW X (.Name x pos) (YJ i):=⟨pv i hN hv hd hcd⟩
theorem aM{i j pos}:gW X (.Constant (.int i) j pos) (tC (.int i)):=⟨pe_int⟩
theorem WK{b j pos}:gW X (.Constant (.bool b) j pos) (tC (.bl b)):=⟨pe_bl⟩
theorem MV{j pos}:gW X (.Constant .none j pos) (tC .non):=⟨pe_non⟩
theorem gL{x j pos}:gW X (.Constant (.str x) j pos) (tC (.str x)):=⟨pe_str⟩
theorem mR{v:V}{u:Value}(hg:Gl X x)(hm:X.mg x=some u)(r:eB v u)(hd:(x == ("__debug__" : Str))=false:=by decide):gW X (.Name x pos) (tC v):=⟨UJ hg hm r hd⟩
theorem bV{op:Operator}(ho:vB X (binaryOp op) r)(ha:gW X a ta)(hb:gW X b tb):gW X (.BinOp a op b pos) (RG r ta tb):=⟨aBP ho ha.p hb.p⟩
theorem HK{op:UnaryOp}{r:V->Hp->VK->Prop}(ho:UnR X (unaryOp op) r)(ha:gW X a ta):gW X (.UnaryOp op a pos) (tUn r ta):=⟨aBO ho ha.p⟩
theorem pS{op:CmpOp}(ho:vB X (compareOp op) r)(ha:gW X a ta)(hb:gW X b tb)(hm:behindInMarks op b=false):gW X (.Compare a [op] [b] pos) (RG r ta tb):=⟨UN ho ha.p hb.p hm⟩
theorem gC{op:CmpOp}(ho:vB X (compareOp op) r)(ha:gW X a ta)(hb:gW X b tb)(hm:behindInMarks op b=false):MB X (.Compare a [op] [b] pos) (WO (RG r ta tb)):=⟨TZ ho ha.p hb.p hm⟩
theorem wE(h:gW X e te)(he:∀whole,isTrue e X.env whole=(do let v <-whole;standAt e.pos;holding [v] (truthy v)):=by intro _;rfl):MB X e (tB te):=⟨aAe h.p he⟩
theorem HD(ha:MB X a tA):PWw X (.BoolOp .And [a] pos) tA:=⟨TX ha.p⟩
theorem XX(ha:MB X a tA):PWw X (.BoolOp .Or [a] pos) tA:=⟨aAc ha.p⟩
theorem MM(ha:MB X a tA)(hb:PWw X (.BoolOp .And (b::rest) pos) tB'):PWw X (.BoolOp .And (a::b::rest) pos) (aBy tA tB'):=⟨aAd ha.p hb.p⟩
theorem aBn(ha:MB X a tA)(hb:PWw X (.BoolOp .Or (b::rest) pos) tB'):PWw X (.BoolOp .Or (a::b::rest) pos) (tOr tA tB'):=⟨aBL ha.p hb.p⟩
theorem XY(h:PWw X e tA):MB X e tA:=⟨h.p.pt⟩
theorem YD{op}(h:gW X a ta):gW X (.BoolOp op [a] pos) ta:=⟨aAr h.p⟩
theorem YF(ha:gW X a ta)(hb:gW X (.BoolOp .And (b::rest) pos) tb):gW X (.BoolOp .And (a::b::rest) pos) (NK ta tb):=⟨aAv ha.p hb.p⟩
theorem CH(hc:MB X c tA)(ha:gW X a ta)(hb:gW X b tb):gW X (.IfExp c a b pos) (tIf tA ta tb):=⟨OQ hc.p ha.p hb.p⟩
theorem aC:GX X [] YL:=⟨pa_nil⟩
theorem aG(ha:gW X e te)(hr:GX X es t)(hs:starEach (e::es) X.env=(false,eval e X.env)::starEach es X.env:=by first | exact gO | exact fF | exact gH | exact iJ | exact fS | exact se_IfExp | exact jZ | exact fE | exact fT | exact gP | exact dR | exact cZ | exact se_List | exact iI | exact se_JoinedStr | exact se_GeneratorExp):GX X (e::es) (NI te t):=⟨UP ha.p hr.p hs⟩
theorem dS{x1}(h:GX X es t):gW X (.Tuple es x1 pos) (tTu t):=⟨by unfold tTu ID;exact aAq h.p⟩
theorem gM(h:GX X es t):gW X (.List es pos) (tLs t):=⟨by unfold tLs IE;exact aAs h.p⟩
theorem lU:gW X (.Dict [] [] pos) NG:=⟨pe_dnewT⟩
theorem bX(hr:RC X r)(ha:gW X a ta)(hb:gW X b tb)(hs:JO b):gW X (.Subscript a b pos) (RG r ta tb):=⟨aBQ hr ha.p hb.p hs⟩
theorem qU:POw X none HU:=⟨po_none⟩
theorem qT(h:gW X e te):POw X (some e) (WP te):=⟨UD h.p⟩
theorem nH{lo hi:Option Expr}{tl th:TO}{r:V->Option Int->Option Int->Hp->VK->Prop}(hr:SlR X r)(he:gW X e te)(hl:POw X lo tl)(hu:POw X hi th):gW X (.Subscript e (.Slice lo hi none p2) pos) (tSl r te tl th):=⟨OP hr he.p hl.p hu.p⟩
theorem bH(F:eZ cS X.prog X.w X.K X.mg X.base k x ps sp)(hr:jS k X.A)(ha:GX X (e::es) t)(hg:Gl X x:=by rfl)
  (hdb:(x == ("__debug__" : Str))=false:=by decide) (he:starEach (e::es) X.env=(false,eval e X.env)::starEach es X.env:=by first | exact gO | exact fF | exact gH | exact iJ | exact fS | exact se_IfExp | exact jZ | exact fE | exact fT | exact gP | exact dR | exact cZ | exact se_List | exact iI | exact se_JoinedStr | exact se_GeneratorExp)
  (hpl:(backTo pos (starEach es X.env)).any (·.1)=false:=by repeat (first | exact xY | refine tK (by first | exact gO | exact fF | exact gH | exact iJ | exact fS | exact se_IfExp | exact jZ | exact fE | exact fT | exact gP | exact dR | exact cZ | exact se_List | exact iI | exact se_JoinedStr | exact se_GeneratorExp) ?_)) :
  gW X (.Call (.Name x p) (e::es) [] pos) (NJ sp [] E0 t):=⟨aBR F hr ha.p hg hdb he hpl⟩
theorem jO(hc:lE X (.builtin id) rl)(hg:Gl X x)(hm:X.mg x=none)(hv:bootBuiltins x=some (.builtin id))(ha:GX X (e::es) t)(hn:x ≠ "__name__" := by decide)(hdb:(x == ("__debug__" : Str))=false:=by decide)
  (he:starEach (e::es) X.env=(false,eval e X.env)::starEach es X.env:=by first | exact gO | exact fF | exact gH | exact iJ | exact fS | exact se_IfExp | exact jZ | exact fE | exact fT | exact gP | exact dR | exact cZ | exact se_List | exact iI | exact se_JoinedStr | exact se_GeneratorExp) (hpl:(backTo pos (starEach es X.env)).any (·.1)=false:=by repeat (first | exact xY | refine tK (by first | exact gO | exact fF | exact gH | exact iJ | exact fS | exact se_IfExp | exact jZ | exact fE | exact fT | exact gP | exact dR | exact cZ | exact se_List | exact iI | exact se_JoinedStr | exact se_GeneratorExp) ?_)):gW X (.Call (.Name x p) (e::es) [] pos) (tCB rl t) :=
 ⟨OS hc hg hm hv ha.p hn hdb he hpl⟩
theorem kS(hc:lE X (.type T) rl)(hg:Gl X x)(hm:X.mg x=none)(hv:bootBuiltins x=some (.type T))(ha:GX X (e::es) t)(hn:x ≠ "__name__" := by decide)(hdb:(x == ("__debug__" : Str))=false:=by decide)
  (he:starEach (e::es) X.env=(false,eval e X.env)::starEach es X.env:=by first | exact gO | exact fF | exact gH | exact iJ | exact fS | exact se_IfExp | exact jZ | exact fE | exact fT | exact gP | exact dR | exact cZ | exact se_List | exact iI | exact se_JoinedStr | exact se_GeneratorExp) (hpl:(backTo pos (starEach es X.env)).any (·.1)=false:=by repeat (first | exact xY | refine tK (by first | exact gO | exact fF | exact gH | exact iJ | exact fS | exact se_IfExp | exact jZ | exact fE | exact fT | exact gP | exact dR | exact cZ | exact se_List | exact iI | exact se_JoinedStr | exact se_GeneratorExp) ?_)):gW X (.Call (.Name x p) (e::es) [] pos) (tCB rl t) :=
 ⟨KY hc hg hm hv ha.p hn hdb he hpl⟩
theorem lH{name:Str}{apos cpos:Pos}{r:V->List V->Hp->VK->Prop}(pa:PlainAttrs T)(slot:Slot T name id)(hty:typeOf (.builtin id)=pure (.type "method_descriptor"))(hm:RP X id r)(ho:gW X o to)(ha:GX X (e::es) t)
  (hbase:attributeBase o name X.env (eval o X.env)=eval o X.env:=by rfl)
  (hfew:((backTo cpos (starEach (e::es) X.env)).all (λx=>!x.1)&&(backToKw cpos (keywordEach [] X.env)).all (λx=>x.1.isSome)
   && decide ((e::es).length+([]:List Keyword).length+(if ([]:List Keyword).isEmpty then 0 else 1)<30))=true:=by rfl)
  (hline:(apos.endLine == cpos.line)=true:=by rfl) (hs:starEach (e::es) X.env=(false,eval e X.env)::starEach es X.env:=by first | exact gO | exact fF | exact gH | exact iJ | exact fS | exact se_IfExp | exact jZ | exact fE | exact fT | exact gP | exact dR | exact cZ | exact se_List | exact iI | exact se_JoinedStr | exact se_GeneratorExp) (hplain:(backTo cpos (starEach es X.env)).any (·.1)=false:=by repeat (first | exact xY | refine tK (by first | exact gO | exact fF | exact gH | exact iJ | exact fS | exact se_IfExp | exact jZ | exact fE | exact fT | exact gP | exact dR | exact cZ | exact se_List | exact iI | exact se_JoinedStr | exact se_GeneratorExp) ?_)) :
  gW X (.Call (.Attribute o name apos) (e::es) [] cpos) (tBM X.K T r to t):=⟨aBS pa slot hty hm ho.p ha.p hbase hfew hline hs hplain⟩
theorem YE{name:Str}{apos cpos:Pos}{r:V->List V->Hp->VK->Prop}(pa:PlainAttrs T)(slot:Slot T name id)(hty:typeOf (.builtin id)=pure (.type "method_descriptor"))(hm:RP X id r)(ho:gW X o to)
  (hbase:attributeBase o name X.env (eval o X.env)=eval o X.env:=by rfl) (hline:(apos.endLine == cpos.line)=true:=by rfl):gW X (.Call (.Attribute o name apos) [] [] cpos) (aBx X.K T r to):=⟨aAu pa slot hty hm ho.p hbase hline⟩
theorem iO:yO X [] WQ:=⟨pss_nil⟩
theorem aH(h1:FB X st ts)(h2:yO X sts us):yO X (st::sts) (YK ts us):=⟨OI h1.p h2.p⟩
theorem aX(h1:FB X st ts):yO X [st] ts:=⟨UA h1.p⟩
theorem iP(he:gW X e te)(hs:swapsWith e none pos.line X.env=pure false:=by rfl):FB X (.Expr e pos) (WT te):=⟨UB he.p hs⟩
theorem cB(he:gW X e te):FB X (.Return (some e) pos) (aBq te):=⟨aAg he.p⟩
theorem lT{c:Expr}{a b:List Stmt}(hc:MB X c tA)(ha:yO X a ts)(hb:yO X b us):FB X (.If c a b pos) (aBs tA ts us):=⟨aBM hc.p ha.p hb.p⟩
theorem MN(h:FB X st ts):FB X st (aBv ts):=⟨aAk h.p⟩
theorem cT{i:Nat}{x:Str}(hN:X.N.Nodup)(hi:X.N[i]?=some x)(hx:Loc X.env.scope x)(hf:X.fn x=true\/X.env.scope.names.lookup x=some .local:=by first | exact .inl rfl | exact .inr rfl | assumption):XT X (.Name x pos) (oH i):=⟨UH hN hi hx hf⟩
theorem oT:WG X [] aAQ:=⟨pgs_nil⟩
theorem fK{t:TG}{u:RA}(h1:XT X e t)(h2:WG X es u)
  (hs:(assignEach (e::es) X.env).map (·.2)=assign e X.env::(assignEach es X.env).map (·.2):=by rfl):WG X (e::es) (PZ t u):=⟨OO h1.p h2.p hs⟩
theorem rS{k:Nat}{t:RA}{n:Nat}(hc:X.calm=true)(h:WG X es t)
  (hn:(assignEach es X.env).length=n:=by rfl) (hst:(assignEach es X.env).findIdx? (·.1)=none:=by rfl):XT X (.Tuple es k pos) (aAP X.K n t):=⟨aAo hc h.p hn hst⟩
theorem YA{g:TG}(he:gW X e te)(hg:XT X tg g)(hs:swapsWithSole [tg] e pos.line X.env=pure false:=by rfl)(hw:swappedStores [tg] e X.env=pure none:=by rfl)(h1:(assignEach [tg] X.env).map (·.2)=[assign tg X.env]:=by rfl):FB X (.Assign [tg] e pos) (AH te g):=⟨aAl he.p hg.p hs hw h1⟩
theorem bJ{i:Nat}{pos':Pos}(hN:X.N.Nodup)(hi:X.N[i]?=some x)(hx:Loc X.env.scope x)(he:gW X e te)(hs:swapsWith e (some (.Name x pos')) pos.line X.env=pure false:=by rfl)(hf:X.fn x=true\/X.env.scope.names.lookup x=some .local:=by first | exact .inl rfl | exact .inr rfl | assumption) :
  FB X (.Assign [.Name x pos'] e pos) (AH te (oH i)):=⟨aAf hN hi hx he.p hs hf⟩
theorem XZ{i j:Nat}{x y:Str}{ta:TA}{px py pt:Pos}{kt k2 pt2}(hc:X.calm=true)(hN:X.N.Nodup)(hi:X.N[i]?=some x)(hj:X.N[j]?=some y)(hij:i≠j)
  (hx:X.env.scope.names.lookup x=some .local) (hy:X.env.scope.names.lookup y=some .local) (ha:GX X [a,b] ta)
  (hw:swappedStores [.Tuple [.Name x px,.Name y py] kt pt] (.Tuple [a,b] k2 pt2) X.env=pure (some [x,y]))
  (hs:swapsWithSole [.Tuple [.Name x px,.Name y py] kt pt] (.Tuple [a,b] k2 pt2) pos.line X.env=pure false:=by rfl) :
  FB X (.Assign [.Tuple [.Name x px,.Name y py] kt pt] (.Tuple [a,b] k2 pt2) pos) (aBr i j ta):=⟨aAh hc hN hi hj hij hx hy ha.p hw hs⟩
theorem sE{c:Expr}{tc:TT}{tb:TS}(hp:PassesOwn (model X.prog X.w) X.A X.env X.xe)(hc:MB X c tc)(hb:yO X body tb):FB X (.While c body [] pos) (AF (rO tc) tb):=⟨KM hp hc.p hb.p⟩
theorem eI{l:Expr}{tl:TE}(hl:gW X l tl):MJ X tg l (XH X.K tl):=⟨UG hl.p⟩
theorem MR{l:Expr}{tl:TE}(hl:gW X l tl):MJ X tg l (aB3 X.K tl):=⟨aAn hl.p⟩
theorem dG{a:Expr}{ta:TA}{p pos:Pos}(hg:Gl X "range")(hm:X.mg "range" = none)(ha:GX X [a] ta)(hs:starEach [a] X.env=[(false,eval a X.env)]:=by first | exact gO | exact fF | exact gH | exact iJ | exact fS | exact se_IfExp | exact jZ | exact fE | exact fT | exact gP | exact dR | exact cZ | exact se_List | exact iI | exact se_JoinedStr | exact se_GeneratorExp):MJ X tg (.Call (.Name "range" p) [a] [] pos) (XG ta):=⟨KW hg hm ha.p hs⟩
theorem yR{a b:Expr}{ta:TA}{p pos:Pos}(hg:Gl X "range")(hm:X.mg "range" = none)(ha:GX X [a,b] ta)(hs:starEach [a,b] X.env=[(false,eval a X.env),(false,eval b X.env)]:=by rfl)(hs2:starEach [b] X.env=[(false,eval b X.env)]:=by first | exact gO | exact fF | exact gH | exact iJ | exact fS | exact se_IfExp | exact jZ | exact fE | exact fT | exact gP | exact dR | exact cZ | exact se_List | exact iI | exact se_JoinedStr | exact se_GeneratorExp) :
  MJ X tg (.Call (.Name "range" p) [a,b] [] pos) (XF ta):=⟨KU hg hm ha.p hs hs2⟩
theorem fD{iter:Expr}{wi:TI}{g:TG}{tb:TS}{pos:Pos}(hp:PassesOwn (model X.prog X.w) X.A X.env X.xe)(hc:X.calm=true)(hi:MJ X tg iter wi)(hg:XT X tg g)(hb:yO X body tb)
  (hs:∀x,foldedSetIterable iter X.env x=pure x:=by intro _;rfl):FB X (.For tg iter body [] pos) (aBt wi g tb):=⟨aAi hp hc hi.p hg.p hb.p hs⟩
end
theorem iV.okw{P:Program}{w:World}{K:PySem.W.Frag}{mg:Str->Option Value}{base:Heap}{x qual:Str}{st:Stmt}{f:Addr}{fd:FuncData}{N ps:List Str}{k:Nat}{sp:Sp}(F:iV K x qual st f fd)(S:bS N ps (aO st))(len:∀vs H Q E,sp vs H Q E->vs.length=ps.length)
  (hbody:∀(cdv:Value) (A:Around) (outer:List Env) (s:Shared) (H:Hp) (vs:List V) (Q:VK) (E:XK),jS k (A.deeper (envOfC qual (aO st) s.heap.objs.size f cdv))->sp vs H Q E ->
   ∃t,yO (EF cS P w K mg base N qual (aO st) f cdv A outer s H E).nox (kP st) t/\t { nx:=λ_ H'=>Q .non H',rt:=Q } (start N vs) H):dM P w K mg base cS (k+1) f fd ps sp :=
 F.ok S len λcdv A outer s H vs Q E hr h=>by
  obtain ⟨t,h1,h2⟩:=hbody cdv A outer s H vs Q E hr h;exact ⟨t,h1.p,h2⟩
theorem iV.oky{P:Program}{w:World}{K:PySem.W.Frag}{mg:Str->Option Value}{base:Heap}{x qual:Str}{st:Stmt}{f:Addr}{fd:FuncData}{N ps:List Str}{k:Nat}{sp:Sp}(F:iV K x qual st f fd)(S:bS N ps (aO st))
  (h:∀(vs:List V) (H:Hp) (Q:VK) (E:XK),sp vs H Q E->vs.length=ps.length/\∀(cdv:Value) (A:Around) (outer:List Env) (s:Shared),jS k (A.deeper (envOfC qual (aO st) s.heap.objs.size f cdv)) ->
   ∃t,yO (EF cS P w K mg base N qual (aO st) f cdv A outer s H E).nox (kP st) t/\t { nx:=λ_ H'=>Q .non H',rt:=Q } (start N vs) H):dM P w K mg base cS (k+1) f fd ps sp :=
 F.okw S (λvs H Q E q=>(h vs H Q E q).1) λcdv A outer s H vs Q E hr q=>(h vs H Q E q).2 cdv A outer s hr
theorem DZ(a b:Int):Int.gcd b (a % b)=Int.gcd a b:=by
 have h:=Int.gcd_add_mul_right_right b (a % b) (a/b);rw [show a % b+a/b*b=a from by have:=Int.emod_add_mul_ediv a b;rw [Int.mul_comm];exact this] at h;rw [<-h,Int.gcd_comm]
theorem IS{a:Int}(h:0<a):(Int.gcd a 0:Int)=a:=by rw [Int.gcd_zero_right];omega
section
variable{H:Hp}{x:V}{d:PyData}{Q:VK}
end
theorem aT.len{H:Hp}:∀{ds:List PyData}{vs:List V},aT H ds vs->vs.length=ds.length
 | [],_,h=>by cases (show _=[] from h);rfl
 | d::ds,_,h=>by
  unfold aT at h;obtain ⟨x,xs,rfl,_,h2⟩:=h;simp [aT.len h2]
section
variable{p:Addr}{σ:St}{t:TE}{ta:TA}{d:PyData}{ds:List PyData}
end
theorem WD{α:Type}{xs:List α}{x:Int}(h0:0<=x)(h1:x<xs.length):∃v,BV xs x=some v/\v∈xs/\xs[x.toNat]?=some v:=by
 have h:x.toNat<xs.length:=Oo;have e:=aB h;have:=dU e;rw [Int.toNat_of_nonneg h0] at this;exact ⟨_,this,List.getElem_mem h,e⟩
theorem aT.append{H:Hp}{es:List PyData}{ws:List V}(h':aT H es ws):∀{ds:List PyData}{vs:List V},aT H ds vs->aT H (ds++es) (vs++ws)
 | [],_,h=>by cases (show _=[] from h);exact h'
 | d::ds,_,h=>by
  unfold aT at h;obtain ⟨x,xs,rfl,h1,h2⟩:=h;exact aT.cons h1 (aT.append h' h2)
end L2
namespace L2
end L2
namespace L2
open PySem PySem.Spec PyProof.Rows
theorem aU.thru{l:Addr}{H0 H1 H2:Hp}(hl:H0 l=none)(s:aU H0 H1)(b:aR l H1 H2):aU H0 H2:=λc o e=>by
 have n:c≠l:=cQ e hl;exact b.at n (s _ _ e)
theorem aCa{H:Hp}{l b:Addr}{xs zs:List V}{Q:VK}(h1:H l=some (.lst xs))(h2:H b=some (.lst zs))(hz:xs.length+zs.length<=1000)(k:∀q H',H q=none->H' q=some (.lst (xs++zs))->aU H H'->Q (.ref q) H'):aBK (.ref l) (.ref b) H Q :=
 ⟨l,b,xs,zs,rfl,rfl,h1,h2,Nat.le_of_lt (tZ hz),λq hq=>k q _ hq bK (aU.upd hq)⟩
@[irreducible] def TV:V->List V->Hp->VK->Prop:=IJ
theorem mZ{X:Cx}:RP X "list.append" TV:=by unfold TV;exact uM
theorem yL{H:Hp}{l:Addr}{xs:List V}{y:V}{Q:VK}(h:H l=some (.lst xs))(hz:xs.length<=1000)(k:∀H',H' l=some (.lst (xs++[y]))->aR l H H'->Q .non H'):TV (.ref l) [y] H Q:=by
 unfold TV;exact ⟨l,xs,y,rfl,rfl,h,tZ hz,k _ bK aR.self⟩
theorem FF{K:PySem.W.Frag}{H:Hp}{l:Addr}{xs:List V}(h:H l=some (.lst xs)):tyV K "list" (.ref l) H:=.inl ⟨rfl,xs,fI.of h⟩
def oK(env:Env):List (Str × NameKind)->List (Str × Addr)->List (Str × Addr)
 | [],cs=>cs
 | (n,k)::r,cs=>if k == .free then oK env r ((n,(env.cells.lookup n).getD 0)::cs) else oK env r cs
theorem JE(env:Env):∀(l:List (Str × NameKind)) (cs:List (Str × Addr)),(∀y∈l,y.2=.free->∃c,env.cells.lookup y.1=some c) ->
  (forIn l cs λ(x:Str × NameKind) r=>if x.2 == .free then (do let c <-cellOf env x.1;pure (ForInStep.yield ((x.1,c)::r)):Sem _) else pure (ForInStep.yield r))=pure (oK env l cs)
 | [],cs,_=>rfl
 | (n,k)::r,cs,h=>by
  rw [List.forIn_cons];have ih:=λcs=>JE env r cs λy hy=>h y (aS _ hy);by_cases hk:(k == NameKind.free)=true
  ·obtain ⟨c,hc⟩:=h (n,k) aW (by simpa using hk);dsimp only at hc;simp only [hk,if_true,oK,hc,Option.getD_some,cellOf,pure_bind];exact ih _
  ·simp only [hk,oK,pure_bind];exact ih _
theorem kQ{env:Env}{scope:Scope}(h:∀y∈scope.names,y.2=.free->∃c,env.cells.lookup y.1=some c):closureFor scope env=pure (oK env scope.names []):=by
 have e:=JE env scope.names [] h;unfold closureFor;simp only [bind_pure];exact e
theorem uT{env:Env}:∀(l:List (Str × NameKind)) (cs:List (Str × Addr)),(∀y∈l,y.2=.free->∃c,env.cells.lookup y.1=some c)->∀p∈oK env l cs,p∈cs\/env.cells.lookup p.1=some p.2
 | [],cs,_,p,hp=>.inl hp
 | (n,k)::r,cs,h,p,hp=>by
  have h':∀y∈r,y.2=.free->∃c,env.cells.lookup y.1=some c:=λy hy=>h y (aS _ hy);unfold oK at hp;by_cases hk:(k == NameKind.free)=true
  ·rw [if_pos hk] at hp;obtain ⟨c,hc⟩:=h (n,k) aW (by simpa using hk);rcases uT r _ h' p hp with hm | hm
   ·rcases bF.mp hm with rfl | hm
    ·exact .inr (by dsimp only at hc ⊢;rw [hc];rfl)
    ·exact .inl hm
   ·exact .inr hm
  ·rw [if_neg hk] at hp;exact uT r cs h' p hp
theorem uV{env:Env}:∀(l:List (Str × NameKind)) (cs:List (Str × Addr)),∀p∈cs,p∈oK env l cs
 | [],_,_,hp=>hp
 | (n,k)::r,cs,p,hp=>by
  unfold oK;by_cases hk:(k == NameKind.free)=true
  ·rw [if_pos hk];exact uV r _ p (aS _ hp)
  ·rw [if_neg hk];exact uV r _ p hp
theorem uU{env:Env}:∀(l:List (Str × NameKind)) (cs:List (Str × Addr)) (y:Str),(y,NameKind.free)∈l->∃a,(y,a)∈oK env l cs
 | (n,k)::r,cs,y,hy=>by
  unfold oK;rcases bF.mp hy with e | hm
  ·cases e;rw [if_pos (by rfl)];exact ⟨_,uV r _ _ aW⟩
  ·by_cases hk:(k == NameKind.free)=true
   ·rw [if_pos hk];exact uU r _ y hm
   ·rw [if_neg hk];exact uU r _ y hm
theorem pC{α β:Type}[BEq α][LawfulBEq α]{x:α}{c:β}:∀{l:List (α × β)},l.lookup x=some c->(x,c)∈l
 | [],h=>by cases h
 | (a,b)::r,h=>by
  rw [List.lookup_cons] at h;by_cases e:(x == a)=true
  ·rw [e] at h;have:x=a:=by simpa using e
   subst this;cases h;exact aW
  ·have e':(x == a)=false:=by simpa using e
   rw [e'] at h;exact aS _ (pC h)
theorem pB{α β:Type}[BEq α][LawfulBEq α]{x:α}{c:β}:∀{l:List (α × β)},(x,c)∈l->∃c',l.lookup x=some c'
 | (a,b)::r,h=>by
  rw [List.lookup_cons];by_cases e:(x == a)=true
  ·rw [e];exact ⟨_,rfl⟩
  ·have e':(x == a)=false:=by simpa using e
   rw [e'];rcases bF.mp h with q | q
   ·cases q;simp at e
   ·exact pB q
def GQ(X:Cx)(scope:Scope):List (Str × Addr):=oK X.env scope.names []
theorem iM{X:Cx}{scope:Scope}(h:∀y∈scope.names,y.2=.free->∃c,X.env.cells.lookup y.1=some c){x:Str}{c:Addr}(e:(GQ X scope).lookup x=some c):X.env.cells.lookup x=some c:=by
 rcases uT scope.names [] h _ (pC e) with hm | hm
 ·cases hm
 ·exact hm
theorem oM{X:Cx}{scope:Scope}(h:∀y∈scope.names,y.2=.free->∃c,X.env.cells.lookup y.1=some c){x:Str}(hx:(x,NameKind.free)∈scope.names){c:Addr}(e:X.env.cells.lookup x=some c):(GQ X scope).lookup x=some c:=by
 obtain ⟨a,ha⟩:=uU (env:=X.env) scope.names [] x hx;obtain ⟨c',hc'⟩:=pB ha;have:=iM h hc';rw [e] at this;cases this;exact hc'
def lI(X:Cx)(scope:Scope)(C:Addr)(fp:List Addr)(s₀:Shared)(H₀:Hp)(N':List Str):Cx where
 prog:=X.prog
 w:=X.w
 K:=X.K
 mg:=X.mg
 base:=X.base
 A:=X.A
 N:=N'
 s₀:=s₀
 H₀:=H₀
 env:=compEnvC scope (GQ X scope) C X.env
 outer:=X.stack
 stack:=X.stack
 ex:=fp
 fn:=λ_=>false
 calm:=true
 pn:=[]
 xe:=λ_ _=>False
def slots(σ:St)(js:List Nat):St:=js.map λj=>(σ[j]?).getD none
def MI(X:Cx)(ifs:List Expr)(t:TT):Prop :=
 ∀(pins:List (Addr × Obj)) (s:Shared) (σ:St) (H:Hp) (Q:Bool->Hp->Prop),cJ X pins σ H s->t σ H Q ->
  wpAny (model X.prog X.w) X.A (forIn ifs true λc r=>if r=true then do let ok <-isTrue c X.env (eval c X.env);pure (ForInStep.yield ok) else pure (ForInStep.yield r)) (TP X pins σ Q) X.xe s
def yG:TT:=λ_ H Q=>Q true H
theorem pts_nil{X:Cx}:MI X [] yG:=λpins s σ H Q I h=>wpAny_tests_nil ⟨H,I,h⟩
theorem TY{X:Cx}{c:Expr}{t:TT}(h:PT X c t):MI X [c] t:=λpins s σ H Q I q=>wpAny_tests_one (h pins s σ H Q I q)
def WW(wi:TI)(js:List Nat)(tc:TT)(te:TE):TE:=λσ H Q=>wi σ H λJ H1=>∀D,H1 D=none->∃W:Nat->Nat->List V->Hp->Prop,(∃m,W 0 m [] (upd H1 D (.lst []))) /\
 ∀i m ys H2,W i m ys H2->H2 D=some (.lst ys)/\((J.stop i H2/\Q (.ref D) H2)\/(J.go i H2/\ys.length<sizeLine/\∀x H3,J.yld i H2 x H3 ->
  tc (some x::slots σ js) H3 λb H4=>if b=true then te (some x::slots σ js) H4 λy H5=>H5 D=some (.lst ys)/\∃m',m' < m/\W (i+1) m' (ys++[y]) (upd H5 D (.lst (ys++[y])))
   else H4 D=some (.lst ys)/\∃m',m' < m/\W (i+1) m' ys H4))
structure dJ(X:Cx)(scope:Scope)(x:Str)(N':List Str)(js:List Nat):Prop where
 calm:X.calm=true
 free:∀y∈scope.names,y.2=.free->X.env.kindOf y.1=some .cell
 cell:∀y∈scope.names,y.2 ≠ .cell
 kind:scope.kind=.function
 names:∀y∈scope.names,y.2=.local->scope.names.lookup y.1=some .local
 own:scope.names.lookup x=some .local
 nofl:∀y,(y,NameKind.free)∈scope.names->scope.names.lookup y=some .local->False
 len:N'.length=js.length+1
 zero:N'[0]?=some x
 nd:N'.Nodup
 slot:∀(i:Nat) (j:Nat),js[i]?=some j->∃y,N'[i+1]?=some y/\X.N[j]?=some y/\(y,NameKind.free)∈scope.names
section
variable{X:Cx}{pins:List (Addr × Obj)}{σ:St}{H:Hp}{s:Shared}{scope:Scope}{x:Str}{N':List Str}{js:List Nat}{fp:List Addr}
theorem dJ.cells(S:dJ X scope x N' js)(ok:X.Ok):∀y∈scope.names,y.2=.free->∃c,X.env.cells.lookup y.1=some c:=λy hy hf=>ok.has _ (.inl (S.free y hy hf))
theorem jD{env:Env}:∀{names:List (Str × NameKind)}{y:Str}{k:NameKind},(names.map λ(n,k)=>if (k == NameKind.free&&env.scope.kind == .function&&env.kindOf n == some .cell) then (n,NameKind.cell) else (n,k)).lookup y=some k ->
  (k=.cell\/k=.free)->(∀z∈names,z.2 ≠ .cell)->(y,NameKind.free)∈names
 | [],_,_,h,_,_=>by cases h
 | (n,q)::r,y,k,h,hk,hc=>by
  rw [bL,List.lookup_cons] at h;have ih:=λh=>@jD env r y k h hk λz hz=>hc z (aS _ hz);by_cases hq:(q == NameKind.free&&env.scope.kind == .function&&env.kindOf n == some .cell)=true
  ·dsimp only at h;rw [if_pos hq] at h;have qf:q=.free:=by
    rw [dL,dL] at hq;simpa using hq.1.1
   subst qf;by_cases e:(y == n)=true
   ·have:y=n:=by simpa using e
    subst this;exact aW
   ·have e':(y == n)=false:=by simpa using e
    dsimp only at h;rw [e'] at h;exact aS _ (ih h)
  ·dsimp only at h;rw [if_neg hq] at h;by_cases e:(y == n)=true
   ·have:y=n:=by simpa using e
    subst this;dsimp only at h;rw [e] at h;have hkq:k=q:=by injection h with h;exact h.symm
    subst hkq;rcases hk with rfl | rfl
    ·exact absurd rfl (hc _ aW)
    ·exact aW
   ·have e':(y == n)=false:=by simpa using e
    dsimp only at h;rw [e'] at h;exact aS _ (ih h)
theorem aAW(S:dJ X scope x N' js)(I:cJ X pins σ H s)(hf:∀b∈fp,lG X pins H b)(hb:∀b∈fp,b<s.heap.objs.size):(lI X scope s.heap.objs.size fp s H N').Ok where
 mod:=I.ok.mod
 kind:=S.kind
 glob:=I.ok.glob
 blt:=I.ok.blt
 above:=aL _
 inj:=λy z c h1 h2=>I.ok.inj y z c (iM (S.cells I.ok) h1) (iM (S.cells I.ok) h2)
 has:=λy hy=>by
  have hm:(y,NameKind.free)∈scope.names:=by
   rcases hy with hy | hy
   ·exact jD (env:=X.env) hy (.inl rfl) S.cell
   ·exact jD (env:=X.env) hy (.inr rfl) S.cell
  obtain ⟨c,hc⟩:=S.cells I.ok _ hm rfl;exact ⟨c,oM (S.cells I.ok) hm hc⟩
 cab:=λ_ _ h=>by cases h
 hd:=λ_=>I.ok.hd S.calm
 frames:=I.ok.frames
 stk:=.inl rfl
 exf:=λb hb'=>⟨λe=>by have:=hb b hb';rw [e] at this;exact bY _ this,λy c h=>(hf b hb').2.2.2.2.1 y c (iM (S.cells I.ok) h)⟩
 bs:=I.bs
 bsz:=aK I.ok.bsz I.sz
 noex:=λb o e hb'=>by
  rcases (hf b hb').2.2.2.1 with h | h
  ·exact I.ok.noex b o e h
  ·exact absurd (aV (aZ e) (aK I.ok.bsz h)) (bY _)
 exfs:=λb hb' hs=>by
  have h2:=I.stkSub b hs;rcases bF.mp h2 with h2 | h2
  ·exact (hf b hb').2.1 h2
  ·exact (hf b hb').2.2.1 h2
 funs:=I.stack
 frf:=I.stkFree
theorem zI{i j:Nat}(h:js[i]?=some j):(slots σ js)[i]?=some ((σ[j]?).getD none):=by
 unfold slots;rw [aN,h];rfl
theorem VI{h':Heap}{tk:Nat}(S:dJ X scope x N' js)(I:cJ X pins σ H s)(hf:∀b∈fp,lG X pins H b)(hb:∀b∈fp,b<s.heap.objs.size)
  (hn:h'.Ns s.heap.objs.size (λ_=>none)) (hk:∀b o,s.heap.get? b=some o->h'.get? b=some o):cJ (lI X scope s.heap.objs.size fp s H N') [] (none::slots σ js) H { s with heap:=h',toks:=tk } where
 ok:=aAW S I hf hb
 os:=rfl
 bare:=I.bare
 base:=Un.kept hk
 loc:=by
  refine ⟨_,hn,λi y v hi hv hvis=>?_⟩;cases i with
  | zero=>cases hv
  | succ i =>
   have hv':(slots σ js)[i]?=some (some v):=hv;have hlt:i<js.length:=by
    have:=(aI.mp hv').1;unfold slots at this
    rwa [aA] at this
   have hj:js[i]?=some js[i]:=aB hlt;obtain ⟨z,h1,h2,h3⟩:=S.slot i _ hj;have hzy:z=y:=by
    have:N'[i+1]?=some y:=hi;rw [h1] at this;cases this;rfl
   subst hzy;rw [zI hj] at hv';have hσ:σ[js[i]]?=some (some v):=by
    cases q:σ[js[i]]? with
    | none=>rw [q] at hv';cases hv'
    | some o=>rw [q] at hv';cases hv';rfl
   have hkc:X.env.kindOf z=some .cell:=S.free _ h3 rfl;obtain ⟨m,hm,hl⟩:=I.loc;obtain ⟨u,ru,lk⟩:=hl _ z v h2 hσ (.inr (.inl hkc));rcases lk with ⟨hk1,_⟩ | ⟨_,c,hc,hcell⟩
   ·rw [hkc] at hk1;cases hk1
   ·refine ⟨u,ru,.inr ⟨?_,c,oM (S.cells I.ok) h3 hc,?_⟩⟩
    ·rcases hvis with hvis | hvis | hvis
     ·exfalso;have hcl:=oM (S.cells I.ok) h3 hc;have hm2:=pC (l:=(relabel scope X.env).names) hvis;unfold relabel at hm2;obtain ⟨⟨n,k⟩,hmem,he⟩:=aQ.mp hm2;dsimp only at he;by_cases hq:(k == NameKind.free&&X.env.scope.kind == .function&&X.env.kindOf n == some .cell)=true
      ·rw [if_pos hq] at he;cases he
      ·rw [if_neg hq] at he;cases he;have:=S.names _ hmem rfl;have l2:=pB h3;obtain ⟨c',l2⟩:=l2;dsimp only at this;rw [this] at l2;have key:(relabel scope X.env).names.lookup z=some .local:=lookup_relabel_local this;have hck:scope.names.lookup z=some .local:=this;exact S.nofl z h3 hck
     ·exact .inl hvis
     ·exact .inr hvis
    ·obtain ⟨o,e,r⟩:=hcell;exact ⟨o,hk _ _ e,r⟩
 cell:=λy c h=>by
  obtain ⟨v,o,e,r⟩:=I.cell y c (iM (S.cells I.ok) h);exact ⟨v,o,hk _ _ e,r⟩
 free:=I.hok.fresh (aL _)
 freeC:=λy c h=>I.freeC y c (iM (S.cells I.ok) h)
 pin:=λp hp=>by cases hp
 hok:=I.hok.kept hk
 len:=by
  show (slots σ js).length+1=N'.length;unfold slots;rw [aA,S.len]
theorem pO.but{P:Program}{w:World}{H:Hp}{h h':Heap}{C:Addr}(x:pO P w H h)(hC:H C=none)(k:∀b u,b≠C->h.get? b=some u->h'.get? b=some u):pO P w H h':=λa o e =>
 (x a o e).stay (λb u hb q=>k b u (by
  rcases hb with rfl | hb
  ·exact cQ e hC
  ·exact cQ hb hC) q) (λ_ q=>q) λ_ _ q=>q
theorem EG{H2:Hp}{σ':St}{s2:Shared}{h'':Heap}(S:dJ X scope x N' js)(I:cJ X pins σ H s)(hf:∀b∈fp,lG X pins H b)
  (J:cJ (lI X scope s.heap.objs.size fp s H N') [] σ' H2 s2) (hs:Heap.SameBut s.heap.objs.size s2.heap h''):cJ X pins σ H2 { s2 with heap:=h'' }:=by
 have hC:H2 s.heap.objs.size=none:=J.free;have ne:∀{b:Addr} {o:Obj},s.heap.get? b=some o->b≠s.heap.objs.size:=λe q=>by
  have:=aZ e;rw [q] at this;exact bY _ this
 refine I.call' (s':={ s2 with heap:=h'' }) (ch:=fp) (by rw [show ({ s2 with heap:=h'' }:Shared).os=s2.os from rfl];exact J.os) ?_ (J.hok.but hC λb u hb q=>hs.extBut b u hb q) J.bare λb hb=>⟨(hf b hb).2.2.2.1,(hf b hb).2.1,(hf b hb).2.2.2.2.1,(hf b hb).2.2.2.2.2⟩;have U:=J.base;exact {
  keep:=λb o e n h1 h2=>hs.extBut b o (ne e) (U.keep b o e n h1 h2)
  slot:=λb o e n h1 h2=>by
   obtain ⟨sl,q⟩:=U.slot b o e n h1 h2;exact ⟨sl,hs.extBut b _ (ne e) q⟩
  free:=U.free
  there:=λb o e h2=>by
   obtain ⟨o',q⟩:=U.there b o e h2;exact ⟨o',hs.extBut b _ (ne e) q⟩
  tups:=U.tups
  frzs:=U.frzs
  tbls:=U.tbls }
end
abbrev RN:Value->Shared->Prop:=λ_ _=>False
theorem tJ{prog:Program}{w:World}{A:Around}{R:Result->Shared->Prop}{s:Shared}{elt target iter:Expr}{ifs:List Expr}{scope:Scope}{pos:Pos}{it acc:Value}{env:Env}(I:Nat->Shared->Prop)
  (turn:∀n s,I n s->wpAny (model prog w) A (pyNext it) (λr s₁=>match r with
   | none=>R (.ok .next) s₁
   | some v=>wpAny (model prog w) A (letOwnedTupleGo target it v) (λ_ s₁'=>wpAny (model prog w) A (assign target env v) (λ_ s₂ =>
     wpAny (model prog w) A (forIn ifs true λc r=>if r=true then do let ok <-isTrue c env (eval c env);pure (ForInStep.yield ok) else pure (ForInStep.yield r)) (λok s₃ =>
      if ok=true then wpAny (model prog w) A (eval elt env) (λx s₄=>wpAny (model prog w) A (call (.builtin "list.append") [acc,x]) (λ_ s₅=>∃m,m<n/\I m s₅) RN s₄) RN s₃
      else ∃m,m<n/\I m s₃) RN s₂) RN s₁') RN s₁) RN s)
  (n:Nat) (h:I n s):codeAny (model prog w) A (.compLoop (.ListComp elt [⟨target,iter,ifs,0⟩] scope pos) 0 it acc env) R s:=by
 refine codeAny_loop rfl I (λn s hI=>?_) n h;show wpAny _ A ((compTurn (.ListComp elt [⟨target,iter,ifs,0⟩] scope pos) 0 it acc env).onRaise (λx=>do noteFrame x env;theTreesLotGoes x)) _ _ s;refine wpAny_noted ?_;rw [compTurn_list];refine wpAny_bind (wpAny_standAt (wpAny_bind (wpAny_mono (turn n s hI) (λr s₁ h₁=>?_) λ_ _ h'=>h'.elim)));cases r with
 | none=>exact wpAny_pure h₁
 | some v =>
  refine wpAny_bind (wpAny_mono h₁ (λ_ s₁' h₁'=>?_) λ_ _ h'=>h'.elim);refine wpAny_bind (wpAny_mono h₁' (λ_ s₂ h₂=>wpAny_bind (wpAny_mono h₂ (λok s₃ h₃=>?_) λ_ _ h'=>h'.elim)) λ_ _ h'=>h'.elim);cases ok with
  | false=>exact wpAny_pure ⟨rfl,h₃⟩
  | true =>
   exact wpAny_bind (wpAny_bind (wpAny_mono h₃ (λx s₄ h₄=>wpAny_bind (wpAny_mono h₄ (λ_ s₅ h₅=>wpAny_pure (wpAny_pure ⟨rfl,h₅⟩)) λ_ _ h'=>h'.elim)) λ_ _ h'=>h'.elim))
section
variable{X:Cx}{pins:List (Addr × Obj)}{σ:St}{H:Hp}{s:Shared}{scope:Scope}{x:Str}{N':List Str}{js:List Nat}{fp:List Addr}{elt iter:Expr}{px pos:Pos}{ifs:List Expr}{tc:TT}{te:TE}
theorem xV{J:It}{it:Addr}{tn:Nat->Heap->Prop}{RR:Value->Addr->Result->Shared->Prop}{E:Value->Shared->Prop}{Q:VK}
  (S:dJ X scope x N' js) (I:cJ X pins σ H s) (T:EU X.prog X.w X.K (.Name x px) J fp it tn) (h0:tn 0 s.heap) (hf:∀b∈fp,lG X pins H b)
  (ht:∀C fp s₀ H₀,MI (lI X scope C fp s₀ H₀ N') ifs tc) (he:∀C fp s₀ H₀,PE (lI X scope C fp s₀ H₀ N') elt te)
  (R:∀D,H D=none->∃W:Nat->Nat->List V->Hp->Prop,(∃m,W 0 m [] (upd H D (.lst []))) /\
   ∀i m ys H2,W i m ys H2->H2 D=some (.lst ys)/\((J.stop i H2/\Q (.ref D) H2)\/(J.go i H2/\ys.length<sizeLine/\∀x H3,J.yld i H2 x H3 ->
    tc (some x::slots σ js) H3 λb H4=>if b=true then te (some x::slots σ js) H4 λy H5=>H5 D=some (.lst ys)/\∃m',m' < m/\W (i+1) m' (ys++[y]) (upd H5 D (.lst (ys++[y])))
     else H4 D=some (.lst ys)/\∃m',m' < m/\W (i+1) m' ys H4)))
  (hRR:∀(D:Addr) (H3:Hp) (s3:Shared) (σ':St) (H':Hp) (s':Shared),cJ X pins σ H3 s3->(∀b∈fp,lG X pins H3 b)->cJ (lI X scope s3.heap.objs.size fp s3 H3 N') [] σ' H' s'->Q (.ref D) H'->RR (.ref D) s3.heap.objs.size (.ok .next) s') :
  wpAny (model X.prog X.w) X.A (newList []) (λacc s₃=>wpAny (model X.prog X.w) X.A (newFunctionEnv scope X.env.globals (GQ X scope) [] X.env.qual none .none (some X.env)) (λcenv s₄ =>
   codeAny (model X.prog X.w) X.A (.compStart (.ListComp elt [⟨.Name x px,iter,ifs,0⟩] scope pos) 0 (.ref it) acc { cenv with scope:=relabel scope X.env }) (RR acc cenv.locals) s₄) E s₃) E s:=by
 have hb:∀b∈fp,b<s.heap.objs.size:=λb hb=>by
  obtain ⟨o,e,_⟩:=T.obj 0 _ h0 b hb;exact aZ e
 refine wpAny_newObj_type (wpAny_newFunctionEnv S.cell (by intro y hy;simp at hy) (λh₁ hns₁ hsb₁=>?_) S.kind);have hDn:H s.heap.objs.size=none:=I.hok.fresh (aL _);obtain ⟨W,⟨m0,hw0⟩,hW⟩:=R _ hDn;have I3:cJ X pins σ (upd H s.heap.objs.size (.lst [])) { s with heap:=s.heap.push { cls:=.type "list",dict:=none,data:=.seq ([]:List Value).toArray } }:=I.lnew (its:=[]) (ys:=[]) (t':=s.toks) .nil (cG _);have hf3:∀b∈fp,lG X pins (upd H s.heap.objs.size (.lst [])) b:=λb hb' =>
  ⟨by rw [dB (λe=>by have:=hb b hb';rw [e] at this;exact bY _ this)];exact (hf b hb').1,(hf b hb').2⟩
 have hb3:∀b∈fp,b<(s.heap.push { cls:=.type "list",dict:=none,data:=.seq ([]:List Value).toArray }).objs.size:=λb hb'=>by
  rw [gU];exact Nat.lt_succ_of_lt (hb b hb')
 have hkeep:∀b o,(s.heap.push { cls:=.type "list",dict:=none,data:=.seq ([]:List Value).toArray }).get? b=some o->h₁.get? b=some o:=λb o e =>
  hsb₁.extBut b o (λq=>by have:=aZ e;rw [q] at this;exact bY _ this) (aE _ e)
 have J4:=VI (h':=h₁) (tk:=s.toks+([]:List (Str × Value)).length) S I3 hf3 hb3 hns₁ hkeep;have t4:tn 0 h₁:=T.keep 0 _ _ h0 λb hb' o e=>hkeep b o (aE _ e);have loop:codeAny (model X.prog X.w) X.A (.compLoop (.ListComp elt [⟨.Name x px,iter,ifs,0⟩] scope pos) 0 (.ref it) (.ref s.heap.objs.size) (compEnvC scope (GQ X scope) (s.heap.push { cls:=.type "list",dict:=none,data:=.seq ([]:List Value).toArray }).objs.size X.env))
   (RR (.ref s.heap.objs.size) (s.heap.push { cls:=.type "list",dict:=none,data:=.seq ([]:List Value).toArray }).objs.size) { s with heap:=h₁,toks:=s.toks+([]:List (Str × Value)).length }:=by
  refine tJ (λn s'=>∃(i:Nat) (ys:List V) (H2:Hp) (o:Option V),cJ (lI X scope _ fp _ _ N') [] (o::slots σ js) H2 s'/\tn i s'.heap/\(∀b∈fp,H2 b=none)/\W i n ys H2) ?_ m0 ⟨0,[],_,none,J4,t4,λb hb'=>(hf3 b hb').1,hw0⟩;rintro n s' ⟨i,ys,H2,o,J2,t2,f2,w2⟩;obtain ⟨hD,hcase⟩:=hW i n ys H2 w2;have Fp:∀b∈fp,lG (lI X scope (s.heap.push { cls:=.type "list",dict:=none,data:=.seq ([]:List Value).toArray }).objs.size fp { s with heap:=s.heap.push { cls:=.type "list",dict:=none,data:=.seq ([]:List Value).toArray } } (upd H s.heap.objs.size (.lst [])) N') [] H2 b:=λb hb' =>
   ⟨f2 b hb',(J2.ok.exf b hb').1,J2.ok.exfs b hb',.inl hb',(J2.ok.exf b hb').2,λp hp=>by cases hp⟩
  rcases hcase with ⟨hstop,hq⟩ | ⟨hgo,hz,hturn⟩
  ·refine wpAny_mono (T.done (lI X scope _ fp _ _ N') rfl rfl rfl rfl i [] s' _ H2 RN J2 Fp t2 hstop) (λr s1 ⟨hr,J5⟩=>?_) λ_ _ f=>f;subst hr;exact hRR _ _ _ _ _ _ I3 hf3 J5 hq
  ·refine wpAny_mono (T.item (lI X scope _ fp _ _ N') rfl rfl rfl rfl i [] s' _ H2 RN J2 Fp t2 hgo) (λr s1 ⟨u,hr,hx⟩=>?_) λ_ _ f=>f;subst hr;refine wpAny_mono hx (λ_ s2 ⟨v,H3,J3,rv,hy,t3,f3⟩=>?_) λ_ _ f=>f;have Fp3:∀b∈fp,lG (lI X scope (s.heap.push { cls:=.type "list",dict:=none,data:=.seq ([]:List Value).toArray }).objs.size fp { s with heap:=s.heap.push { cls:=.type "list",dict:=none,data:=.seq ([]:List Value).toArray } } (upd H s.heap.objs.size (.lst [])) N') [] H3 b:=λb hb' =>
    ⟨f3 b hb',(J3.ok.exf b hb').1,J3.ok.exfs b hb',.inl hb',(J3.ok.exf b hb').2,λp hp=>by cases hp⟩
   have P3:=J3.pinned Fp3 (T.obj (i+1) _ t3);have keepT:∀{σ':St} {Hx:Hp} {sx:Shared},cJ (lI X scope (s.heap.push { cls:=.type "list",dict:=none,data:=.seq ([]:List Value).toArray }).objs.size fp { s with heap:=s.heap.push { cls:=.type "list",dict:=none,data:=.seq ([]:List Value).toArray } } (upd H s.heap.objs.size (.lst [])) N') ([]++uI fp s2.heap) σ' Hx sx->tn (i+1) sx.heap/\∀b∈fp,Hx b=none:=λJx =>
    ⟨T.keep (i+1) _ _ t3 λb hb' ob e=>(Jx.pin (b,ob) (bI _ (bI _ (kL hb' e)))).1,λb hb'=>by
     obtain ⟨ob,e,_⟩:=T.obj (i+1) _ t3 b hb';exact (Jx.pin (b,ob) (bI _ (bI _ (kL hb' e)))).2.1⟩
   refine wpAny_assign_Name (pV P3 (i:=0) (x:=x) (v:=v) ?nd ?hi ?hx rv (λs5 J5=>?_) ?hfn)
   case nd=>exact S.nd
   case hi=>exact S.zero
   case hx=>exact .inl (lookup_relabel_local S.own)
   case hfn=>exact .inr (lookup_relabel_local S.own)
   have J5':cJ _ _ (some v::slots σ js) H3 s5:=J5;refine wpAny_mono (ht _ _ _ _ _ _ _ _ _ J5' (hturn v H3 hy)) (λok s6 ⟨H6,J6,q6⟩=>?_) λ_ _ f=>f;dsimp only at q6;by_cases hok:ok=true
   ·rw [if_pos hok] at q6 ⊢;refine wpAny_mono (he _ _ _ _ _ _ _ _ _ J6 q6) (λy s7 ⟨w',H7,J7,r7,hD7,m',hm',w7⟩=>?_) λ_ _ f=>f;refine wpAny_mono (uM (X:=lI X scope _ fp _ _ N') _ _ _ _ (.ref s.heap.objs.size) [w'] (.ref s.heap.objs.size) [y] (λ_ H8=>H8=upd H7 s.heap.objs.size (.lst (ys++[w']))) J7 rfl (.cons r7 .nil) ⟨_,_,_,rfl,rfl,hD7,hz,rfl⟩) (λ_ s8 ⟨_,H8,J8,_,e8⟩=>?_) λ_ _ f=>f;subst e8;obtain ⟨k1,k2⟩:=keepT J8;exact ⟨m',hm',i+1,ys++[w'],_,some v,J8.unpinned,k1,k2,w7⟩
   ·rw [if_neg hok] at q6 ⊢;obtain ⟨_,m',hm',w7⟩:=q6;obtain ⟨k1,k2⟩:=keepT J6;exact ⟨m',hm',i+1,ys,_,some v,J6.unpinned,k1,k2,w7⟩
 refine codeAny_compStart_list loop (T.self X.A 0 _ _ _ t4 loop)
theorem UM{wi:TI}(S:dJ X scope x N' js)(hi:PI X (.Name x px) iter wi)(ht:∀C fp s₀ H₀,MI (lI X scope C fp s₀ H₀ N') ifs tc)(he:∀C fp s₀ H₀,PE (lI X scope C fp s₀ H₀ N') elt te)
  (hs:∀x,foldedSetIterable iter X.env x=pure x:=by intro _;rfl):PE X (.ListComp elt [⟨.Name x px,iter,ifs,0⟩] scope pos) (WW wi js tc te):=by
 intro pins s σ H Q I h;rw [eval_ListComp];refine wpAny_comprehension_free (use:=none) rfl hs (kQ (S.cells I.ok)) S.kind S.names (wpAny_mono (hi pins s σ H _ I h) (λv s1 h1=>?_) λ_ _ e=>e);refine wpAny_mono h1 (λitv s2 ⟨it,fp,tn,J,H2,e,I2,T,t0,hf,R⟩=>?_) λ_ _ e=>e;subst e;refine xV S I2 T t0 hf ht he R ?_;intro D H3 s3 σ' H' s' I3 hf3 J3 q;obtain ⟨m,hm,_⟩:=J3.loc;exact ⟨m,hm,λh' hs'=>⟨.ref D,H',EG S I3 hf3 J3 hs',rfl,q⟩⟩
theorem GB{wi:TI}{y:Str}{py spos:Pos}{i:Nat}(S:dJ X scope x N' js)(hN:X.N.Nodup)(hiN:X.N[i]?=some y)(hy:X.env.kindOf y=some .local)(hi:PI X (.Name x px) iter wi)(ht:∀C fp s₀ H₀,MI (lI X scope C fp s₀ H₀ N') ifs tc)(he:∀C fp s₀ H₀,PE (lI X scope C fp s₀ H₀ N') elt te)
  (hsw:swapsWith (.ListComp elt [⟨.Name x px,iter,ifs,0⟩] scope pos) (some (.Name y py)) spos.line X.env=pure true) (hs:∀x,foldedSetIterable iter X.env x=pure x:=by intro _;rfl) :
  PS X (.Assign [.Name y py] (.ListComp elt [⟨.Name x px,iter,ifs,0⟩] scope pos) spos) (AH (WW wi js tc te) (oH i)):=by
 intro pins s σ H D0 I h;rw [exec_Assign_Name_used _ _ _ _ hsw];refine wpAny_bind (wpAny_standAt (wpAny_bind ?_));show wpAny _ X.A (do let _ <-comprehension (.ListComp elt [⟨.Name x px,iter,ifs,0⟩] scope pos) scope X.env _ (newList []) false (eval iter X.env) (some (assign (.Name y py) X.env))) _ _ s;refine wpAny_bind (wpAny_mono (wpAny_comprehension_free (use:=some (assign (.Name y py) X.env)) (Q:=λ_ s'=>SP X pins D0 .next s') rfl hs (kQ (S.cells I.ok)) S.kind S.names (wpAny_mono (hi pins s σ H _ I h) (λv s1 h1=>?_) λ_ _ e=>e)) (λ_ s' hq=>wpAny_pure (wpAny_pure hq)) λ_ _ e=>e);refine wpAny_mono h1 (λitv s2 ⟨it,fp,tn,J,H2,e,I2,T,t0,hf,R⟩=>?_) λ_ _ e=>e;subst e;refine xV (Q:=λv H'=>oH i v σ H' D0.nx) S I2 T t0 hf ht he R ?_;intro D H3 s3 σ' H' s' I3 hf3 J3 q;obtain ⟨m,hm,_⟩:=J3.loc;have IX:cJ X pins σ H' s':=EG S I3 hf3 J3 (Heap.SameBut.refl ..);have hCL:s3.heap.objs.size≠X.env.locals:=λe=>by have:=I3.lt;rw [e] at this;exact bY _ this
 show wpAny _ X.A (assign (.Name y py) X.env (.ref D)) _ _ _;refine wpAny_assign_Name (tX IX hN hiN (.inl hy) (v:=.ref D) rfl (λs5 I5 hsb=>?_) (.inr hy));obtain ⟨a,hsb,ha⟩:=hsb;have hCa:s3.heap.objs.size≠a:=by
  rcases ha with rfl | ha
  ·exact hCL
  ·intro e;obtain ⟨v,o,eo,_⟩:=I3.cell y a ha;have:=aZ eo;rw [<-e] at this;exact bY _ this
 refine ⟨m,hm.sameBut hsb hCa,λh' hs'=>⟨_,H',?_,q⟩⟩;exact I5.turned (it:=s3.heap.objs.size) (t':=s5.toks) (λb o n e=>hs'.extBut b o n e) J3.free hCL (.inr I3.sz)
  (λz c hz e=>by
   obtain ⟨v,o,eo,_⟩:=I3.cell z c hz;have:=aZ eo;rw [e] at this;exact bY _ this)
  (λp hp e=>by
   have:=aZ (I3.pin p hp).1;rw [e] at this;exact bY _ this)
end
structure GV(X:Cx)(ifs:List Expr)(t:TT):Prop where p:MI X ifs t
def wK(t:TE):TE:=λσ H Q=>∃Q':VK,t σ H Q'/\∀v H1,Q' v H1->Q v H1
theorem PE.mono{X:Cx}{e:Expr}{t:TE}(h:PE X e t):PE X e (wK t):=λpins s σ H Q I ⟨Q',h1,h2⟩ =>
 thn (h pins s σ H Q' I h1) λb s' ⟨v,H',I',r,q⟩=>⟨v,H',I',r,h2 _ _ q⟩
theorem MI.mono{X:Cx}{es:List Expr}{t:TT}(h:MI X es t):MI X es (rO t):=λpins s σ H Q I ⟨Q',h1,h2⟩ =>
 thn (h pins s σ H Q' I h1) λb s' ⟨H',I',q⟩=>⟨H',I',h2 _ _ q⟩
@[irreducible] def oR(J:It)(σ:St)(js:List Nat)(tc:TT)(te:TE)(H1:Hp)(Q:VK):Prop:=∀D,H1 D=none->∃W:Nat->Nat->List V->Hp->Prop,(∃m,W 0 m [] (upd H1 D (.lst []))) /\
 ∀i m ys H2,W i m ys H2->H2 D=some (.lst ys)/\((J.stop i H2/\Q (.ref D) H2)\/(J.go i H2/\ys.length<sizeLine/\∀x H3,J.yld i H2 x H3 ->
  rO tc (some x::slots σ js) H3 λb H4=>if b=true then wK te (some x::slots σ js) H4 λy H5=>H5 D=some (.lst ys)/\∃m',m' < m/\W (i+1) m' (ys++[y]) (upd H5 D (.lst (ys++[y])))
   else H4 D=some (.lst ys)/\∃m',m' < m/\W (i+1) m' ys H4))
def AG(wi:TI)(js:List Nat)(tc:TT)(te:TE):TE:=λσ H Q=>wi σ H λJ H1=>oR J σ js tc te H1 Q
section
variable{X:Cx}{scope:Scope}{x y:Str}{N':List Str}{js:List Nat}{elt iter c:Expr}{px py pos spos:Pos}{ifs:List Expr}{tc:TT}{te:TE}{wi:TI}{i:Nat}
theorem cY:GV X [] yG:=⟨pts_nil⟩
theorem HF{t:TT}(h:MB X c t):GV X [c] t:=⟨TY h.p⟩
theorem fX(S:dJ X scope x N' js)(hi:MJ X (.Name x px) iter wi)(ht:∀C fp s₀ H₀,GV (lI X scope C fp s₀ H₀ N') ifs tc)(he:∀C fp s₀ H₀,gW (lI X scope C fp s₀ H₀ N') elt te)
  (hs:∀x,foldedSetIterable iter X.env x=pure x:=by intro _;rfl):gW X (.ListComp elt [⟨.Name x px,iter,ifs,0⟩] scope pos) (AG wi js tc te) :=
 ⟨by unfold AG oR;exact UM S hi.p (λC fp s₀ H₀=>(ht C fp s₀ H₀).p.mono) (λC fp s₀ H₀=>(he C fp s₀ H₀).p.mono) hs⟩
theorem iB(S:dJ X scope x N' js)(hN:X.N.Nodup)(hiN:X.N[i]?=some y)(hy:X.env.kindOf y=some .local)(hi:MJ X (.Name x px) iter wi)(ht:∀C fp s₀ H₀,GV (lI X scope C fp s₀ H₀ N') ifs tc)(he:∀C fp s₀ H₀,gW (lI X scope C fp s₀ H₀ N') elt te)
  (hsw:swapsWith (.ListComp elt [⟨.Name x px,iter,ifs,0⟩] scope pos) (some (.Name y py)) spos.line X.env=pure true:=by rfl) (hs:∀x,foldedSetIterable iter X.env x=pure x:=by intro _;rfl) :
  FB X (.Assign [.Name y py] (.ListComp elt [⟨.Name x px,iter,ifs,0⟩] scope pos) spos) (AH (AG wi js tc te) (oH i)) :=
 ⟨by unfold AG oR;exact GB S hN hiN hy hi.p (λC fp s₀ H₀=>(ht C fp s₀ H₀).p.mono) (λC fp s₀ H₀=>(he C fp s₀ H₀).p.mono) hsw hs⟩
end
def XM(psc scope:Scope)(N:List Str)(x:Str)(N':List Str)(js:List Nat):Bool :=
 (scope.names.all λy=>!(y.2 == .free) || psc.names.lookup y.1 == some .cell)&&(scope.names.all λy=>!(y.2 == .cell))&&scope.kind == .function &&
 (scope.names.all λy=>!(y.2 == .local) || scope.names.lookup y.1 == some .local)&&scope.names.lookup x == some .local &&
 (scope.names.all λy=>!(y.2 == .free) || !(scope.names.lookup y.1 == some .local))&&N'.length == js.length+1&&N'[0]? == some x&&decide N'.Nodup &&
 ((List.range js.length).all λi=>match js[i]?,N'[i+1]? with
  | some j,some y=>N[j]? == some y&&scope.names.contains (y,NameKind.free)
  | _,_=>false)
theorem dJ.of{X:Cx}{psc scope:Scope}{N:List Str}{x:Str}{N':List Str}{js:List Nat}(h:XM psc scope N x N' js=true)(hX:X.env.scope=psc)(hN:X.N=N)(hc:X.calm=true):dJ X scope x N' js:=by
 unfold XM at h;simp only [dL] at h;obtain ⟨⟨⟨⟨⟨⟨⟨⟨⟨h1,h2⟩,h3⟩,h4⟩,h5⟩,h6⟩,h7⟩,h8⟩,h9⟩,h10⟩:=h;rw [List.all_eq_true] at h1 h2 h4 h6 h10;refine ⟨hc,λy hy e=>?_,λy hy e=>?_,by simpa using h3,λy hy e=>?_,by simpa using h5,λy hy e=>?_,by simpa using h7,by simpa using h8,of_decide_eq_true h9,λi j hj=>?_⟩
 ·have:=h1 y hy;rw [e] at this;show X.env.scope.names.lookup y.1=_;rw [hX];simpa using this
 ·have:=h2 y hy;rw [e] at this;simp at this
 ·have:=h4 y hy;rw [e] at this;simpa using this
 ·have:=h6 _ hy;rw [e] at this;simp at this
 ·have hi:i<js.length:=(aI.mp hj).1;have:=h10 i (bU.mpr hi);rw [hj] at this;cases q:N'[i+1]? with
  | none=>rw [q] at this;simp at this
  | some y =>
   rw [q] at this;simp only [dL] at this;exact ⟨y,rfl,by rw [hN];simpa using this.1,List.contains_iff_mem.mp this.2⟩
section
variable{js:List Nat}{te:TE}{tc:TT}{σ:St}{H:Hp}{Q:VK}
theorem EJ{J:It}{n:Nat}(src:Nat->V->Prop)(hz:n<=100000)(Pv:Addr->Nat->List V->Hp->Prop)
  (h0:∀D H1,H D=none->H1 D=some (.lst [])->aU H H1->Pv D 0 [] H1)
  (hg:∀D i ys H',i<n->H' D=some (.lst ys)->Pv D i ys H'->J.go i H'/\∀x H3,J.yld i H' x H3->H3=H'/\src i x)
  (hst:∀D ys H',H' D=some (.lst ys)->Pv D n ys H'->J.stop n H')
  (hs:∀D i x ys H',src i x->i<n->ys.length=i->H' D=some (.lst ys)->Pv D i ys H'->te (some x::slots σ js) H' λy H5=>H5 D=some (.lst ys)/\∀H6,H6 D=some (.lst (ys++[y]))->aR D H5 H6->Pv D (i+1) (ys++[y]) H6)
  (hd:∀D ys H',ys.length=n->H D=none->H' D=some (.lst ys)->Pv D n ys H'->Q (.ref D) H') :
  oR J σ js yG te H Q:=by
 unfold oR;intro D hD;refine ⟨λi m ys H'=>m=n-i/\i<=n/\ys.length=i/\H' D=some (.lst ys)/\Pv D i ys H',⟨n,by simp,cG _,rfl,bK,h0 D _ hD bK (aU.upd hD)⟩,?_⟩;rintro i m ys H2 ⟨rfl,hi,hy,hD2,p⟩;refine ⟨hD2,?_⟩;by_cases hlt:i<n
 ·obtain ⟨g1,g2⟩:=hg D i ys H2 hlt hD2 p;refine .inr ⟨g1,bA (m:=100000) Oo Dd,λx H3 hy3=>?_⟩;obtain ⟨rfl,hx⟩:=g2 x H3 hy3;refine ⟨λb H4=>b=true/\H4=H3,⟨rfl,rfl⟩,?_⟩;rintro b H4 ⟨rfl,rfl⟩;rw [if_pos rfl];refine ⟨_,hs D i x ys H4 hx hlt hy hD2 p,?_⟩;rintro v H5 ⟨hD5,k⟩;exact ⟨hD5,n-(i+1),Oo,rfl,hlt,by rw [aP,hy];rfl,bK,k _ bK aR.self⟩
 ·have e:i=n:=Oo;subst e;exact .inl ⟨hst D ys H2 hD2 p,hd D ys H2 hy hD hD2 p⟩
end
@[irreducible] def OG(K:PySem.W.Frag):List V->Hp->VK->Prop:=λxs H Q=>∃(p:Addr) (ns:List Int),xs=[.ref p]/\fI K H p (ns.map V.int)/\Q (.int ns.sum) H
@[irreducible] def KK(b:Bool):R2:=λx y H Q=>∃d d',cA H d x/\cA H d' y/\SeqAt.shaped d=true/\SeqAt.shaped d'=true/\Q (.bl (b == PyData.eqv d d')) H
section
variable{X:Cx}
theorem QN(hc:X.calm=true):lE X (.builtin "sum") (OG X.K):=by
 unfold OG;intro pins s σ H xs us Q I r h;obtain ⟨p,ns,rfl,hq,q⟩:=h;obtain ⟨u,rfl,rx⟩:=mS r;cases rx;obtain ⟨its,r',pl,hz⟩:=I.list hq;have hi:=sC r';obtain ⟨xs',e⟩:=hi.allInts.items;rw [e] at pl;refine sum_intListG (I.ok.hd hc) pl.isList λh' tk t' hk=>⟨.int ns.sum,H,I.kept hk,⟨t',?_⟩,q⟩;rw [preSum_eq,List.take_of_length_le (by simp)];rw [<-hi.numsOf];have e2:its=(intItems xs').toList:=by rw [<-e]
 rw [e2,nums_intItems]
theorem rsI{K:PySem.W.Frag}{H:Hp}{p:Addr}{ns:List Int}{Q:VK}(h:fI K H p (ns.map V.int))(q:Q (.int ns.sum) H):OG K [.ref p] H Q:=by unfold OG;exact ⟨p,ns,rfl,h,q⟩
theorem aAz(hu:X.A.units+64<cLine):vB X (compareOp .Eq) (KK true):=by
 unfold KK;intro pins s σ H x y v u Q I rx ry h;obtain ⟨d,d',h1,h2,s1,s2,q⟩:=h;obtain ⟨as,ra⟩:=h1.reads I rx;obtain ⟨bs,rb⟩:=h2.reads I ry;exact SeqAt.compareEq_shaped ra rb s1 s2 hu ⟨.bl _,H,I,by show _=_;simp,q⟩
theorem GF(hu:X.A.units+64<cLine):vB X (compareOp .NotEq) (KK false):=by
 unfold KK;intro pins s σ H x y v u Q I rx ry h;obtain ⟨d,d',h1,h2,s1,s2,q⟩:=h;obtain ⟨as,ra⟩:=h1.reads I rx;obtain ⟨bs,rb⟩:=h2.reads I ry;exact SeqAt.compareNe_shaped ra rb s1 s2 hu ⟨.bl _,H,I,by show _=_;simp,q⟩
theorem reD{b:Bool}{x y:V}{d d':PyData}{H:Hp}{Q:VK}(h1:cA H d x)(h2:cA H d' y)(s1:SeqAt.shaped d=true)(s2:SeqAt.shaped d'=true)(q:Q (.bl (b == PyData.eqv d d')) H):KK b x y H Q:=by
 unfold KK;exact ⟨d,d',h1,h2,s1,s2,q⟩
end
mutual
theorem xS:∀d:PyData,d.hasDict=false->PyData.eqv d d=true
 | .none,_=>by simp [PyData.eqv]
 | .bool _,_=>by simp [PyData.eqv]
 | .int _,_=>by simp [PyData.eqv]
 | .str _,_=>by simp [PyData.eqv]
 | .list xs,h=>by simp only [PyData.eqv];exact qO xs (by simpa [PyData.hasDict] using h)
 | .tuple xs,h=>by simp only [PyData.eqv];exact qO xs (by simpa [PyData.hasDict] using h)
 | .dict _,h=>by simp [PyData.hasDict] at h
theorem qO:∀ds:List PyData,PyData.hasDictAll ds=false->PyData.eqvAll ds ds=true
 | [],_=>by simp [PyData.eqvAll]
 | d::ds,h=>by
  simp only [PyData.hasDictAll,Bool.or_eq_false_iff] at h;simp only [PyData.eqvAll,xS d h.1,qO ds h.2,Bool.and_self]
end
mutual
def fM:PyData->Bool
 | .list _=>false
 | .dict _=>false
 | .tuple ds=>hJ ds
 | _=>true
def hJ:List PyData->Bool
 | []=>true
 | d::ds=>fM d&&hJ ds
end
def dC(H H':Hp):Prop:=∀b xs,H b=some (.tup xs)->H' b=some (.tup xs)
theorem dC.trans{H H1 H2:Hp}(a:dC H H1)(b:dC H1 H2):dC H H2:=λc o h=>b c o (a c o h)
theorem aU.t{H H':Hp}(s:aU H H'):dC H H':=λb xs h=>s _ _ h
theorem aR.t{H H':Hp}{p:Addr}(s:aR p H H'){xs:List V}(hp:H p=some (.lst xs)):dC H H':=λb ys h=>s.at (oC h hp (by intro z;cases z)) h
mutual
theorem cA.flat{H H':Hp}(s:dC H H'):∀{d:PyData}{v:V},fM d=true->cA H d v->cA H' d v
 | .none,_,_,h=>h
 | .bool _,_,_,h=>h
 | .int _,_,_,h=>h
 | .str _,_,_,h=>h
 | .list _,_,f,_=>by simp [fM] at f
 | .dict _,_,f,_=>by simp [fM] at f
 | .tuple ds,_,f,h=>by
  unfold cA at h ⊢;obtain ⟨a,ys,rfl,h1,h2⟩:=h;exact ⟨a,ys,rfl,s _ _ h1,aT.flat s (by simpa [fM] using f) h2⟩
theorem aT.flat{H H':Hp}(s:dC H H'):∀{ds:List PyData}{vs:List V},hJ ds=true->aT H ds vs->aT H' ds vs
 | [],_,_,h=>h
 | d::ds,_,f,h=>by
  unfold aT at h ⊢;obtain ⟨x,ys,rfl,h1,h2⟩:=h;simp only [hJ,dL] at f;exact ⟨x,ys,rfl,cA.flat s f.1 h1,aT.flat s f.2 h2⟩
end
theorem aT.get{H:Hp}:∀{ds:List PyData}{vs:List V}{i:Nat}{v:V},aT H ds vs->vs[i]?=some v->∃d,ds[i]?=some d/\cA H d v
 | [],_,i,v,h,e=>by cases (show _=[] from h);simp at e
 | d::ds,_,i,v,h,e=>by
  unfold aT at h;obtain ⟨x,ys,rfl,h1,h2⟩:=h;cases i with
  | zero=>simp at e;subst e;exact ⟨d,rfl,h1⟩
  | succ i =>
   rw [List.getElem?_cons_succ] at e ⊢;exact aT.get h2 e
theorem aT.get'{H:Hp}:∀{ds:List PyData}{vs:List V}{i:Nat}{d:PyData},aT H ds vs->ds[i]?=some d->∃v,vs[i]?=some v/\cA H d v
 | [],_,i,d,h,e=>by simp at e
 | d' :: ds,_,i,d,h,e=>by
  unfold aT at h;obtain ⟨x,ys,rfl,h1,h2⟩:=h;cases i with
  | zero=>simp at e;subst e;exact ⟨x,rfl,h1⟩
  | succ i =>
   rw [List.getElem?_cons_succ] at e ⊢;exact aT.get' h2 e
theorem aT.snoc{H:Hp}{ds:List PyData}{vs:List V}{d:PyData}{v:V}(h:aT H ds vs)(r:cA H d v):aT H (ds++[d]) (vs++[v]):=aT.append (aT.cons r aT.nil) h
theorem GS{i:Int}{n:Nat}(h:i.natAbs<2^n):bits i<=n:=PySem.intBits_le_iff.mpr h
theorem oE{i j:Int}{n m:Nat}(h1:i.natAbs<2^n)(h2:j.natAbs<2^m)(hn:n<=1048576:=by decide)(hm:m<=1048576:=by decide):IntMulOk i j:=by
 refine IntMulOk.of_bits ?_ ?_
 ·exact aK (GS h1) hn
 ·exact aK (GS h2) hm
section
variable{X:Cx}(K:PySem.W.Frag)
theorem jE(h:X.K=K:=by rfl):RC X (rIx K):=by subst h;exact bO
theorem VM(hc:X.calm=true)(h:X.K=K:=by rfl):lE X (.builtin "sum") (OG K):=by subst h;exact QN hc
end
end L2
namespace L2
open PySem
def yM(b:Bool)(h:Heap)(i l:Addr)(k:Nat):Prop:=∃o,h.get? i=some o/\o.cls=.type (bif b then "tuple_iterator" else "list_iterator")/\o.data=.fields #[.ref l,.int k 0]
def nE(b:Bool)(h:Heap)(l:Addr)(xs:Array Value):Prop:=∃o,h.get? l=some o/\o.cls=.type (bif b then "tuple" else "list")/\∃n,o.data=.seq xs n
theorem yM.at{b:Bool}{h h':Heap}{i l:Addr}{k:Nat}(x:yM b h i l k)(f:∀o,h.get? i=some o->h'.get? i=some o):yM b h' i l k:=let ⟨o,ho,r⟩:=x;⟨o,f o ho,r⟩
theorem nE.at{b:Bool}{h h':Heap}{l:Addr}{xs:Array Value}(x:nE b h l xs)(f:∀o,h.get? l=some o->h'.get? l=some o):nE b h' l xs:=let ⟨o,ho,r⟩:=x;⟨o,f o ho,r⟩
section
variable{prog:Program}{w:World}{A:Around}{E:Value->Shared->Prop}{s:Shared}
theorem AY{b:Bool}{it l:Addr}{i:Nat}{items:Array Value}{x:Value}{Q:Value->Shared->Prop}(hit:yM b s.heap it l i)(hl:nE b s.heap l items)(hx:items[i]?=some x)
  (hQ:∀h',yM b h' it l (i+1)->Heap.SameBut it s.heap h'->Q x { s with heap:=h' }):wpAny (model prog w) A (Builtin.SmallTypes.nextOf (.ref it)) Q E s:=by
 cases b with
 | false=>exact wpAny_nextOf_list_item hit hl hx hQ
 | true =>
  have ty:s.heap.IsTupleIter it l i:=hit;obtain ⟨o,ho,hc,hd⟩:=id ty;obtain ⟨ol,hol,_,nl,hdl⟩:=hl;unfold Builtin.SmallTypes.nextOf;refine wpAny_bind (wpAny_callSpecial?_slot (name:=Str.ofString "__next__") ty.typeIs F.slot_tuple_iterator_next (wpAny_call_entry F.slot_tuple_iterator_next ty.typeIs F.entry_tuple_iterator_next ?_ (F.args_tuple_iterator_next_1 _)));show wpAny _ _ (field (.ref it) 0 >>= _) _ _ s;refine wpAny_bind (wpAny_field ho hd (x:=.ref l) rfl ?_);show wpAny _ _ (if (Value.ref l == Value.none)=true then _ else _) _ _ s;rw [if_neg (show ¬((Value.ref l == Value.none)=true) from bN)];show wpAny _ _ (field (.ref it) 1 >>= _) _ _ s;refine wpAny_bind (wpAny_field ho hd (x:=.int i 0) rfl ?_);show wpAny _ _ (seqItems? (.ref l) >>= _) _ _ s;refine wpAny_bind (wpAny_seqItems hol hdl ?_);simp only [Int.toNat_natCast,hx];refine wpAny_bind (wpAny_setField ho hd (by simp) (wpAny_pure ⟨x,rfl,wpAny_pure (hQ _ ?_ (Heap.SameBut.update ..))⟩));refine ⟨_,Heap.get?_update_self _ ho (Obj.isFreed_of_fields (Obj.data_mapFields hd _)),(Obj.cls_mapFields ..).trans hc,?_⟩;rw [Obj.data_mapFields hd];simp [rawInt]
theorem OV{b:Bool}{it l:Addr}{i:Nat}{items:Array Value}{Q:Value->Shared->Prop}(hh:A.handled=none)(hit:yM b s.heap it l i)(hl:nE b s.heap l items)(hx:items[i]?=none)
  (hE:∀h' e,Heap.ExtBut it s.heap h'->(∃o,h'.get? e=some o/\o.cls=.type "StopIteration")->E (.ref e) { s with heap:=h' }):wpAny (model prog w) A (Builtin.SmallTypes.nextOf (.ref it)) Q E s:=by
 cases b with
 | false=>exact wpAny_nextOf_list_end hh hit hl hx hE
 | true =>
  have ty:s.heap.IsTupleIter it l i:=hit;obtain ⟨o,ho,hc,hd⟩:=id ty;obtain ⟨ol,hol,_,nl,hdl⟩:=hl;unfold Builtin.SmallTypes.nextOf;refine wpAny_bind (wpAny_callSpecial?_slot (name:=Str.ofString "__next__") ty.typeIs F.slot_tuple_iterator_next (wpAny_call_entry F.slot_tuple_iterator_next ty.typeIs F.entry_tuple_iterator_next ?_ (F.args_tuple_iterator_next_1 _)));show wpAny _ _ (field (.ref it) 0 >>= _) _ _ s;refine wpAny_bind (wpAny_field ho hd (x:=.ref l) rfl ?_);show wpAny _ _ (if (Value.ref l == Value.none)=true then _ else _) _ _ s;rw [if_neg (show ¬((Value.ref l == Value.none)=true) from bN)];show wpAny _ _ (field (.ref it) 1 >>= _) _ _ s;refine wpAny_bind (wpAny_field ho hd (x:=.int i 0) rfl ?_);show wpAny _ _ (seqItems? (.ref l) >>= _) _ _ s;refine wpAny_bind (wpAny_seqItems hol hdl ?_);simp only [Int.toNat_natCast,hx];refine wpAny_bind (wpAny_rule (wpAny_bind (wpAny_setField ho hd (by simp) ?_)));show wpAny _ _ (newExc (.type "StopIteration") [] >>= _) _ _ _;refine wpAny_bind ?_;simp only [newExc,newTuple];refine wpAny_bind (wpAny_newObj_type ?_ (by size_fits));refine wpAny_bind (m:=firstArgMember _ _) (wpAny_of_eq (a:=Value.none) (by first | rfl | (simp only [firstArgMember];rfl)) ?_);refine wpAny_newObj_type ?_ (by size_fits);simp only [raiseNew];refine wpAny_bind (wpAny_handled ?_)
  first | rw [show A.in1.handled=none from hh] | rw [hh]
  refine wpAny_bind (wpAny_pure (wpAny_throw ?_));exact hE _ _ (((Heap.SameBut.update ..).extBut.push _).push _) ⟨_,bB _ rfl,rfl⟩
structure XR(b1 b2:Bool)(z TI TO i1 i2 l1 l2:Addr)(f:Value)(k:Nat)(h:Heap):Prop where
 z:IsZip h z TI TO f
 ti:IsPair h TI (.ref i1) (.ref i2)
 to:∃a b,IsPair h TO a b
 i1:yM b1 h i1 l1 k
 i2:yM b2 h i2 l2 k
theorem JS{b1 b2:Bool}{z TI TO i1 i2 l1 l2:Addr}{k:Nat}{xs ys:Array Value}{x y:Value}{Q:Value->Shared->Prop}(D:ZipApart z TI TO i1 i2 l1 l2)(Z:XR b1 b2 z TI TO i1 i2 l1 l2 .none k s.heap)
  (hl1:nE b1 s.heap l1 xs) (hl2:nE b2 s.heap l2 ys) (hx:xs[k]?=some x) (hy:ys[k]?=some y)
  (hQ:∀h',XR b1 b2 z TI TO i1 i2 l1 l2 (rawInt s.heap.objs.size) (k+1) h'->IsPair h' s.heap.objs.size x y->(∀c o,c≠z->c≠TO->c≠i1->c≠i2->s.heap.get? c=some o->h'.get? c=some o)->Q (.ref s.heap.objs.size) { s with heap:=h' }) :
  wpAny (model prog w) A (Builtin.«zip.__next__» ⟨[.ref z],[]⟩) (λfin s'=>∃v,fin=.done (.ret v)/\Q v s') E s:=by
 obtain ⟨hz,hTI,⟨a,b,hTO⟩,h1,h2⟩:=Z;show wpAny _ _ (field (.ref z) 2 >>= _) _ _ _;refine wpAny_bind (wpAny_field hz rfl (x:=.bool false) rfl ?_);show wpAny _ _ (field (.ref z) 3 >>= _) _ _ _;refine wpAny_bind (wpAny_field hz rfl (x:=.ref TI) rfl ?_);refine wpAny_bind (wpAny_seqItems hTI rfl ?_);show wpAny _ _ (Builtin.SmallTypes.ownedTupleIsFree (.ref z) >>= _) _ _ _;refine wpAny_bind ?_;unfold Builtin.SmallTypes.ownedTupleIsFree;refine wpAny_bind (wpAny_field hz rfl (x:=.none) rfl (wpAny_pure ?_));simp only [if_true];refine wpAny_bind (wpAny_rule ?_);refine wpAny_bind (wpAny_field hz rfl (x:=.ref TO) rfl ?_);refine wpAny_bind (wpAny_setField_rec hz (by simp) λh₁ hz₁ hs₁=>?_);have g₁:=hs₁.extBut;replace hz₁:IsZip h₁ z TI TO .ellipsis:=hz₁;refine wpAny_bind ?_;simp only [List.zipIdx_cons,List.zipIdx_nil,List.forIn_cons,List.forIn_nil];refine wpAny_bind (wpAny_bind (wpAny_onRaise ?_));show wpAny _ _ (Builtin.SmallTypes.nextOf (.ref i1) >>= _) _ _ _;refine wpAny_bind (AY (h1.at λo e=>g₁ _ o D.i1z e) (hl1.at λo e=>g₁ _ o D.l1z e) hx λh₂ h1₂ hs₂=>wpAny_pure ?_);have g₂:=hs₂.extBut;have hTO₂:IsPair h₂ TO a b:=g₂ _ _ D.TOi1 (g₁ _ _ D.TOz hTO);refine wpAny_bind (wpAny_seqItems hTO₂ rfl ?_);refine wpAny_bind (wpAny_updateSeq_pair hTO₂ λh₃ hTO₃ hs₃=>?_);have g₃:=hs₃.extBut;replace hTO₃:IsPair h₃ TO x b:=hTO₃;refine wpAny_bind (wpAny_letGo (wpAny_pure ?_));refine wpAny_bind (wpAny_bind (wpAny_onRaise ?_));show wpAny _ _ (Builtin.SmallTypes.nextOf (.ref i2) >>= _) _ _ _
 refine wpAny_bind (AY (h2.at λo e=>g₃ _ o D.TOi2.symm (g₂ _ o D.i12.symm (g₁ _ o D.i2z e))) (hl2.at λo e=>g₃ _ o D.l2TO (g₂ _ o D.l2i1 (g₁ _ o D.l2z e))) hy λh₄ h2₄ hs₄=>wpAny_pure ?_);have g₄:=hs₄.extBut;have hTO₄:IsPair h₄ TO x b:=g₄ _ _ D.TOi2 hTO₃;refine wpAny_bind (wpAny_seqItems hTO₄ rfl ?_);refine wpAny_bind (wpAny_updateSeq_pair hTO₄ λh₅ hTO₅ hs₅=>?_);have g₅:=hs₅.extBut;replace hTO₅:IsPair h₅ TO x y:=hTO₅;refine wpAny_bind (wpAny_letGo (wpAny_pure (wpAny_pure ?_)));refine wpAny_bind (wpAny_seqItems hTO₅ rfl ?_);refine wpAny_bind (wpAny_newTuple ?_);have hsz:h₅.objs.size=s.heap.objs.size:=by rw [hs₅.1,hs₄.1,hs₃.1,hs₂.1,hs₁.1]
 have hz₅:IsZip h₅ z TI TO .ellipsis:=g₅ _ _ D.TOz.symm (g₄ _ _ D.i2z.symm (g₃ _ _ D.TOz.symm (g₂ _ _ D.i1z.symm hz₁)));have hk₅:∀c o,c≠z->c≠TO->c≠i1->c≠i2->s.heap.get? c=some o->h₅.get? c=some o:=λc o c1 c2 c3 c4 e=>g₅ _ _ c2 (g₄ _ _ c4 (g₃ _ _ c2 (g₂ _ _ c3 (g₁ _ _ c1 e))));have h1₅:yM b1 h₅ i1 l1 (k+1):=h1₂.at λo e=>g₅ _ o D.TOi1.symm (g₄ _ o D.i12 (g₃ _ o D.TOi1.symm e));have h2₅:yM b2 h₅ i2 l2 (k+1):=h2₄.at λo e=>g₅ _ o D.TOi2.symm e;have hzlt:=aZ hz₅;show wpAny _ _ (Builtin.SmallTypes.ownedTupleHandOut (.ref z) (.ref h₅.objs.size) >>= _) _ _ _;refine wpAny_bind ?_;unfold Builtin.SmallTypes.ownedTupleHandOut;have hz₆:IsZip (h₅.push { cls:=.type "tuple",data:=.seq #[x,y] }) z TI TO .ellipsis:=aE _ hz₅;refine wpAny_bind (wpAny_setField_rec hz₆ (by simp) λh₇ hz₇ hs₇=>?_);replace hz₇:IsZip h₇ z TI TO (rawInt h₅.objs.size):=hz₇;refine wpAny_setField_rec hz₇ (by simp) λh₈ hz₈ hs₈=>?_;replace hz₈:IsZip h₈ z TI TO (rawInt h₅.objs.size):=hz₈;have up:∀c o,c≠z->h₅.get? c=some o->h₈.get? c=some o:=λc o c1 e=>hs₈.extBut _ _ c1 (hs₇.extBut _ _ c1 (aE _ e));have hT₈:IsPair h₈ h₅.objs.size x y:=hs₈.extBut _ _ (Nat.ne_of_gt hzlt) (hs₇.extBut _ _ (Nat.ne_of_gt hzlt) (bB _ rfl));rw [hsz] at hz₈ hT₈;refine wpAny_pure ⟨_,rfl,?_⟩;show Q (.ref h₅.objs.size) _;rw [hsz]
 exact hQ h₈ ⟨hz₈,up _ _ D.TIz (hk₅ _ _ D.TIz D.TITO D.TIi1 D.TIi2 hTI),⟨_,_,up _ _ D.TOz hTO₅⟩,h1₅.at λo e=>up _ o D.i1z e,h2₅.at λo e=>up _ o D.i2z e⟩ hT₈ λc o c1 c2 c3 c4 e=>up c o c1 (hk₅ c o c1 c2 c3 c4 e)
theorem ML{b1 b2:Bool}{z TI TO i1 i2 l1 l2:Addr}{k:Nat}{xs ys:Array Value}{Q:Fin->Shared->Prop}(hh:A.handled=none)(D:ZipApart z TI TO i1 i2 l1 l2)(Z:XR b1 b2 z TI TO i1 i2 l1 l2 .none k s.heap)
  (hl1:nE b1 s.heap l1 xs) (hl2:nE b2 s.heap l2 ys) (hend:xs[k]?=none\/ys[k]?=none)
  (hE:∀h' e,(∀c o,c≠z->c≠TO->c≠i1->c≠i2->s.heap.get? c=some o->h'.get? c=some o)->(∃o,h'.get? e=some o/\o.cls=.type "StopIteration")->E (.ref e) { s with heap:=h' }) :
  wpAny (model prog w) A (Builtin.«zip.__next__» ⟨[.ref z],[]⟩) Q E s:=by
 obtain ⟨hz,hTI,⟨a,b,hTO⟩,h1,h2⟩:=Z;show wpAny _ _ (field (.ref z) 2 >>= _) _ _ _;refine wpAny_bind (wpAny_field hz rfl (x:=.bool false) rfl ?_);show wpAny _ _ (field (.ref z) 3 >>= _) _ _ _;refine wpAny_bind (wpAny_field hz rfl (x:=.ref TI) rfl ?_);refine wpAny_bind (wpAny_seqItems hTI rfl ?_);show wpAny _ _ (Builtin.SmallTypes.ownedTupleIsFree (.ref z) >>= _) _ _ _;refine wpAny_bind ?_;unfold Builtin.SmallTypes.ownedTupleIsFree;refine wpAny_bind (wpAny_field hz rfl (x:=.none) rfl (wpAny_pure ?_));simp only [if_true];refine wpAny_bind (wpAny_rule ?_);refine wpAny_bind (wpAny_field hz rfl (x:=.ref TO) rfl ?_);refine wpAny_bind (wpAny_setField_rec hz (by simp) λh₁ hz₁ hs₁=>?_);have g₁:=hs₁.extBut;replace hz₁:IsZip h₁ z TI TO .ellipsis:=hz₁;refine wpAny_bind ?_;simp only [List.zipIdx_cons,List.zipIdx_nil,List.forIn_cons,List.forIn_nil];refine wpAny_bind (wpAny_bind (wpAny_onRaise ?_));show wpAny _ _ (Builtin.SmallTypes.nextOf (.ref i1) >>= _) _ _ _;cases hx:xs[k]? with
 | none =>
  refine wpAny_bind (OV hh (h1.at λo e=>g₁ _ o D.i1z e) (hl1.at λo e=>g₁ _ o D.l1z e) hx λh₂ e hs₂ he=>?_);obtain ⟨oe,hoe,hce⟩:=he;have hz₂:IsZip h₂ z TI TO .ellipsis:=hs₂ _ _ D.i1z.symm hz₁;have hez:e≠z:=λx=>by subst x;rw [hz₂] at hoe;cases hoe;simp at hce
  exact wpAny_setField_rec hz₂ (by simp) λh₃ _ hs₃=>hE h₃ e (λc o c1 _ c3 _ x=>hs₃.extBut _ _ c1 (hs₂ _ _ c3 (g₁ _ _ c1 x))) ⟨oe,hs₃.extBut _ _ hez hoe,hce⟩
 | some x =>
  have hy:ys[k]?=none:=by
   rcases hend with h | h
   ·rw [hx] at h;cases h
   ·exact h
  refine wpAny_bind (AY (h1.at λo e=>g₁ _ o D.i1z e) (hl1.at λo e=>g₁ _ o D.l1z e) hx λh₂ h1₂ hs₂=>wpAny_pure ?_);have g₂:=hs₂.extBut;have hTO₂:IsPair h₂ TO a b:=g₂ _ _ D.TOi1 (g₁ _ _ D.TOz hTO);refine wpAny_bind (wpAny_seqItems hTO₂ rfl ?_);refine wpAny_bind (wpAny_updateSeq_pair hTO₂ λh₃ hTO₃ hs₃=>?_);have g₃:=hs₃.extBut;refine wpAny_bind (wpAny_letGo (wpAny_pure ?_));refine wpAny_bind (wpAny_bind (wpAny_onRaise ?_));show wpAny _ _ (Builtin.SmallTypes.nextOf (.ref i2) >>= _) _ _ _;refine wpAny_bind (OV hh (h2.at λo e=>g₃ _ o D.TOi2.symm (g₂ _ o D.i12.symm (g₁ _ o D.i2z e))) (hl2.at λo e=>g₃ _ o D.l2TO (g₂ _ o D.l2i1 (g₁ _ o D.l2z e))) hy λh₄ e hs₄ he=>?_);obtain ⟨oe,hoe,hce⟩:=he;have hz₄:IsZip h₄ z TI TO .ellipsis:=hs₄ _ _ D.i2z.symm (g₃ _ _ D.TOz.symm (g₂ _ _ D.i1z.symm hz₁));have hez:e≠z:=λx=>by subst x;rw [hz₄] at hoe;cases hoe;simp at hce
  exact wpAny_setField_rec hz₄ (by simp) λh₅ _ hs₅=>hE h₅ e (λc o c1 c2 c3 c4 x=>hs₅.extBut _ _ c1 (hs₄ _ _ c4 (g₃ _ _ c2 (g₂ _ _ c3 (g₁ _ _ c1 x))))) ⟨oe,hs₅.extBut _ _ hez hoe,hce⟩
theorem JR{b1 b2:Bool}{z TI TO i1 i2 l1 l2:Addr}{k:Nat}{xs ys:Array Value}{x y:Value}{Q:Option Value->Shared->Prop}(D:ZipApart z TI TO i1 i2 l1 l2)(Z:XR b1 b2 z TI TO i1 i2 l1 l2 .none k s.heap)
  (hl1:nE b1 s.heap l1 xs) (hl2:nE b2 s.heap l2 ys) (hx:xs[k]?=some x) (hy:ys[k]?=some y)
  (hQ:∀h',XR b1 b2 z TI TO i1 i2 l1 l2 (rawInt s.heap.objs.size) (k+1) h'->IsPair h' s.heap.objs.size x y->(∀c o,c≠z->c≠TO->c≠i1->c≠i2->s.heap.get? c=some o->h'.get? c=some o)->Q (some (.ref s.heap.objs.size)) { s with heap:=h' }) :
  wpAny (model prog w) A (pyNext (.ref z)) Q E s:=by
 have hT:s.TypeIs (.ref z) "zip" := ⟨_,Z.z,rfl⟩;unfold pyNext;refine wpAny_bind (wpAny_attempt (wpAny_callSpecial?_slot (name:=Str.ofString "__next__") hT F.slot_zip_next (wpAny_call_entry F.slot_zip_next hT F.entry_zip_next ?_ (F.args_zip_next_1 _))));exact JS D Z hl1 hl2 hx hy λh' a1 a2 a3=>wpAny_pure (hQ h' a1 a2 a3)
theorem JQ{b1 b2:Bool}{z TI TO i1 i2 l1 l2:Addr}{k:Nat}{xs ys:Array Value}{Q:Option Value->Shared->Prop}(hh:A.handled=none)(D:ZipApart z TI TO i1 i2 l1 l2)(Z:XR b1 b2 z TI TO i1 i2 l1 l2 .none k s.heap)
  (hl1:nE b1 s.heap l1 xs) (hl2:nE b2 s.heap l2 ys) (hend:xs[k]?=none\/ys[k]?=none)
  (hQ:∀h',(∀c o,c≠z->c≠TO->c≠i1->c≠i2->s.heap.get? c=some o->h'.get? c=some o)->Q none { s with heap:=h' }):wpAny (model prog w) A (pyNext (.ref z)) Q E s:=by
 have hT:s.TypeIs (.ref z) "zip" := ⟨_,Z.z,rfl⟩;unfold pyNext;refine wpAny_bind (wpAny_attempt (wpAny_callSpecial?_slot (name:=Str.ofString "__next__") hT F.slot_zip_next (wpAny_call_entry F.slot_zip_next hT F.entry_zip_next ?_ (F.args_zip_next_1 _))));refine ML hh D Z hl1 hl2 hend λh' e hk he=>?_;obtain ⟨o,ho,hc⟩:=he;refine wpAny_bind (wpAny_isInstance (T := "StopIteration") (b:=true) ⟨o,ho,hc⟩ isSubtype_stop ?_);exact wpAny_pure (hQ _ hk)
abbrev itO(b:Bool)(l:Addr):Obj:={ cls:=.type (bif b then "tuple_iterator" else "list_iterator"),data:=.fields #[.ref l,.int 0 0] }
theorem XE{b:Bool}{l:Addr}{xs:Array Value}{Q:Value->Shared->Prop}(h:nE b s.heap l xs)(q:Q (.ref s.heap.objs.size) { s with heap:=s.heap.push (itO b l) }):wpAny (model prog w) A (pyIter (.ref l)) Q E s:=by
 cases b with
 | false=>exact wpAny_pyIter_list h q
 | true=>exact wpAny_pyIter_tuple h q
end
end L2
namespace L2
open PySem PySem.Spec PyProof.Rows
section
variable{X:Cx}{pins:List (Addr × Obj)}{σ:St}{H:Hp}{s:Shared}{h':Heap}
theorem cJ.turnedL{t':Nat}{fp:List Addr}(I:cJ X pins σ H s)(k:∀b o,b ∉ fp->s.heap.get? b=some o->h'.get? b=some o)(hf:∀b∈fp,lG X pins H b):cJ X pins σ H { s with heap:=h',toks:=t' }:=by
 have nit:∀b u,H b=some u->b ∉ fp:=λb u e z=>by rw [(hf b z).1] at e;cases e
 refine I.step (g':=s.gens) (d':=s.drawn) (ch:=fp) (λb hb=>?_) (λb o _ _ hc e _=>k b o hc e) (λb o _ _ hc e _=>⟨o.slots,k b o hc e⟩) (λ_ _ _ _ n=>n)
  (λb o hc e=>⟨o,k b o hc e⟩) (λ_ _ e=>e) (λ_ _ _ e=>e) (λb ps e=>⟨#[],by rw [e];simp⟩) (λm hm=>?_) (λb u e=>?_) I.bare
 ·obtain ⟨f0,f1,f2,f3,f4,f5⟩:=hf b hb;exact ⟨f3,f1,f4,f5⟩
 ·obtain ⟨o,es,ep,ho,r⟩:=hm;exact ⟨o,es,ep,k _ o (λz=>(hf _ z).2.1 rfl) ho,r⟩
 ·refine (I.hok b u e).stay (λc v hc q=>k c v ?_ q) (λ_ q=>q) λ_ _ q=>q;rcases hc with z | z
  ·rw [z];exact nit b u e
  ·exact nit c _ z
theorem Un.putE{fs ex:List Addr}{H H1:Hp}{h h1:Heap}{a:Addr}{u:HO}(x:Un fs ex H H1 h h1)(ha:h.get? a=none)(hn:H1 a=none):Un fs ex H (upd H1 a u) h h1 where
 keep:=x.keep
 slot:=x.slot
 free:=λb ob e n m=>by rw [dB (λz=>by subst z;rw [ha] at e;cases e)];exact x.free b ob e n m
 there:=x.there
 tups:=λb xs e=>by rw [dB (cQ (x.tups b xs e) hn)];exact x.tups b xs e
 frzs:=λb ob xs e=>by rw [dB (cQ (x.frzs b ob xs e) hn)];exact x.frzs b ob xs e
 tbls:=λb ps e=>by
  obtain ⟨m,q⟩:=x.tbls b ps e;exact ⟨m,by rw [dB (cQ q hn)];exact q⟩
theorem pO.putE{P:Program}{w:World}{h:Heap}{a:Addr}{u:HO}(x:pO P w H h)(hn:H a=none)(new:fO P w (upd H a u) h a u):pO P w (upd H a u) h:=λb v e=>by
 by_cases hb:b=a
 ·subst hb;rw [bK] at e;cases e;exact new
 ·rw [dB hb] at e;exact (x b v e).stay (λc q _ r=>r) (λc q=>by rw [dB (cQ q hn)];exact q) λc xs q=>by rw [dB (cQ q hn)];exact q
theorem cJ.put{a:Addr}{o:HO}(I:cJ X pins σ H s)(f:lG X pins H a)(hs:X.s₀.heap.get? a=none)(new:fO X.prog X.w (upd H a o) s.heap a o):cJ X pins σ (upd H a o) s :=
 ⟨I.ok,I.os,I.bare,I.base.putE hs f.1,I.loc,I.cell,by rw [dB (Ne.symm f.2.1)];exact I.free,λx c e=>by rw [dB (f.2.2.2.2.1 x c e)];exact I.freeC x c e,λp hp=>by
  obtain ⟨q1,q2,q3⟩:=I.pin p hp;exact ⟨q1,by rw [dB (f.2.2.2.2.2 p hp)];exact q2,q3⟩,pO.putE I.hok f.1 new,I.len⟩
def CC(b:Bool)(xs:List V):HO:=bif b then .tup xs else .lst xs
theorem CC.inj{b:Bool}{xs ys:List V}(h:some (CC b xs)=some (CC b ys)):xs=ys:=by
 cases b <;> (injection h with h;injection h)
theorem cJ.sq{b:Bool}{a:Addr}{xs:List V}(I:cJ X pins σ H s)(h:H a=some (CC b xs)):∃its:List Value,dI xs its/\nE b s.heap a its.toArray:=by
 cases b with
 | false=>obtain ⟨its,r,p,_⟩:=I.list (fI.of h);exact ⟨its,r,p.isList⟩
 | true=>obtain ⟨its,r,p,_⟩:=I.tuple (jM.of h);exact ⟨its,r,p⟩
end
def Itz(b1 b2:Bool)(l1 l2:Addr):It :=
  ⟨λi H=>∃xs ys x y,H l1=some (CC b1 xs)/\H l2=some (CC b2 ys)/\xs[i]?=some x/\ys[i]?=some y,
   λi H v H'=>∃q x y,v=.ref q/\H q=none/\H'=upd H q (.tup [x,y])/\∀xs ys,H l1=some (CC b1 xs)->H l2=some (CC b2 ys)->xs[i]?=some x/\ys[i]?=some y,
   λi H=>∃xs ys,H l1=some (CC b1 xs)/\H l2=some (CC b2 ys)/\(xs.length<=i\/ys.length<=i)⟩
structure ZD(z TI TO i1 i2:Addr):Prop where
 TIz:TI≠z
 TOz:TO≠z
 i1z:i1≠z
 i2z:i2≠z
 TITO:TI≠TO
 TIi1:TI≠i1
 TIi2:TI≠i2
 TOi1:TO≠i1
 TOi2:TO≠i2
 i12:i1≠i2
theorem ZD.seq(n:Nat):ZD (n+4) (n+2) (n+3) n (n+1) where
 TIz:=λh=>absurd (show (n+2:Nat)=n+4 from h) Oo
 TOz:=λh=>absurd (show (n+3:Nat)=n+4 from h) Oo
 i1z:=λh=>absurd (show (n:Nat)=n+4 from h) Oo
 i2z:=λh=>absurd (show (n+1:Nat)=n+4 from h) Oo
 TITO:=λh=>absurd (show (n+2:Nat)=n+3 from h) Oo
 TIi1:=λh=>absurd (show (n+2:Nat)=n from h) Oo
 TIi2:=λh=>absurd (show (n+2:Nat)=n+1 from h) Oo
 TOi1:=λh=>absurd (show (n+3:Nat)=n from h) Oo
 TOi2:=λh=>absurd (show (n+3:Nat)=n+1 from h) Oo
 i12:=λh=>absurd (show (n:Nat)=n+1 from h) Oo
theorem ZD.all{z TI TO i1 i2 l1 l2:Addr}(d:ZD z TI TO i1 i2){H:Hp}{o1 o2:HO}(e1:H l1=some o1)(e2:H l2=some o2)(h:∀b∈[z,TI,TO,i1,i2],H b=none):ZipApart z TI TO i1 i2 l1 l2 :=
 ⟨d.TIz,d.TOz,d.i1z,d.i2z,d.TITO,d.TIi1,d.TIi2,d.TOi1,d.TOi2,d.i12,cQ e1 (h _ (by simp)),cQ e1 (h _ (by simp)),cQ e1 (h _ (by simp)),cQ e1 (h _ (by simp)),cQ e2 (h _ (by simp)),cQ e2 (h _ (by simp)),cQ e2 (h _ (by simp)),cQ e2 (h _ (by simp))⟩
theorem NB{P:Program}{w:World}{K:PySem.W.Frag}{elts:List Expr}{x1}{tp:Pos}{b1 b2:Bool}{z TI TO i1 i2 l1 l2:Addr}(d:ZD z TI TO i1 i2):EU P w K (.Tuple elts x1 tp) (Itz b1 b2 l1 l2) [z,TI,TO,i1,i2] z (λi h=>XR b1 b2 z TI TO i1 i2 l1 l2 .none i h) where
 mem:=by simp
 obj:=λi h st b hb=>by
  obtain ⟨a,b',ht⟩:=st.to;obtain ⟨o1,e1,_,d1⟩:=st.i1;obtain ⟨o2,e2,_,d2⟩:=st.i2;simp only [bF,List.not_mem_nil,or_false] at hb;rcases hb with rfl | rfl | rfl | rfl | rfl
  ·exact ⟨_,st.z,λv q=>by cases q⟩
  ·exact ⟨_,st.ti,λv q=>by cases q⟩
  ·exact ⟨_,ht,λv q=>by cases q⟩
  ·exact ⟨_,e1,λv q=>by rw [d1] at q;cases q⟩
  ·exact ⟨_,e2,λv q=>by rw [d2] at q;cases q⟩
 keep:=λi h h' st k=>by
  obtain ⟨a,b,ht⟩:=st.to;exact ⟨k _ (by simp) _ st.z,k _ (by simp) _ st.ti,⟨a,b,k _ (by simp) _ ht⟩,st.i1.at λo e=>k _ (by simp) o e,st.i2.at λo e=>k _ (by simp) o e⟩
 item:=by
  intro X hP hw hK hc i pins s σ H E I hf st hg;subst hP hw hK;obtain ⟨xs,ys,x,y,e1,e2,hx,hy⟩:=hg;obtain ⟨u1,r1,p1⟩:=I.sq e1;obtain ⟨u2,r2,p2⟩:=I.sq e2;obtain ⟨ux,hux,rx⟩:=r1.get hx;obtain ⟨uy,huy,ry⟩:=r2.get hy;have D:=d.all e1 e2 λb hb=>(hf b hb).1;refine JR D st p1 p2 (x:=ux) (y:=uy) (by simpa using hux) (by simpa using huy) λh' Z' hp hk=>?_;refine ⟨_,rfl,wpAny_letOwnedTupleGo_zip Z'.z λh2 hz2 hs2=>?_⟩;have kk:∀b o,b ∉ [z,TI,TO,i1,i2]->s.heap.get? b=some o->h2.get? b=some o:=λb o hb e=>by
   simp only [bF,List.not_mem_nil,or_false,not_or] at hb;exact hs2.extBut b o hb.1 (hk b o hb.1 hb.2.2.1 hb.2.2.2.1 hb.2.2.2.2 e)
  have I1:cJ X pins σ H { s with heap:=h2 }:=I.turnedL (t':=s.toks) kk hf;have fq:lG X pins H s.heap.objs.size:=I.fpOk (aL _) (I.hok.fresh (aL _));have e0:X.s₀.heap.get? s.heap.objs.size=none:=by
   cases q:X.s₀.heap.get? s.heap.objs.size with
   | none=>rfl
   | some o=>exact absurd (aV (aZ q) I.sz) (bY _)
  have nz:s.heap.objs.size≠z:=λq=>absurd (aZ st.z) (by rw [<-q];exact bY _);obtain ⟨a,b,ht⟩:=Z'.to;refine ⟨.ref s.heap.objs.size,upd H s.heap.objs.size (.tup [x,y]),I1.put fq e0 ⟨⟨vU (by show 2<=64;decide),_,hs2.extBut _ _ nz hp,rfl⟩,[ux,uy],.cons rx (.cons ry .nil),⟨_,hs2.extBut _ _ nz hp,rfl,_,rfl⟩⟩,rfl,⟨_,x,y,rfl,fq.1,rfl,λxs' ys' q1 q2=>?_⟩,
   ⟨hz2,hs2.extBut _ _ d.TIz Z'.ti,⟨a,b,hs2.extBut _ _ d.TOz ht⟩,Z'.i1.at λo e=>hs2.extBut _ o d.i1z e,Z'.i2.at λo e=>hs2.extBut _ o d.i2z e⟩,λb hb=>?_⟩
  ·rw [e1] at q1;rw [e2] at q2;rw [<-CC.inj q1,<-CC.inj q2];exact ⟨hx,hy⟩
  ·have nb:b≠s.heap.objs.size:=λq=>by
    obtain ⟨a',b',ht'⟩:=st.to;obtain ⟨o1,e1',_⟩:=st.i1;obtain ⟨o2,e2',_⟩:=st.i2;have lt:∀{c o},s.heap.get? c=some o->c≠s.heap.objs.size:=λe=>cR (aZ e);simp only [bF,List.not_mem_nil,or_false] at hb;rcases hb with rfl | rfl | rfl | rfl | rfl
    ·exact lt st.z q
    ·exact lt st.ti q
    ·exact lt ht' q
    ·exact lt e1' q
    ·exact lt e2' q
   rw [dB nb];exact (hf b hb).1
 done:=by
  intro X hP hw hK hc i pins s σ H E I hf st hg;subst hP hw hK;obtain ⟨xs,ys,e1,e2,hl⟩:=hg;obtain ⟨u1,r1,p1⟩:=I.sq e1;obtain ⟨u2,r2,p2⟩:=I.sq e2;have D:=d.all e1 e2 λb hb=>(hf b hb).1;have l1:=r1.length;have l2:=r2.length;have hend:u1.toArray[i]?=none\/u2.toArray[i]?=none:=by
   rcases hl with h | h
   ·left;simp;omega
   ·right;simp;omega
  refine JQ (I.ok.hd hc) D st p1 p2 hend λh' hk=>⟨rfl,I.turnedL (t':=s.toks) (λb o hb e=>?_) hf⟩;simp only [bF,List.not_mem_nil,or_false,not_or] at hb;exact hk b o hb.1 hb.2.2.1 hb.2.2.2.1 hb.2.2.2.2 e
 self:=λ_ _ _ _ _ st h=>wpAny_pyIter_zip st.z h
abbrev zA(b:Bool)(h:Heap)(l:Addr):Heap:=h.push (itO b l)
abbrev zB(b1 b2:Bool)(h:Heap)(l1 l2:Addr):Heap:=(zA b1 h l1).push (itO b2 l2)
abbrev zC(b1 b2:Bool)(h:Heap)(l1 l2:Addr):Heap:=(zB b1 b2 h l1 l2).push { cls:=.type "tuple",data:=.seq #[.ref h.objs.size,.ref (zA b1 h l1).objs.size] }
abbrev zE(b1 b2:Bool)(h:Heap)(l1 l2:Addr):Heap:=(zC b1 b2 h l1 l2).push { cls:=.type "tuple",data:=.seq #[.none,.none] }
abbrev zF(b1 b2:Bool)(h:Heap)(l1 l2:Addr):Heap:=(zE b1 b2 h l1 l2).push { cls:=.type "zip",data:=.fields #[.none,.bool false,.bool false,.ref (zB b1 b2 h l1 l2).objs.size,.ref (zC b1 b2 h l1 l2).objs.size] }
theorem aAD(b1 b2:Bool)(l1 l2:Addr)(xs ys:Array Value):Meets (Builtin.«zip.__new__» ⟨[.type "zip",.ref l1,.ref l2],[]⟩) (λ_ R s=>nE b1 s.heap l1 xs/\nE b2 s.heap l2 ys/\R (.ok (.ret (.ref (zE b1 b2 s.heap l1 l2).objs.size))) { s with heap:=zF b1 b2 s.heap l1 l2 }) :=
 .of_wp λprog w A R s h=>by
  obtain ⟨hp,g,d,tk,os⟩:=s;obtain ⟨hl1,hl2,h⟩:=h;have hsub:=sub_zip;have hL1:nE b1 (Shared.heap ⟨hp,g,d,tk,os⟩) l1 xs:=hl1;have hL2:nE b2 (Shared.heap ⟨hp.push (itO b1 l1),g,d,tk,os⟩) l2 ys:=hl2.at λo e=>aE _ e
  wp_walk using XE hL1,XE hL2
  exact ⟨_,rfl,h⟩
section
variable{prog:Program}{w:World}{A:Around}{E:Value->Shared->Prop}{s:Shared}
theorem aCb{b1 b2:Bool}{l1 l2:Addr}{xs ys:Array Value}{Q:Value->Shared->Prop}(hl1:nE b1 s.heap l1 xs)(hl2:nE b2 s.heap l2 ys)
  (h:∀h',XR b1 b2 (s.heap.objs.size+4) (s.heap.objs.size+2) (s.heap.objs.size+3) s.heap.objs.size (s.heap.objs.size+1) l1 l2 .none 0 h'->(∀c o,s.heap.get? c=some o->h'.get? c=some o)->Q (.ref (s.heap.objs.size+4)) { s with heap:=h' }) :
  wpAny (model prog w) A (call (.type "zip") [.ref l1,.ref l2]) Q E s:=by
 refine callType_new F.called_zip Dd (F.typeCall_zip_2 _ _) (F.newCall_zip_2 _ _) (λobj=>F.args_object_init_3 obj _ _) F.entry_zip_new (aAD b1 b2 l1 l2 xs ys) ⟨hl1,hl2,?_⟩;have z1:(zA b1 s.heap l1).objs.size=s.heap.objs.size+1:=gU ..;have z2:(zB b1 b2 s.heap l1 l2).objs.size=s.heap.objs.size+2:=by rw [gU,z1]
 have z3:(zC b1 b2 s.heap l1 l2).objs.size=s.heap.objs.size+3:=by rw [gU,z2]
 have z4:(zE b1 b2 s.heap l1 l2).objs.size=s.heap.objs.size+4:=by rw [gU,z3]
 have g5:(zF b1 b2 s.heap l1 l2).get? (zE b1 b2 s.heap l1 l2).objs.size=some _:=bB _ rfl;have g4:(zF b1 b2 s.heap l1 l2).get? (zC b1 b2 s.heap l1 l2).objs.size=some _:=aE _ (bB _ rfl);have g3:(zF b1 b2 s.heap l1 l2).get? (zB b1 b2 s.heap l1 l2).objs.size=some _:=aE _ (aE _ (bB _ rfl));have g2:(zF b1 b2 s.heap l1 l2).get? (zA b1 s.heap l1).objs.size=some _:=aE _ (aE _ (aE _ (bB _ rfl)));have g1:(zF b1 b2 s.heap l1 l2).get? s.heap.objs.size=some _:=aE _ (aE _ (aE _ (aE _ (bB _ rfl))));show _/\_;rw [z2,z3,z4] at g5;rw [z1,z2] at g3;rw [z3] at g4;rw [z1] at g2;rw [z4];exact ⟨⟨_,g5,rfl⟩,h _ ⟨g5,g3,⟨_,_,g4⟩,⟨_,g1,rfl,rfl⟩,⟨_,g2,rfl,rfl⟩⟩ λc o x=>aE _ (aE _ (aE _ (aE _ (aE _ x))))⟩
end
def aB2(b1 b2:Bool)(ta:TA):TI:=λσ H R=>ta σ H λvs H1=>∃l1 l2 xs ys,vs=[.ref l1,.ref l2]/\H1 l1=some (CC b1 xs)/\H1 l2=some (CC b2 ys)/\R (Itz b1 b2 l1 l2) H1
theorem QW:bootBuiltins (Str.ofString "zip")=some (Value.type "zip"):=Kk
section
variable{X:Cx}
theorem aAm{a b:Expr}{ta:TA}{p pos tp:Pos}{elts:List Expr}{x1}{b1 b2:Bool}(hg:Gl X "zip")(hm:X.mg "zip" = none)(ha:PA X [a,b] ta)(hs:starEach [a,b] X.env=[(false,eval a X.env),(false,eval b X.env)])(hs2:starEach [b] X.env=[(false,eval b X.env)]) :
  PI X (.Tuple elts x1 tp) (.Call (.Name "zip" p) [a,b] [] pos) (aB2 b1 b2 ta):=by
 intro pins s σ H R I h;refine Call_ (uO I hg hm QW (PyProof.Rows.callWith_type1 (thn (ha pos pins s σ H _ I h) λus s1 ⟨vs,H1,I1,r1,q1⟩=>?_) (by rw [hs,hs2]) (by rw [hs2];rfl)));obtain ⟨l1,l2,xs,ys,e,e1,e2,q⟩:=q1;subst e;cases r1 with
 | cons r rr =>
  cases rr with
  | cons r' rr =>
   cases rr;cases r;cases r';obtain ⟨u1,_,p1⟩:=I1.sq e1;obtain ⟨u2,_,p2⟩:=I1.sq e2;refine aCb p1 p2 λh' Z kk=>wpAny_pyIter_zip Z.z ?_;refine ⟨_,[s1.heap.objs.size+4,s1.heap.objs.size+2,s1.heap.objs.size+3,s1.heap.objs.size,s1.heap.objs.size+1],_,_,H1,rfl,I1.kept (t':=s1.toks) kk,NB (ZD.seq _),Z,λb hb=>?_,q⟩;have hle:s1.heap.objs.size<=b:=by
    simp only [bF,List.not_mem_nil,or_false] at hb;rcases hb with rfl | rfl | rfl | rfl | rfl
    ·exact Nat.le_add_right _ _
    ·exact Nat.le_add_right _ _
    ·exact Nat.le_add_right _ _
    ·exact aL _
    ·exact Nat.le_add_right _ _
   exact I1.fpOk hle (I1.hok.fresh hle)
theorem pR(b1 b2:Bool){a b:Expr}{ta:TA}{p pos tp:Pos}{elts:List Expr}{x1}(hg:Gl X "zip")(hm:X.mg "zip" = none)(ha:GX X [a,b] ta)(hs:starEach [a,b] X.env=[(false,eval a X.env),(false,eval b X.env)]:=by rfl)(hs2:starEach [b] X.env=[(false,eval b X.env)]:=by first | exact gO | exact gP | exact cZ | rfl) :
  MJ X (.Tuple elts x1 tp) (.Call (.Name "zip" p) [a,b] [] pos) (aB2 b1 b2 ta):=⟨aAm hg hm ha.p hs hs2⟩
end
theorem BQ{b1 b2:Bool}{l1 l2:Addr}{xs ys:List V}{g:TG}{tb:TS}{D:rN}{σ:St}{H:Hp}(Pv:Nat->St->Hp->Prop)(h0:Pv 0 σ H)(hl:∀i σ H,Pv i σ H->H l1=some (CC b1 xs)/\H l2=some (CC b2 ys))
  (hs:∀i x y q σ H H',xs[i]?=some x->ys[i]?=some y->Pv i σ H->H q=none->H' q=some (.tup [x,y])->aU H H'->g (.ref q) σ H' λσ2 H2=>tb { D with nx:=Pv (i+1),ct:=Pv (i+1),bk:=D.nx } σ2 H2) (hd:∀σ H,Pv (min xs.length ys.length) σ H->D.nx σ H) :
  ∃W:Nat->Nat->St->Hp->Prop,(∃m,W 0 m σ H)/\∀i m σ H,W i m σ H ->
   ((Itz b1 b2 l1 l2).stop i H/\D.nx σ H)\/((Itz b1 b2 l1 l2).go i H/\∃N:St->Hp->Prop,(∀σ' H',N σ' H'->∃m',m' < m/\W (i+1) m' σ' H')/\∀x H',(Itz b1 b2 l1 l2).yld i H x H'->g x σ H' λσ2 H2=>tb { D with nx:=N,ct:=N,bk:=D.nx } σ2 H2):=by
 refine ⟨λi m σ H=>m=min xs.length ys.length-i/\i<=min xs.length ys.length/\Pv i σ H,⟨_,rfl,cG _,h0⟩,?_⟩;rintro i m σ H ⟨rfl,hi,p⟩;obtain ⟨q1,q2⟩:=hl i σ H p;by_cases hlt:i<min xs.length ys.length
 ·have hx:xs[i]?=some xs[i]:=aB Oo;have hy:ys[i]?=some ys[i]:=aB Oo;refine .inr ⟨⟨xs,ys,_,_,q1,q2,hx,hy⟩,Pv (i+1),λσ' H' p'=>⟨_,Oo,rfl,hlt,p'⟩,λv H' y=>?_⟩;obtain ⟨q,x,y,rfl,hq,rfl,hh⟩:=y;obtain ⟨h1,h2⟩:=hh xs ys q1 q2;exact hs i x y q σ H _ h1 h2 p hq bK (aU.upd hq)
 ·have e:i=min xs.length ys.length:=Oo;subst e;refine .inl ⟨⟨xs,ys,q1,q2,?_⟩,hd σ H p⟩;omega
end L2
namespace L2
open PySem
def pF:List Value->List Int->Bool
 | [],[]=>true
 | .int i _::vs,n::ns=>decide (i=n)&&pF vs ns
 | _,_=>false
def sB(K:PySem.W.Frag)(a:Addr)(ns:List Int):Bool :=
 match K.lookup a with
 | some o=>(match o.cls with | .type n=>n == "tuple" | _=>false)&&(match o.data with | .seq xs _=>decide (xs.size<=64)&&pF xs.toList ns | _=>false)
 | none=>false
theorem pF.vals:∀{vs:List Value}{ns:List Int},pF vs ns=true->dI (ns.map V.int) vs
 | [],[],_=>.nil
 | v::vs,n::ns,h=>by
  cases v with
  | int i t =>
   have h':(decide (i=n)&&pF vs ns)=true:=h;rw [dL] at h';have e:=of_decide_eq_true h'.1;subst e;exact .cons ⟨t,rfl⟩ (pF.vals h'.2)
  | _=>cases h
 | [],_::_,h=>by cases h
 | v::_,[],h=>by cases v <;> cases h
theorem wQ{K:PySem.W.Frag}{H:Hp}{a:Addr}{ns:List Int}(h:sB K a ns=true):jM K H a (ns.map V.int):=by
 unfold sB at h;split at h
 ·rename_i o ho
  rw [dL] at h;obtain ⟨h1,h2⟩:=h;split at h1
  ·rename_i n hn
   split at h2
   ·rename_i xs m hx
    rw [dL] at h2;have e:n = "tuple" := by simpa using h1
    subst e;exact .inr ⟨o,xs,m,ho,hn,hx,vU (of_decide_eq_true h2.1),pF.vals h2.2⟩
   ·cases h2
  ·cases h1
 ·cases h
theorem jM.keep{K:PySem.W.Frag}{H H':Hp}{a:Addr}{xs:List V}(s:aU H H')(h:jM K H a xs):jM K H' a xs:=by
 rcases h with (h | ⟨o,h⟩) | h
 ·exact .inl (.inl (s _ _ h))
 ·exact .inl (.inr ⟨o,s _ _ h⟩)
 ·exact .inr h
section
variable{X:Cx}{pins:List (Addr × Obj)}{σ:St}{H:Hp}{s:Shared}
end
section
variable{X:Cx}
end
section
variable{K:PySem.W.Frag}{H:Hp}{p:Addr}{xs:List V}{i:Int}{v:V}{Q:VK}
theorem nF(h:jM K H p xs)(e:BV xs i=some v)(q:Q v H):rIx K (.ref p) (.int i) H Q:=.inr (.inl ⟨p,xs,i,v,rfl,rfl,h,e,q⟩)
end
theorem JC(xs:List V)(k:Nat):lC xs (some (k:Int)) none=xs.drop k:=by
 unfold lC;rw [HT.AS,HT.sR];by_cases h:k<=xs.length
 ·rw [Nat.min_eq_left h];exact List.take_of_length_le (by rw [List.length_drop];exact aL _)
 ·rw [Nat.min_eq_right Oo,List.drop_of_length_le (aL _),List.drop_of_length_le Oo,List.take_nil]
theorem JD(xs:List V)(k:Nat):lC xs none (some (k:Int))=xs.take k:=by
 unfold lC;rw [HT.AS,HT.sR,List.drop_zero,Nat.sub_zero];by_cases h:k<=xs.length
 ·rw [Nat.min_eq_left h]
 ·rw [Nat.min_eq_right Oo,List.take_of_length_le (aL _),List.take_of_length_le Oo]
@[irreducible] def TJ(K:PySem.W.Frag):V->Option Int->Option Int->Hp->VK->Prop:=aBE K
theorem wX{X:Cx}(K:PySem.W.Frag)(h:X.K=K:=by rfl):SlR X (TJ K):=by subst h;unfold TJ;exact HZ
theorem slL{K:PySem.W.Frag}{H:Hp}{a:Addr}{xs ys:List V}{lo hi:Option Int}{Q:VK}(h:H a=some (.lst xs))(e:lC xs lo hi=ys)(k:∀q H',H q=none->H' q=some (.lst ys)->aU H H'->Q (.ref q) H'):TJ K (.ref a) lo hi H Q:=by
 unfold TJ;exact ⟨a,xs,rfl,fI.of h,λp hp=>by rw [e];exact k p _ hp bK (aU.upd hp)⟩
section
variable{σ:St}{js:List Nat}{te:TE}{H:Hp}{Q:VK}
theorem wV{R:Nat->V->Prop}{ys:List V}{y:V}(h:∀(j:Nat) z,ys[j]?=some z->R j z)(r:R ys.length y):∀(j:Nat) z,(ys++[y])[j]?=some z->R j z:=λj z hj=>by
 by_cases hji:j<ys.length
 ·rw [cM hji] at hj;exact h j z hj
 ·rw [cI Oo] at hj;have:j-ys.length=0:=by
   by_cases q:j-ys.length=0
   ·exact q
   ·rw [dF (by simp;omega)] at hj;cases hj
  rw [this] at hj;have hj':y=z:=by simpa using hj
  have:j=ys.length:=Oo;subst this hj';exact r
theorem uR{J:It}{n:Nat}(src:Nat->V->Prop)(R:Nat->V->Hp->Prop)(hR:∀i y H1 H2,dC H1 H2->R i y H1->R i y H2)(hz:n<=100000)
  (hg:∀i H',aU H H'->i<n->J.go i H'/\∀x H3,J.yld i H' x H3->H3=H'/\src i x) (hst:∀H',aU H H'->J.stop n H')
  (hs:∀i x H' (Q':VK),src i x->i<n->aU H H'->(∀y H5,aU H' H5->R i y H5->Q' y H5)->te (some x::slots σ js) H' Q')
  (hd:∀D ys H',H D=none->H' D=some (.lst ys)->aU H H'->ys.length=n->(∀(i:Nat) (y:V),ys[i]?=some y->R i y H')->Q (.ref D) H'):oR J σ js yG te H Q:=by
 refine EJ (J:=J) (n:=n) src hz (λD i ys H'=>H D=none/\aU H H'/\∀(i:Nat) (y:V),ys[i]?=some y->R i y H') (λD H1 hD _ s=>⟨hD,s,λi y h=>by simp at h⟩)
  (λD i ys H' hi _ p=>hg i H' p.2.1 hi) (λD ys H' _ p=>hst H' p.2.1) (λD i x ys H' hx hi hy hD p=>?_) (λD ys H' hy hD hD' p=>hd D ys H' hD hD' p.2.1 hy p.2.2)
 refine hs i x H' _ hx hi p.2.1 λy H5 s5 r=>?_;refine ⟨s5 _ _ hD,λH6 hD6 s6=>⟨p.1,aU.thru p.1 (p.2.1.trans s5) s6,?_⟩⟩;have t6:=s6.t (s5 _ _ hD);exact wV (R:=λj z=>R j z H6) (λj z hj=>hR j z _ _ (s5.t.trans t6) (p.2.2 j z hj)) (by rw [hy];exact hR i y _ _ t6 r)
theorem gJ{K:PySem.W.Frag}{a:Addr}{xs:List V}(R:Nat->V->Hp->Prop)(hR:∀i y H1 H2,dC H1 H2->R i y H1->R i y H2)(hz:xs.length<=100000)(hl:H a=some (.lst xs))
  (hs:∀i x H' (Q':VK),xs[i]?=some x->aU H H'->(∀y H5,aU H' H5->R i y H5->Q' y H5)->te (some x::slots σ js) H' Q')
  (hd:∀D ys H',H D=none->H' D=some (.lst ys)->aU H H'->ys.length=xs.length->(∀(i:Nat) (y:V),ys[i]?=some y->R i y H')->Q (.ref D) H'):oR (XU K a) σ js yG te H Q :=
 uR (λi x=>xs[i]?=some x) R hR hz (λi H' s hi=>⟨⟨xs,xs[i],fI.of (s _ _ hl),by simp [hi]⟩,λx H3 y=>⟨y.1,y.2 xs (fI.of (s _ _ hl))⟩⟩) (λH' s=>⟨xs,fI.of (s _ _ hl),aL _⟩)
  (λi x H' Q' hx _ s k=>hs i x H' Q' hx s k) hd
theorem LP{K:PySem.W.Frag}{a:Addr}{xs:List V}(R:Nat->V->Hp->Prop)(hR:∀i y H1 H2,dC H1 H2->R i y H1->R i y H2)(hz:xs.length<=100000)(hl:H a=some (.tup xs))
  (hs:∀i x H' (Q':VK),xs[i]?=some x->aU H H'->(∀y H5,aU H' H5->R i y H5->Q' y H5)->te (some x::slots σ js) H' Q')
  (hd:∀D ys H',H D=none->H' D=some (.lst ys)->aU H H'->ys.length=xs.length->(∀(i:Nat) (y:V),ys[i]?=some y->R i y H')->Q (.ref D) H'):oR (Itt K a) σ js yG te H Q :=
 uR (λi x=>xs[i]?=some x) R hR hz (λi H' s hi=>⟨⟨xs,xs[i],jM.of (s _ _ hl),by simp [hi]⟩,λx H3 y=>⟨y.1,y.2 xs (jM.of (s _ _ hl))⟩⟩) (λH' s=>⟨xs,jM.of (s _ _ hl),aL _⟩)
  (λi x H' Q' hx _ s k=>hs i x H' Q' hx s k) hd
theorem jR{lo:Int}{n:Nat}(R:Nat->V->Hp->Prop)(hR:∀i y H1 H2,dC H1 H2->R i y H1->R i y H2)(hz:n<=100000)
  (hs:∀i H' (Q':VK),i<n->aU H H'->(∀y H5,aU H' H5->R i y H5->Q' y H5)->te (some (.int (lo+(i:Nat)))::slots σ js) H' Q')
  (hd:∀D ys H',H D=none->H' D=some (.lst ys)->aU H H'->ys.length=n->(∀(i:Nat) (y:V),ys[i]?=some y->R i y H')->Q (.ref D) H'):oR (WI lo n) σ js yG te H Q :=
 uR (λi x=>x=.int (lo+(i:Nat))) R hR hz (λi H' s hi=>⟨hi,λx H3 y=>y⟩) (λH' s=>aL _)
  (λi x H' Q' hx hi s k=>by subst hx;exact hs i H' Q' hi s k) hd
theorem aR.thru{p l:Addr}{H0 H1 H2:Hp}(hl:H0 l=none)(s:aR p H0 H1)(b:aR l H1 H2):aR p H0 H2:=λc o e=>by
 have n:=gX.ne e;have e0:H0 c=some o:=by rw [gX.at n] at e;exact e
 have nl:c≠l:=λz=>by subst z;rw [hl] at e0;cases e0
 exact gX.of n (b.at nl (s.at n e0))
end
theorem aT.ofIdx{H:Hp}:∀{ds:List PyData}{ys:List V},ys.length=ds.length->(∀(i:Nat) (y:V),ys[i]?=some y->∃d,ds[i]?=some d/\cA H d y)->aT H ds ys
 | [],[],_,_=>aT.nil
 | d::ds,y::ys,hl,h=>by
  obtain ⟨d',e,r⟩:=h 0 y rfl;cases (show d=d' by simpa using e);exact aT.cons r (aT.ofIdx (by simpa using hl) λi z hz=>by simpa using h (i+1) z (by simpa using hz))
 | [],_::_,hl,_=>by simp at hl
 | _::_,[],hl,_=>by simp at hl
theorem pE{P:Nat->Int->Prop}:∀{ys:List V},(∀(i:Nat) (y:V),ys[i]?=some y->∃n,y=.int n/\P i n)->∃ns:List Int,ys=ns.map V.int/\∀(i:Nat) n,ns[i]?=some n->P i n
 | [],_=>⟨[],rfl,λi n h=>by simp at h⟩
 | y::ys,h=>by
  obtain ⟨n,rfl,hn⟩:=h 0 y rfl;obtain ⟨ns,rfl,hs⟩:=pE (P:=λi=>P (i+1)) (ys:=ys) λi z hz=>h (i+1) z (by simpa using hz);refine ⟨n::ns,rfl,λi m hm=>?_⟩;cases i with
  | zero=>cases (show n=m by simpa using hm);exact hn
  | succ i=>exact hs i m (by simpa using hm)
end L2
namespace L2
open PySem PySem.Spec PyProof.Rows
theorem jS.u1{k:Nat}{A:Around}(r:jS k A):A.units+1<cLine:=by have:=r.units;omega
@[irreducible] def rDG:R2:=λx y H Q=>∃a v,x=.ref a/\oQ H a y (some v)/\Q v H
@[irreducible] def rDP(D:rN)(σ:St)(x y v:V)(H:Hp):Prop:=∃a H4,x=.ref a/\CB H a y v H4/\D.nx σ H4
def WV(td ty tv:TE):TS:=λD σ H=>tv σ H λv H1=>td σ H1 λx H2=>ty σ H2 λy H3=>rDP D σ x y v H3
structure WF(X:Cx)(pos:Pos)(keys:List (Option Expr))(values:List Expr)(trs:List (TE × TE)):Prop where p:PPs X pos keys values trs
section
variable{X:Cx}{o i value k v:Expr}{td ty tv tk:TE}{pos pos':Pos}{ks:List (Option Expr)}{vs:List Expr}{trs:List (TE × TE)}
theorem fU(hu:X.A.units+1<cLine)(ho:gW X o td)(hi:gW X i ty)(hs:aBa i:=by intro _ _;rfl):gW X (.Subscript o i pos) (RG rDG td ty):=⟨by unfold rDG;exact UL hu ho.p hi.p hs⟩
theorem iQ(hu:X.A.units+1<cLine)(ho:gW X o td)(hi:gW X i ty)(hv:gW X value tv)(hs:swapsWith value (some (.Subscript o i pos')) pos.line X.env=pure false:=by rfl) :
  FB X (.Assign [.Subscript o i pos'] value pos) (WV td ty tv):=⟨by unfold WV rDP;exact UC hu ho.p hi.p hv.p hs⟩
theorem RU:WF X pos [] [] []:=⟨pps_nil⟩
theorem wF(hk:gW X k tk)(hv:gW X v tv)(hr:WF X pos ks vs trs):WF X pos (some k::ks) (v::vs) ((tk,tv)::trs):=⟨OM hk.p hv.p hr.p⟩
theorem RZ(h:WF X pos ks vs trs)(hall:ks.all (·.isSome)=true:=by rfl)(hl:ks.length=vs.length:=by rfl)(h0:ks≠[]:=by intro h;cases h)(h15:ks.length<=15:=by decide):gW X (.Dict ks vs pos) (WU trs):=⟨UK h.p hall hl h0 h15⟩
end
theorem dgS{H:Hp}{p:Addr}{kvs:List (eO × V)}{x:Str}{v:V}{Q:VK}(e:H p=some (.dK kvs))(hv:fG kvs (.inr x)=some v)(q:Q v H):rDG (.ref p) (.str x) H Q:=by
 unfold rDG;exact ⟨p,v,rfl,hv ▸ oQ.k (k:=.inr x) e,q⟩
theorem dpS{H:Hp}{p:Addr}{kvs kvs2:List (eO × V)}{x:Str}{v:V}{D:rN}{σ:St}(e:H p=some (.dK kvs))(hl:kvs.length<=64)(hk:iY kvs (.inr x) v=kvs2)(q:∀H',H' p=some (.dK kvs2)->aR p H H'->D.nx σ H') :
  rDP D σ (.ref p) (.str x) v H:=by
 unfold rDP;exact ⟨p,_,rfl,CB.k (k:=.inr x) e (bA hl Dd),q _ (by rw [hk];exact bK) aR.self⟩
theorem aR.tD{H H':Hp}{p:Addr}(s:aR p H H'){xs:List (eO × V)}(hp:H p=some (.dK xs)):dC H H':=λb ys h=>s.at (oC h hp (by intro z;cases z)) h
section
variable{σ:St}{js:List Nat}{te:TE}{H:Hp}{Q:VK}
end
structure HA(p L:Addr)(Fd:Nat->Hp->Prop):Prop where
 but:∀n D H1 H2,D≠p->D≠L->aR D H1 H2->Fd n H1->Fd n H2
 same:∀n H1 H2,aU H1 H2->Fd n H1->Fd n H2
 dic:∀n H',Fd n H'->∃xs,H' p=some (.dK xs)
 np:∀n H' D,Fd n H'->H' D=none->D≠p/\D≠L
section
variable{σ:St}{js:List Nat}{te:TE}{H:Hp}{Q:VK}
theorem VL{J:It}{n:Nat}{p L:Addr}{Fd:Nat->Hp->Prop}(fl:HA p L Fd)(F0:Fd 0 H)(src:Nat->V->Prop)(R:Nat->V->Hp->Prop)(hR:∀i y H1 H2,dC H1 H2->R i y H1->R i y H2)(hz:n<=100000)
  (hg:∀i H',aR p H H'->i<n->J.go i H'/\∀x H3,J.yld i H' x H3->H3=H'/\src i x) (hst:∀H',aR p H H'->J.stop n H')
  (hs:∀i x H' (Q':VK),src i x->i<n->Fd i H'->aR p H H'->(∀y H5,Fd (i+1) H5->aR p H' H5->R i y H5->Q' y H5)->te (some x::slots σ js) H' Q')
  (hd:∀D ys H',H D=none->H' D=some (.lst ys)->Fd n H'->aR p H H'->ys.length=n->(∀(i:Nat) (y:V),ys[i]?=some y->R i y H')->Q (.ref D) H'):oR J σ js yG te H Q:=by
 refine EJ (J:=J) (n:=n) src hz (λD i ys H'=>H D=none/\Fd i H'/\aR p H H'/\∀(i:Nat) (y:V),ys[i]?=some y->R i y H') (λD H1 hD _ s=>⟨hD,fl.same _ _ _ s F0,s.but,λi y h=>by simp at h⟩)
  (λD i ys H' hi _ q=>hg i H' q.2.2.1 hi) (λD ys H' _ q=>hst H' q.2.2.1) (λD i x ys H' hx hi hy hD q=>?_) (λD ys H' hy hD hD' q=>hd D ys H' hD hD' q.2.1 q.2.2.1 hy q.2.2.2)
 obtain ⟨np,nL⟩:=fl.np _ _ _ F0 q.1;refine hs i x H' _ hx hi q.2.1 q.2.2.1 λy H5 F5 s5 r=>?_;obtain ⟨xs,hp⟩:=fl.dic _ H' q.2.1;have hD5:=s5.at np hD;refine ⟨hD5,λH6 hD6 s6=>⟨q.1,fl.but _ D _ _ np nL s6 F5,aR.thru q.1 (q.2.2.1.trans s5) s6,?_⟩⟩;have t6:=s6.t hD5;exact wV (R:=λj z=>R j z H6) (λj z hj=>hR j z _ _ ((s5.tD hp).trans t6) (q.2.2.2 j z hj)) (by rw [hy];exact hR i y _ _ t6 r)
theorem tH{lo:Int}{n:Nat}{p L:Addr}{Fd:Nat->Hp->Prop}(fl:HA p L Fd)(F0:Fd 0 H)(R:Nat->V->Hp->Prop)(hR:∀i y H1 H2,dC H1 H2->R i y H1->R i y H2)(hz:n<=100000)
  (hs:∀i H' (Q':VK),i<n->Fd i H'->aR p H H'->(∀y H5,Fd (i+1) H5->aR p H' H5->R i y H5->Q' y H5)->te (some (.int (lo+(i:Nat)))::slots σ js) H' Q')
  (hd:∀D ys H',H D=none->H' D=some (.lst ys)->Fd n H'->aR p H H'->ys.length=n->(∀(i:Nat) (y:V),ys[i]?=some y->R i y H')->Q (.ref D) H'):oR (WI lo n) σ js yG te H Q :=
 VL fl F0 (λi x=>x=.int (lo+(i:Nat))) R hR hz (λi H' s hi=>⟨hi,λx H3 y=>y⟩) (λH' s=>aL _)
  (λi x H' Q' hx hi f s k=>by subst hx;exact hs i H' Q' hi f s k) hd
end
def RD(K:PySem.W.Frag)(a:Addr)(n:Nat):It :=
 ⟨λi H=>∃xs x,fI K H a xs/\xs.length=n/\i<n/\xs[n-1-i]?=some x,λi H x H'=>H'=H/\∀xs,fI K H a xs->xs[n-1-i]?=some x,λi H=>i=n⟩
theorem NC{P:Program}{w:World}{K:PySem.W.Frag}{tg:Expr}(a it:Addr)(n:Nat):EU P w K tg (RD K a n) [it] it (λi h=>h.IsRevIter it a ((n:Int)-1-(i:Nat))) where
 mem:=by simp
 obj:=λi h st b hb=>by
  have e:b=it:=by simpa using hb
  subst e;obtain ⟨o,e,c,d⟩:=st;exact ⟨o,e,λv z=>by rw [d] at z;cases z⟩
 keep:=λi h h' st k=>st.at λo e=>k it (by simp) o e
 item:=by
  intro X hP hw hK hc i pins s σ H E I hf st hg;subst hP hw hK;obtain ⟨xs,x,hq,hn,hi,hx⟩:=hg;obtain ⟨its,rv,p,hz⟩:=I.list hq;obtain ⟨u,hu,ru⟩:=rv.get hx;obtain ⟨f0,f1,f2,f3,f4,f5⟩:=hf it (by simp);have e1:(n:Int)-1-(i:Nat)=((n-1-i:Nat):Int):=Oo;have st:s.heap.IsRevIter it a ((n:Int)-1-(i:Nat)):=st;rw [e1] at st;refine wpAny_pyNext_rev_item st p.isList (x:=u) (by simpa using hu) λh' st' sb=>?_;have I1:cJ X pins σ H { s with heap:=h' }:=I.turned (t':=s.toks) (λb o hb e=>(sb.2 b hb).trans e) f0 f1 f3 f4 f5;have e2:((n-1-i:Nat):Int)-1=(n:Int)-1-((i+1:Nat):Int):=Oo;rw [e2] at st';obtain ⟨o,e,c,d⟩:=id st';exact ⟨u,rfl,IR (s:={ s with heap:=h' }) e c d Dd ⟨x,H,I1,ru,⟨rfl,λys hy=>by rw [I.list_inj hy hq];exact hx⟩,st',λb hb=>(hf b hb).1⟩⟩
 done:=by
  intro X hP hw hK hc i pins s σ H E I hf st hg;subst hP hw hK;have hi:i=n:=hg;subst hi;obtain ⟨f0,f1,f2,f3,f4,f5⟩:=hf it (by simp);have st:s.heap.IsRevIter it a ((i:Int)-1-(i:Nat)):=st;rw [show (i:Int)-1-(i:Nat)=-1 by omega] at st;exact wpAny_pyNext_rev_end (I.ok.hd hc) st λh' eb=>⟨rfl,I.turned (t':=s.toks) (λb o hb e=>eb b o hb e) f0 f1 f3 f4 f5⟩
 self:=λ_ _ _ _ _ st h=>wpAny_pyIter_revIter st h
def aDK(K:PySem.W.Frag)(ta:TA):TI:=λσ H R=>ta σ H λvs H1=>∃l xs,vs=[.ref l]/\fI K H1 l xs/\R (RD K l xs.length) H1
theorem LZ:bootBuiltins (Str.ofString "reversed")=some (Value.type "reversed"):=Kk
section
variable{X:Cx}{tg:Expr}
theorem MS{a:Expr}{ta:TA}{p pos:Pos}(hg:Gl X "reversed")(hm:X.mg "reversed" = none)(ha:GX X [a] ta)(hs:starEach [a] X.env=[(false,eval a X.env)]:=by first | exact gO | exact gP | exact cZ | rfl) :
  MJ X tg (.Call (.Name "reversed" p) [a] [] pos) (aDK X.K ta):=⟨by
 intro pins s σ H R I h;refine Call_ (uO I hg hm LZ (PyProof.Rows.callWith_type1 (thn (ha.p pos pins s σ H _ I h) λus s1 ⟨vs,H1,I1,r1,q1⟩=>?_) (by rw [hs];rfl) (by rfl)));obtain ⟨l,xs,e,e1,q⟩:=q1;subst e;obtain ⟨u,rfl,ru⟩:=mS r1;cases ru;obtain ⟨its,rv,p,hz⟩:=I1.list e1;have hl:=rv.length;refine call_reversed_list p.isList ?_;have e:((its.toArray.size:Nat):Int)-1=(xs.length:Int)-1-((0:Nat):Int):=by simp;omega
 rw [e];refine wpAny_pyIter_revIter (l:=l) (i:=(xs.length:Int)-1-((0:Nat):Int)) ⟨_,bB _ rfl,rfl,rfl⟩ ?_;refine ⟨s1.heap.objs.size,[s1.heap.objs.size],_,_,H1,rfl,I1.kept (t':=s1.toks) λb o e=>aE _ e,NC l _ xs.length,⟨_,bB _ rfl,rfl,rfl⟩,λb hb=>?_,q⟩;have e:b=s1.heap.objs.size:=by simpa using hb
 subst e;exact I1.fpOk (aL _) (I1.hok.fresh (aL _))⟩
end
theorem IU{K:PySem.W.Frag}{a:Addr}{xs:List V}{g:TG}{tb:TS}{D:rN}{σ:St}{H:Hp}(Pv:Nat->St->Hp->Prop)(h0:Pv 0 σ H)(hl:∀i σ H,i<=xs.length->Pv i σ H->fI K H a xs)
  (hs:∀i x σ H,i<xs.length->xs[xs.length-1-i]?=some x->Pv i σ H->g x σ H λσ2 H2=>tb { D with nx:=Pv (i+1),ct:=Pv (i+1),bk:=D.nx } σ2 H2) (hd:∀σ H,Pv xs.length σ H->D.nx σ H) :
  ∃W:Nat->Nat->St->Hp->Prop,(∃m,W 0 m σ H)/\∀i m σ H,W i m σ H ->
   ((RD K a xs.length).stop i H/\D.nx σ H)\/((RD K a xs.length).go i H/\∃N:St->Hp->Prop,(∀σ' H',N σ' H'->∃m',m' < m/\W (i+1) m' σ' H')/\∀x H',(RD K a xs.length).yld i H x H'->g x σ H' λσ2 H2=>tb { D with nx:=N,ct:=N,bk:=D.nx } σ2 H2):=by
 refine ⟨λi m σ H=>m=xs.length-i/\i<=xs.length/\Pv i σ H,⟨xs.length,by simp,cG _,h0⟩,?_⟩;rintro i m σ H ⟨rfl,hi,p⟩;have q:=hl i σ H hi p;by_cases hlt:i<xs.length
 ·have hx:xs[xs.length-1-i]?=some (xs[xs.length-1-i]'Oo):=aB Oo;refine .inr ⟨⟨xs,_,q,rfl,hlt,hx⟩,Pv (i+1),λσ' H' p'=>⟨xs.length-(i+1),Oo,rfl,hlt,p'⟩,λx H' y=>?_⟩;obtain ⟨e,y⟩:=y;subst e;exact hs i x σ _ hlt (y xs q) p
 ·have e:i=xs.length:=Oo;subst e;exact .inl ⟨rfl,hd σ H p⟩
structure eJ(X:Cx)(scope:Scope)(xs:List Str)(N':List Str)(js:List Nat):Prop where
 calm:X.calm=true
 free:∀y∈scope.names,y.2=.free->X.env.kindOf y.1=some .cell
 cell:∀y∈scope.names,y.2 ≠ .cell
 kind:scope.kind=.function
 names:∀y∈scope.names,y.2=.local->scope.names.lookup y.1=some .local
 own:∀x∈xs,scope.names.lookup x=some .local
 nofl:∀y,(y,NameKind.free)∈scope.names->scope.names.lookup y=some .local->False
 len:N'.length=xs.length+js.length
 pre:∀(i:Nat) x,xs[i]?=some x->N'[i]?=some x
 nd:N'.Nodup
 slot:∀(i:Nat) (j:Nat),js[i]?=some j->∃y,N'[xs.length+i]?=some y/\X.N[j]?=some y/\(y,NameKind.free)∈scope.names
def BM:Nat->Nat->RA
 | _,0=>aAQ
 | i,n+1=>PZ (oH i) (BM (i+1) n)
def gN(K:PySem.W.Frag)(n:Nat):TG:=aAP K n (BM 0 n)
theorem xN{H:Hp}{r:St}{Q:St->Hp->Prop}:∀(vs:List V) (pre os:St),os.length=vs.length->Q (pre++(vs.map some++r)) H->BM pre.length vs.length vs (pre++(os++r)) H Q
 | [],pre,[],_,q=>⟨rfl,q⟩
 | v::vs,pre,o::os,hl,q=>by
  refine ⟨v,vs,rfl,?_⟩;show BM (pre.length+1) vs.length vs ((pre++(o::os++r)).set pre.length (some v)) H Q;have e1:(pre++(o::os++r)).set pre.length (some v)=(pre++[some v])++(os++r):=by
   rw [List.set_append_right _ _ (aL _),Nat.sub_self,List.append_assoc];rfl
  have e2:pre.length+1=(pre++[some v]).length:=by rw [aP];rfl
  rw [e1,e2];refine xN vs (pre++[some v]) os (by simpa using hl) ?_;rw [List.append_assoc];exact q
@[irreducible] def vO(K:PySem.W.Frag)(n:Nat)(J:It)(σ:St)(js:List Nat)(tc:TT)(te:TE)(H1:Hp)(Q:VK):Prop:=∀D,H1 D=none->∃W:Nat->Nat->List V->Hp->Prop,(∃m,W 0 m [] (upd H1 D (.lst []))) /\
 ∀i m ys H2,W i m ys H2->H2 D=some (.lst ys)/\((J.stop i H2/\Q (.ref D) H2)\/(J.go i H2/\ys.length<sizeLine/\∀x H3,J.yld i H2 x H3->∃a vs,x=.ref a/\jM K H3 a vs/\vs.length=n /\
  rO tc (vs.map some++slots σ js) H3 λb H4=>if b=true then wK te (vs.map some++slots σ js) H4 λy H5=>H5 D=some (.lst ys)/\∃m',m' < m/\W (i+1) m' (ys++[y]) (upd H5 D (.lst (ys++[y])))
   else H4 D=some (.lst ys)/\∃m',m' < m/\W (i+1) m' ys H4))
def wL(K:PySem.W.Frag)(n:Nat)(wi:TI)(js:List Nat)(tc:TT)(te:TE):TE:=λσ H Q=>wi σ H λJ H1=>vO K n J σ js tc te H1 Q
section
variable{X:Cx}{pins:List (Addr × Obj)}{σ:St}{H:Hp}{s:Shared}{scope:Scope}{xs:List Str}{N':List Str}{js:List Nat}{fp:List Addr}
theorem eJ.cells(S:eJ X scope xs N' js)(ok:X.Ok):∀y∈scope.names,y.2=.free->∃c,X.env.cells.lookup y.1=some c:=λy hy hf=>ok.has _ (.inl (S.free y hy hf))
theorem VH(S:eJ X scope xs N' js)(I:cJ X pins σ H s)(hf:∀b∈fp,lG X pins H b)(hb:∀b∈fp,b<s.heap.objs.size):(lI X scope s.heap.objs.size fp s H N').Ok where
 mod:=I.ok.mod
 kind:=S.kind
 glob:=I.ok.glob
 blt:=I.ok.blt
 above:=aL _
 inj:=λy z c h1 h2=>I.ok.inj y z c (iM (S.cells I.ok) h1) (iM (S.cells I.ok) h2)
 has:=λy hy=>by
  have hm:(y,NameKind.free)∈scope.names:=by
   rcases hy with hy | hy
   ·exact jD (env:=X.env) hy (.inl rfl) S.cell
   ·exact jD (env:=X.env) hy (.inr rfl) S.cell
  obtain ⟨c,hc⟩:=S.cells I.ok _ hm rfl;exact ⟨c,oM (S.cells I.ok) hm hc⟩
 cab:=λ_ _ h=>by cases h
 hd:=λ_=>I.ok.hd S.calm
 frames:=I.ok.frames
 stk:=.inl rfl
 exf:=λb hb'=>⟨λe=>by have:=hb b hb';rw [e] at this;exact bY _ this,λy c h=>(hf b hb').2.2.2.2.1 y c (iM (S.cells I.ok) h)⟩
 bs:=I.bs
 bsz:=aK I.ok.bsz I.sz
 noex:=λb o e hb'=>by
  rcases (hf b hb').2.2.2.1 with h | h
  ·exact I.ok.noex b o e h
  ·exact absurd (aV (aZ e) (aK I.ok.bsz h)) (bY _)
 exfs:=λb hb' hs=>by
  have h2:=I.stkSub b hs;rcases bF.mp h2 with h2 | h2
  ·exact (hf b hb').2.1 h2
  ·exact (hf b hb').2.2.1 h2
 funs:=I.stack
 frf:=I.stkFree
theorem QI{h':Heap}{tk:Nat}(S:eJ X scope xs N' js)(I:cJ X pins σ H s)(hf:∀b∈fp,lG X pins H b)(hb:∀b∈fp,b<s.heap.objs.size)
  (hn:h'.Ns s.heap.objs.size (λ_=>none)) (hk:∀b o,s.heap.get? b=some o->h'.get? b=some o):cJ (lI X scope s.heap.objs.size fp s H N') [] (List.replicate xs.length none++slots σ js) H { s with heap:=h',toks:=tk } where
 ok:=VH S I hf hb
 os:=rfl
 bare:=I.bare
 base:=Un.kept hk
 loc:=by
  refine ⟨_,hn,λi y v hi hv hvis=>?_⟩;by_cases hlt0:i<xs.length
  ·rw [cM (by rw [eV];exact hlt0),List.getElem?_replicate,if_pos hlt0] at hv;cases hv
  ·obtain ⟨i,rfl⟩:∃k,i=xs.length+k:=⟨i-xs.length,Oo⟩;rw [cI (by rw [eV];omega),eV,Nat.add_sub_cancel_left] at hv;have hv':(slots σ js)[i]?=some (some v):=hv;have hlt:i<js.length:=by
    have:=(aI.mp hv').1;unfold slots at this
    rwa [aA] at this
   have hj:js[i]?=some js[i]:=aB hlt;obtain ⟨z,h1,h2,h3⟩:=S.slot i _ hj;have hzy:z=y:=by
    have:N'[xs.length+i]?=some y:=hi;rw [h1] at this;cases this;rfl
   subst hzy;rw [zI hj] at hv';have hσ:σ[js[i]]?=some (some v):=by
    cases q:σ[js[i]]? with
    | none=>rw [q] at hv';cases hv'
    | some o=>rw [q] at hv';cases hv';rfl
   have hkc:X.env.kindOf z=some .cell:=S.free _ h3 rfl;obtain ⟨m,hm,hl⟩:=I.loc;obtain ⟨u,ru,lk⟩:=hl _ z v h2 hσ (.inr (.inl hkc));rcases lk with ⟨hk1,_⟩ | ⟨_,c,hc,hcell⟩
   ·rw [hkc] at hk1;cases hk1
   ·refine ⟨u,ru,.inr ⟨?_,c,oM (S.cells I.ok) h3 hc,?_⟩⟩
    ·rcases hvis with hvis | hvis | hvis
     ·exfalso;have hcl:=oM (S.cells I.ok) h3 hc;have hm2:=pC (l:=(relabel scope X.env).names) hvis;unfold relabel at hm2;obtain ⟨⟨n,k⟩,hmem,he⟩:=aQ.mp hm2;dsimp only at he;by_cases hq:(k == NameKind.free&&X.env.scope.kind == .function&&X.env.kindOf n == some .cell)=true
      ·rw [if_pos hq] at he;cases he
      ·rw [if_neg hq] at he;cases he;have:=S.names _ hmem rfl;have l2:=pB h3;obtain ⟨c',l2⟩:=l2;dsimp only at this;rw [this] at l2;have key:(relabel scope X.env).names.lookup z=some .local:=lookup_relabel_local this;have hck:scope.names.lookup z=some .local:=this;exact S.nofl z h3 hck
     ·exact .inl hvis
     ·exact .inr hvis
    ·obtain ⟨o,e,r⟩:=hcell;exact ⟨o,hk _ _ e,r⟩
 cell:=λy c h=>by
  obtain ⟨v,o,e,r⟩:=I.cell y c (iM (S.cells I.ok) h);exact ⟨v,o,hk _ _ e,r⟩
 free:=I.hok.fresh (aL _)
 freeC:=λy c h=>I.freeC y c (iM (S.cells I.ok) h)
 pin:=λp hp=>by cases hp
 hok:=I.hok.kept hk
 len:=by
  rw [aP,eV];unfold slots;rw [aA];exact S.len.symm
theorem zT{H2:Hp}{σ':St}{s2:Shared}{h'':Heap}(S:eJ X scope xs N' js)(I:cJ X pins σ H s)(hf:∀b∈fp,lG X pins H b)
  (J:cJ (lI X scope s.heap.objs.size fp s H N') [] σ' H2 s2) (hs:Heap.SameBut s.heap.objs.size s2.heap h''):cJ X pins σ H2 { s2 with heap:=h'' }:=by
 have hC:H2 s.heap.objs.size=none:=J.free;have ne:∀{b:Addr} {o:Obj},s.heap.get? b=some o->b≠s.heap.objs.size:=λe q=>by
  have:=aZ e;rw [q] at this;exact bY _ this
 refine I.call' (s':={ s2 with heap:=h'' }) (ch:=fp) (by rw [show ({ s2 with heap:=h'' }:Shared).os=s2.os from rfl];exact J.os) ?_ (J.hok.but hC λb u hb q=>hs.extBut b u hb q) J.bare λb hb=>⟨(hf b hb).2.2.2.1,(hf b hb).2.1,(hf b hb).2.2.2.2.1,(hf b hb).2.2.2.2.2⟩;have U:=J.base;exact {
  keep:=λb o e n h1 h2=>hs.extBut b o (ne e) (U.keep b o e n h1 h2)
  slot:=λb o e n h1 h2=>by
   obtain ⟨sl,q⟩:=U.slot b o e n h1 h2;exact ⟨sl,hs.extBut b _ (ne e) q⟩
  free:=U.free
  there:=λb o e h2=>by
   obtain ⟨o',q⟩:=U.there b o e h2;exact ⟨o',hs.extBut b _ (ne e) q⟩
  tups:=U.tups
  frzs:=U.frzs
  tbls:=U.tbls }
end
section
variable{X:Cx}{pins:List (Addr × Obj)}{σ:St}{H:Hp}{s:Shared}{scope:Scope}{xs:List Str}{N':List Str}{js:List Nat}{fp:List Addr}{elt iter:Expr}{px pos:Pos}{tg:Expr}{ifs:List Expr}{tc:TT}{te:TE}
theorem vN{J:It}{it:Addr}{tn:Nat->Heap->Prop}{RR:Value->Addr->Result->Shared->Prop}{E:Value->Shared->Prop}{Q:VK}
  (S:eJ X scope xs N' js) (I:cJ X pins σ H s) (T:EU X.prog X.w X.K tg J fp it tn) (h0:tn 0 s.heap) (hf:∀b∈fp,lG X pins H b)
  (hg:∀C fp s₀ H₀,PG (lI X scope C fp s₀ H₀ N') tg (gN X.K xs.length)) (ht:∀C fp s₀ H₀,MI (lI X scope C fp s₀ H₀ N') ifs tc) (he:∀C fp s₀ H₀,PE (lI X scope C fp s₀ H₀ N') elt te)
  (R:∀D,H D=none->∃W:Nat->Nat->List V->Hp->Prop,(∃m,W 0 m [] (upd H D (.lst []))) /\
   ∀i m ys H2,W i m ys H2->H2 D=some (.lst ys)/\((J.stop i H2/\Q (.ref D) H2)\/(J.go i H2/\ys.length<sizeLine/\∀x H3,J.yld i H2 x H3->∃a vs,x=.ref a/\jM X.K H3 a vs/\vs.length=xs.length /\
    tc (vs.map some++slots σ js) H3 λb H4=>if b=true then te (vs.map some++slots σ js) H4 λy H5=>H5 D=some (.lst ys)/\∃m',m' < m/\W (i+1) m' (ys++[y]) (upd H5 D (.lst (ys++[y])))
     else H4 D=some (.lst ys)/\∃m',m' < m/\W (i+1) m' ys H4)))
  (hRR:∀(D:Addr) (H3:Hp) (s3:Shared) (σ':St) (H':Hp) (s':Shared),cJ X pins σ H3 s3->(∀b∈fp,lG X pins H3 b)->cJ (lI X scope s3.heap.objs.size fp s3 H3 N') [] σ' H' s'->Q (.ref D) H'->RR (.ref D) s3.heap.objs.size (.ok .next) s') :
  wpAny (model X.prog X.w) X.A (newList []) (λacc s₃=>wpAny (model X.prog X.w) X.A (newFunctionEnv scope X.env.globals (GQ X scope) [] X.env.qual none .none (some X.env)) (λcenv s₄ =>
   codeAny (model X.prog X.w) X.A (.compStart (.ListComp elt [⟨tg,iter,ifs,0⟩] scope pos) 0 (.ref it) acc { cenv with scope:=relabel scope X.env }) (RR acc cenv.locals) s₄) E s₃) E s:=by
 have hb:∀b∈fp,b<s.heap.objs.size:=λb hb=>by
  obtain ⟨o,e,_⟩:=T.obj 0 _ h0 b hb;exact aZ e
 refine wpAny_newObj_type (wpAny_newFunctionEnv S.cell (by intro y hy;simp at hy) (λh₁ hns₁ hsb₁=>?_) S.kind);have hDn:H s.heap.objs.size=none:=I.hok.fresh (aL _);obtain ⟨W,⟨m0,hw0⟩,hW⟩:=R _ hDn;have I3:cJ X pins σ (upd H s.heap.objs.size (.lst [])) { s with heap:=s.heap.push { cls:=.type "list",dict:=none,data:=.seq ([]:List Value).toArray } }:=I.lnew (its:=[]) (ys:=[]) (t':=s.toks) .nil (cG _);have hf3:∀b∈fp,lG X pins (upd H s.heap.objs.size (.lst [])) b:=λb hb' =>
  ⟨by rw [dB (λe=>by have:=hb b hb';rw [e] at this;exact bY _ this)];exact (hf b hb').1,(hf b hb').2⟩
 have hb3:∀b∈fp,b<(s.heap.push { cls:=.type "list",dict:=none,data:=.seq ([]:List Value).toArray }).objs.size:=λb hb'=>by
  rw [gU];exact Nat.lt_succ_of_lt (hb b hb')
 have hkeep:∀b o,(s.heap.push { cls:=.type "list",dict:=none,data:=.seq ([]:List Value).toArray }).get? b=some o->h₁.get? b=some o:=λb o e =>
  hsb₁.extBut b o (λq=>by have:=aZ e;rw [q] at this;exact bY _ this) (aE _ e)
 have J4:=QI (h':=h₁) (tk:=s.toks+([]:List (Str × Value)).length) S I3 hf3 hb3 hns₁ hkeep;have t4:tn 0 h₁:=T.keep 0 _ _ h0 λb hb' o e=>hkeep b o (aE _ e);have loop:codeAny (model X.prog X.w) X.A (.compLoop (.ListComp elt [⟨tg,iter,ifs,0⟩] scope pos) 0 (.ref it) (.ref s.heap.objs.size) (compEnvC scope (GQ X scope) (s.heap.push { cls:=.type "list",dict:=none,data:=.seq ([]:List Value).toArray }).objs.size X.env))
   (RR (.ref s.heap.objs.size) (s.heap.push { cls:=.type "list",dict:=none,data:=.seq ([]:List Value).toArray }).objs.size) { s with heap:=h₁,toks:=s.toks+([]:List (Str × Value)).length }:=by
  refine tJ (λn s'=>∃(i:Nat) (ys:List V) (H2:Hp) (os:St),os.length=xs.length/\cJ (lI X scope _ fp _ _ N') [] (os++slots σ js) H2 s'/\tn i s'.heap/\(∀b∈fp,H2 b=none)/\W i n ys H2) ?_ m0 ⟨0,[],_,_,eV,J4,t4,λb hb'=>(hf3 b hb').1,hw0⟩;rintro n s' ⟨i,ys,H2,os,hos,J2,t2,f2,w2⟩;obtain ⟨hD,hcase⟩:=hW i n ys H2 w2;have Fp:∀b∈fp,lG (lI X scope (s.heap.push { cls:=.type "list",dict:=none,data:=.seq ([]:List Value).toArray }).objs.size fp { s with heap:=s.heap.push { cls:=.type "list",dict:=none,data:=.seq ([]:List Value).toArray } } (upd H s.heap.objs.size (.lst [])) N') [] H2 b:=λb hb' =>
   ⟨f2 b hb',(J2.ok.exf b hb').1,J2.ok.exfs b hb',.inl hb',(J2.ok.exf b hb').2,λp hp=>by cases hp⟩
  rcases hcase with ⟨hstop,hq⟩ | ⟨hgo,hz,hturn⟩
  ·refine wpAny_mono (T.done (lI X scope _ fp _ _ N') rfl rfl rfl rfl i [] s' _ H2 RN J2 Fp t2 hstop) (λr s1 ⟨hr,J5⟩=>?_) λ_ _ f=>f;subst hr;exact hRR _ _ _ _ _ _ I3 hf3 J5 hq
  ·refine wpAny_mono (T.item (lI X scope _ fp _ _ N') rfl rfl rfl rfl i [] s' _ H2 RN J2 Fp t2 hgo) (λr s1 ⟨u,hr,hx⟩=>?_) λ_ _ f=>f;subst hr;refine wpAny_mono hx (λ_ s2 ⟨v,H3,J3,rv,hy,t3,f3⟩=>?_) λ_ _ f=>f;have Fp3:∀b∈fp,lG (lI X scope (s.heap.push { cls:=.type "list",dict:=none,data:=.seq ([]:List Value).toArray }).objs.size fp { s with heap:=s.heap.push { cls:=.type "list",dict:=none,data:=.seq ([]:List Value).toArray } } (upd H s.heap.objs.size (.lst [])) N') [] H3 b:=λb hb' =>
    ⟨f3 b hb',(J3.ok.exf b hb').1,J3.ok.exfs b hb',.inl hb',(J3.ok.exf b hb').2,λp hp=>by cases hp⟩
   have P3:=J3.pinned Fp3 (T.obj (i+1) _ t3);have keepT:∀{σ':St} {Hx:Hp} {sx:Shared},cJ (lI X scope (s.heap.push { cls:=.type "list",dict:=none,data:=.seq ([]:List Value).toArray }).objs.size fp { s with heap:=s.heap.push { cls:=.type "list",dict:=none,data:=.seq ([]:List Value).toArray } } (upd H s.heap.objs.size (.lst [])) N') ([]++uI fp s2.heap) σ' Hx sx->tn (i+1) sx.heap/\∀b∈fp,Hx b=none:=λJx =>
    ⟨T.keep (i+1) _ _ t3 λb hb' ob e=>(Jx.pin (b,ob) (bI _ (bI _ (kL hb' e)))).1,λb hb'=>by
     obtain ⟨ob,e,_⟩:=T.obj (i+1) _ t3 b hb';exact (Jx.pin (b,ob) (bI _ (bI _ (kL hb' e)))).2.1⟩
   obtain ⟨a,vs,ev,hq,hl,qe⟩:=hturn v H3 hy;subst ev;refine wpAny_mono (hg _ _ _ _ _ _ (os++slots σ js) H3 (.ref a) u (λσ' H'=>σ'=vs.map some++slots σ js/\H'=H3) P3 rv ⟨a,vs,rfl,hq,hl,?_⟩) (λ_ s5 ⟨σ5,H5,J5,e5,e6⟩=>?_) λ_ _ f=>f
   ·have:=xN (H:=H3) (r:=slots σ js) (Q:=λσ' H'=>σ'=vs.map some++slots σ js/\H'=H3) vs [] os (by rw [hos,hl]) ⟨rfl,rfl⟩;rw [hl] at this;exact this
   subst e5 e6;refine wpAny_mono (ht _ _ _ _ _ _ _ _ _ J5 qe) (λok s6 ⟨H6,J6,q6⟩=>?_) λ_ _ f=>f;dsimp only at q6;by_cases hok:ok=true
   ·rw [if_pos hok] at q6 ⊢;refine wpAny_mono (he _ _ _ _ _ _ _ _ _ J6 q6) (λy s7 ⟨w',H7,J7,r7,hD7,m',hm',w7⟩=>?_) λ_ _ f=>f;refine wpAny_mono (uM (X:=lI X scope _ fp _ _ N') _ _ _ _ (.ref s.heap.objs.size) [w'] (.ref s.heap.objs.size) [y] (λ_ H8=>H8=upd H7 s.heap.objs.size (.lst (ys++[w']))) J7 rfl (.cons r7 .nil) ⟨_,_,_,rfl,rfl,hD7,hz,rfl⟩) (λ_ s8 ⟨_,H8,J8,_,e8⟩=>?_) λ_ _ f=>f;subst e8;obtain ⟨k1,k2⟩:=keepT J8;exact ⟨m',hm',i+1,ys++[w'],_,vs.map some,by rw [aA,hl],J8.unpinned,k1,k2,w7⟩
   ·rw [if_neg hok] at q6 ⊢;obtain ⟨_,m',hm',w7⟩:=q6;obtain ⟨k1,k2⟩:=keepT J6;exact ⟨m',hm',i+1,ys,_,vs.map some,by rw [aA,hl],J6.unpinned,k1,k2,w7⟩
 refine codeAny_compStart_list loop (T.self X.A 0 _ _ _ t4 loop)
theorem DH{wi:TI}(S:eJ X scope xs N' js)(hi:PI X tg iter wi)(hg:∀C fp s₀ H₀,PG (lI X scope C fp s₀ H₀ N') tg (gN X.K xs.length))(ht:∀C fp s₀ H₀,MI (lI X scope C fp s₀ H₀ N') ifs tc)(he:∀C fp s₀ H₀,PE (lI X scope C fp s₀ H₀ N') elt te)
  (hs:∀x,foldedSetIterable iter X.env x=pure x:=by intro _;rfl):PE X (.ListComp elt [⟨tg,iter,ifs,0⟩] scope pos) (wL X.K xs.length wi js tc te):=by
 intro pins s σ H Q I h;rw [eval_ListComp];refine wpAny_comprehension_free (use:=none) rfl hs (kQ (S.cells I.ok)) S.kind S.names (wpAny_mono (hi pins s σ H _ I h) (λv s1 h1=>?_) λ_ _ e=>e);refine wpAny_mono h1 (λitv s2 ⟨it,fp,tn,J,H2,e,I2,T,t0,hf,R⟩=>?_) λ_ _ e=>e;subst e;refine vN (te:=wK te) (tc:=rO tc) S I2 T t0 hf hg (λC fp s₀ H₀=>(ht C fp s₀ H₀).mono) (λC fp s₀ H₀=>(he C fp s₀ H₀).mono) (by unfold vO at R;exact R) ?_;intro D H3 s3 σ' H' s' I3 hf3 J3 q;obtain ⟨m,hm,_⟩:=J3.loc;exact ⟨m,hm,λh' hs'=>⟨.ref D,H',zT S I3 hf3 J3 hs',rfl,q⟩⟩
theorem DG{wi:TI}{y:Str}{py spos:Pos}{i:Nat}(S:eJ X scope xs N' js)(hN:X.N.Nodup)(hiN:X.N[i]?=some y)(hy:X.env.kindOf y=some .local)(hi:PI X tg iter wi)(hg:∀C fp s₀ H₀,PG (lI X scope C fp s₀ H₀ N') tg (gN X.K xs.length))(ht:∀C fp s₀ H₀,MI (lI X scope C fp s₀ H₀ N') ifs tc)(he:∀C fp s₀ H₀,PE (lI X scope C fp s₀ H₀ N') elt te)
  (hsw:swapsWith (.ListComp elt [⟨tg,iter,ifs,0⟩] scope pos) (some (.Name y py)) spos.line X.env=pure true) (hs:∀x,foldedSetIterable iter X.env x=pure x:=by intro _;rfl) :
  PS X (.Assign [.Name y py] (.ListComp elt [⟨tg,iter,ifs,0⟩] scope pos) spos) (AH (wL X.K xs.length wi js tc te) (oH i)):=by
 intro pins s σ H D0 I h;rw [exec_Assign_Name_used _ _ _ _ hsw];refine wpAny_bind (wpAny_standAt (wpAny_bind ?_));show wpAny _ X.A (do let _ <-comprehension (.ListComp elt [⟨tg,iter,ifs,0⟩] scope pos) scope X.env _ (newList []) false (eval iter X.env) (some (assign (.Name y py) X.env))) _ _ s;refine wpAny_bind (wpAny_mono (wpAny_comprehension_free (use:=some (assign (.Name y py) X.env)) (Q:=λ_ s'=>SP X pins D0 .next s') rfl hs (kQ (S.cells I.ok)) S.kind S.names (wpAny_mono (hi pins s σ H _ I h) (λv s1 h1=>?_) λ_ _ e=>e)) (λ_ s' hq=>wpAny_pure (wpAny_pure hq)) λ_ _ e=>e);refine wpAny_mono h1 (λitv s2 ⟨it,fp,tn,J,H2,e,I2,T,t0,hf,R⟩=>?_) λ_ _ e=>e;subst e;refine vN (te:=wK te) (tc:=rO tc) (Q:=λv H'=>oH i v σ H' D0.nx) S I2 T t0 hf hg (λC fp s₀ H₀=>(ht C fp s₀ H₀).mono) (λC fp s₀ H₀=>(he C fp s₀ H₀).mono) (by unfold vO at R;exact R) ?_;intro D H3 s3 σ' H' s' I3 hf3 J3 q;obtain ⟨m,hm,_⟩:=J3.loc;have IX:cJ X pins σ H' s':=zT S I3 hf3 J3 (Heap.SameBut.refl ..);have hCL:s3.heap.objs.size≠X.env.locals:=λe=>by have:=I3.lt;rw [e] at this;exact bY _ this
 show wpAny _ X.A (assign (.Name y py) X.env (.ref D)) _ _ _;refine wpAny_assign_Name (tX IX hN hiN (.inl hy) (v:=.ref D) rfl (λs5 I5 hsb=>?_) (.inr hy));obtain ⟨a,hsb,ha⟩:=hsb;have hCa:s3.heap.objs.size≠a:=by
  rcases ha with rfl | ha
  ·exact hCL
  ·intro e;obtain ⟨v,o,eo,_⟩:=I3.cell y a ha;have:=aZ eo;rw [<-e] at this;exact bY _ this
 refine ⟨m,hm.sameBut hsb hCa,λh' hs'=>⟨_,H',?_,q⟩⟩;exact I5.turned (it:=s3.heap.objs.size) (t':=s5.toks) (λb o n e=>hs'.extBut b o n e) J3.free hCL (.inr I3.sz)
  (λz c hz e=>by
   obtain ⟨v,o,eo,_⟩:=I3.cell z c hz;have:=aZ eo;rw [e] at this;exact bY _ this)
  (λp hp e=>by
   have:=aZ (I3.pin p hp).1;rw [e] at this;exact bY _ this)
end
section
variable{X:Cx}{scope:Scope}{x1 x2 x3 y:Str}{N':List Str}{js:List Nat}{elt iter tg:Expr}{ifs:List Expr}{py pos spos:Pos}{tc:TT}{te:TE}{wi:TI}{i:Nat}
theorem CG{xs:List Str}{k:Nat}{x:Str}{p:Pos}(S:eJ X scope xs N' js)(h:xs[k]?=some x)(C:Addr)(fp:List Addr)(s₀:Shared)(H₀:Hp):XT (lI X scope C fp s₀ H₀ N') (.Name x p) (oH k) :=
 have l:=S.own x (aF h)
 cT S.nd (S.pre k x h) (.inl (lookup_relabel_local l)) (.inr (lookup_relabel_local l))
theorem MT{p1 p2 pt:Pos}{kk:Nat}(S:eJ X scope [x1,x2] N' js)(C:Addr)(fp:List Addr)(s₀:Shared)(H₀:Hp):XT (lI X scope C fp s₀ H₀ N') (.Tuple [.Name x1 p1,.Name x2 p2] kk pt) (gN X.K 2) :=
 rS rfl (fK (CG S rfl C fp s₀ H₀) (fK (CG S rfl C fp s₀ H₀) oT))
theorem MU{p1 p2 p3 pt:Pos}{kk:Nat}(S:eJ X scope [x1,x2,x3] N' js)(C:Addr)(fp:List Addr)(s₀:Shared)(H₀:Hp):XT (lI X scope C fp s₀ H₀ N') (.Tuple [.Name x1 p1,.Name x2 p2,.Name x3 p3] kk pt) (gN X.K 3) :=
 rS rfl (fK (CG S rfl C fp s₀ H₀) (fK (CG S rfl C fp s₀ H₀) (fK (CG S rfl C fp s₀ H₀) oT)))
theorem tU{p1 p2 pt:Pos}{kk:Nat}(S:eJ X scope [x1,x2] N' js)(hi:MJ X (.Tuple [.Name x1 p1,.Name x2 p2] kk pt) iter wi)(ht:∀C fp s₀ H₀,GV (lI X scope C fp s₀ H₀ N') ifs tc)(he:∀C fp s₀ H₀,gW (lI X scope C fp s₀ H₀ N') elt te)
  (hs:∀x,foldedSetIterable iter X.env x=pure x:=by intro _;rfl):gW X (.ListComp elt [⟨.Tuple [.Name x1 p1,.Name x2 p2] kk pt,iter,ifs,0⟩] scope pos) (wL X.K 2 wi js tc te) :=
 ⟨DH S hi.p (λC fp s₀ H₀=>(MT S C fp s₀ H₀).p) (λC fp s₀ H₀=>(ht C fp s₀ H₀).p) (λC fp s₀ H₀=>(he C fp s₀ H₀).p) hs⟩
theorem yS{p1 p2 p3 pt:Pos}{kk:Nat}(S:eJ X scope [x1,x2,x3] N' js)(hi:MJ X (.Tuple [.Name x1 p1,.Name x2 p2,.Name x3 p3] kk pt) iter wi)(ht:∀C fp s₀ H₀,GV (lI X scope C fp s₀ H₀ N') ifs tc)(he:∀C fp s₀ H₀,gW (lI X scope C fp s₀ H₀ N') elt te)
  (hs:∀x,foldedSetIterable iter X.env x=pure x:=by intro _;rfl):gW X (.ListComp elt [⟨.Tuple [.Name x1 p1,.Name x2 p2,.Name x3 p3] kk pt,iter,ifs,0⟩] scope pos) (wL X.K 3 wi js tc te) :=
 ⟨DH S hi.p (λC fp s₀ H₀=>(MU S C fp s₀ H₀).p) (λC fp s₀ H₀=>(ht C fp s₀ H₀).p) (λC fp s₀ H₀=>(he C fp s₀ H₀).p) hs⟩
theorem oS{p1 p2 pt:Pos}{kk:Nat}(S:eJ X scope [x1,x2] N' js)(hN:X.N.Nodup)(hiN:X.N[i]?=some y)(hy:X.env.kindOf y=some .local)(hi:MJ X (.Tuple [.Name x1 p1,.Name x2 p2] kk pt) iter wi)(ht:∀C fp s₀ H₀,GV (lI X scope C fp s₀ H₀ N') ifs tc)(he:∀C fp s₀ H₀,gW (lI X scope C fp s₀ H₀ N') elt te)
  (hsw:swapsWith (.ListComp elt [⟨.Tuple [.Name x1 p1,.Name x2 p2] kk pt,iter,ifs,0⟩] scope pos) (some (.Name y py)) spos.line X.env=pure true:=by rfl) (hs:∀x,foldedSetIterable iter X.env x=pure x:=by intro _;rfl) :
  FB X (.Assign [.Name y py] (.ListComp elt [⟨.Tuple [.Name x1 p1,.Name x2 p2] kk pt,iter,ifs,0⟩] scope pos) spos) (AH (wL X.K 2 wi js tc te) (oH i)) :=
 ⟨DG S hN hiN hy hi.p (λC fp s₀ H₀=>(MT S C fp s₀ H₀).p) (λC fp s₀ H₀=>(ht C fp s₀ H₀).p) (λC fp s₀ H₀=>(he C fp s₀ H₀).p) hsw hs⟩
end
def QM(psc scope:Scope)(N:List Str)(xs N':List Str)(js:List Nat):Bool :=
 (scope.names.all λy=>!(y.2 == .free) || psc.names.lookup y.1 == some .cell)&&(scope.names.all λy=>!(y.2 == .cell))&&scope.kind == .function &&
 (scope.names.all λy=>!(y.2 == .local) || scope.names.lookup y.1 == some .local)&&(xs.all λx=>scope.names.lookup x == some .local) &&
 (scope.names.all λy=>!(y.2 == .free) || !(scope.names.lookup y.1 == some .local))&&N'.length == xs.length+js.length&&N'.take xs.length == xs&&decide N'.Nodup &&
 ((List.range js.length).all λi=>match js[i]?,N'[xs.length+i]? with
  | some j,some y=>N[j]? == some y&&scope.names.contains (y,NameKind.free)
  | _,_=>false)
theorem eJ.of{X:Cx}{psc scope:Scope}{N:List Str}{xs N':List Str}{js:List Nat}(h:QM psc scope N xs N' js=true)(hX:X.env.scope=psc)(hN:X.N=N)(hc:X.calm=true):eJ X scope xs N' js:=by
 unfold QM at h;simp only [dL] at h;obtain ⟨⟨⟨⟨⟨⟨⟨⟨⟨h1,h2⟩,h3⟩,h4⟩,h5⟩,h6⟩,h7⟩,h8⟩,h9⟩,h10⟩:=h;rw [List.all_eq_true] at h1 h2 h4 h5 h6 h10;refine ⟨hc,λy hy e=>?_,λy hy e=>?_,by simpa using h3,λy hy e=>?_,λx hx=>by simpa using h5 x hx,λy hy e=>?_,by simpa using h7,λi x hx=>?_,of_decide_eq_true h9,λi j hj=>?_⟩
 ·have:=h1 y hy;rw [e] at this;show X.env.scope.names.lookup y.1=_;rw [hX];simpa using this
 ·have:=h2 y hy;rw [e] at this;simp at this
 ·have:=h4 y hy;rw [e] at this;simpa using this
 ·have:=h6 _ hy;rw [e] at this;simp at this
 ·have e8:N'.take xs.length=xs:=by simpa using h8
  have hi:i<xs.length:=(aI.mp hx).1;rw [<-hx]
  conv=>rhs;rw [<-e8]
  rw [List.getElem?_take,if_pos hi]
 ·have hi:i<js.length:=(aI.mp hj).1;have:=h10 i (bU.mpr hi);rw [hj] at this;cases q:N'[xs.length+i]? with
  | none=>rw [q] at this;simp at this
  | some y =>
   rw [q] at this;simp only [dL] at this;exact ⟨y,rfl,by rw [hN];simpa using this.1,List.contains_iff_mem.mp this.2⟩
theorem rB{α β:Type}{R:α->β->Prop}:∀{l:List α}{m:List β}{i:Nat}{b:β},Paired R l m->m[i]?=some b->∃a,l[i]?=some a/\R a b
 | _,_,_,_,.nil,h=>by simp at h
 | _,_,0,b,.cons h t,e=>⟨_,rfl,by cases (show _=b by simpa using e);exact h⟩
 | _,_,i+1,b,.cons h t,e=>by
  obtain ⟨a,h1,h2⟩:=rB t (i:=i) (by simpa using e);exact ⟨a,by simpa using h1,h2⟩
section
variable{js:List Nat}{te:TE}{tc:TT}{σ:St}{H:Hp}{Q:VK}
theorem LT{K:PySem.W.Frag}{n:Nat}{J:It}{α:Type}{as:List α}(p:α->Bool)(Src:α->V->Prop)(R:α->V->Hp->Prop)(hR:∀c y H1 H2,dC H1 H2->R c y H1->R c y H2)(hz:as.length<=100000)
  (hg:∀i H',aU H H'->i<as.length->J.go i H'/\∀x H3,J.yld i H' x H3->H3=H'/\∃c,as[i]?=some c/\Src c x) (hst:∀H',aU H H'->J.stop as.length H')
  (hs:∀x c H',c∈as->Src c x->aU H H'->∃a vs,x=.ref a/\jM K H' a vs/\vs.length=n/\(∀Q':Bool->Hp->Prop,(∀H5,aU H' H5->Q' (p c) H5)->tc (vs.map some++slots σ js) H' Q') /\
   ∀H5 (Q':VK),aU H' H5->p c=true->(∀y H6,aU H5 H6->R c y H6->Q' y H6)->te (vs.map some++slots σ js) H5 Q')
  (hd:∀D ys H',H D=none->H' D=some (.lst ys)->aU H H'->Paired (λc y=>R c y H') (as.filter p) ys->Q (.ref D) H'):vO K n J σ js tc te H Q:=by
 unfold vO;intro D hD;have mono:∀{H1 H2:Hp} {l:List α} {ys:List V},dC H1 H2->Paired (λc y=>R c y H1) l ys->Paired (λc y=>R c y H2) l ys:=by
  intro H1 H2 l ys s h
  induction h with
  | nil=>exact .nil
  | cons h t ih=>exact .cons (hR _ _ _ _ s h) ih
 have snoc:∀{H1:Hp} {l:List α} {ys:List V} {c:α} {y:V},Paired (λc y=>R c y H1) l ys->R c y H1->Paired (λc y=>R c y H1) (l++[c]) (ys++[y]):=by
  intro H1 l ys c y h r
  induction h with
  | nil=>exact .cons r .nil
  | cons h t ih=>exact .cons h ih
 refine ⟨λi m ys H'=>m=as.length-i/\i<=as.length/\H' D=some (.lst ys)/\aU H H'/\ys.length<=i/\Paired (λc y=>R c y H') ((as.take i).filter p) ys,⟨as.length,by simp,cG _,bK,aU.upd hD,aL _,.nil⟩,?_⟩;rintro i m ys H2 ⟨rfl,hi,hD2,s2,hy,pr⟩;refine ⟨hD2,?_⟩;by_cases hlt:i<as.length
 ·obtain ⟨hgo,hyl⟩:=hg i H2 s2 hlt;refine .inr ⟨hgo,bA (m:=100000) Oo Dd,λx H3 hy3=>?_⟩;obtain ⟨rfl,c,hc,rc⟩:=hyl x H3 hy3;have hti:as.take (i+1)=as.take i++[c]:=by rw [eP,hc];rfl
  obtain ⟨a,vs,e,hq,hl,ht,he⟩:=hs x c H3 (aF hc) rc s2;refine ⟨a,vs,e,hq,hl,λb H4=>b=p c/\aU H3 H4,ht _ λH5 s5=>⟨rfl,s5⟩,?_⟩;rintro b H4 ⟨rfl,s4⟩;by_cases hp:p c=true
  ·rw [if_pos hp];refine ⟨λy H5=>aU H4 H5/\R c y H5,he H4 _ s4 hp λy H6 s6 r=>⟨s6,r⟩,?_⟩;rintro y H5 ⟨s5,r⟩;have e5:=s5 _ _ (s4 _ _ hD2);refine ⟨e5,_,?_,rfl,hlt,bK,aU.thru hD ((s2.trans s4).trans s5) aR.self,?_,?_⟩
   ·omega
   ·rw [aP,List.length_singleton];omega
   ·rw [hti,List.filter_append,show List.filter p [c]=[c] by simp [hp]];have t6:dC H5 (upd H5 D (.lst (ys++[y]))):=aR.t aR.self e5;exact mono t6 (snoc (mono (s4.trans s5).t pr) r)
  ·rw [if_neg hp];refine ⟨s4 _ _ hD2,_,?_,rfl,hlt,s4 _ _ hD2,s2.trans s4,Oo,?_⟩
   ·omega
   ·rw [hti,List.filter_append,show List.filter p [c]=[] by simp [hp],List.append_nil];exact mono s4.t pr
 ·have e:i=as.length:=Oo;subst e;refine .inl ⟨hst H2 s2,hd D ys H2 hD hD2 s2 ?_⟩;rw [cN] at pr;exact pr
theorem uS{K:PySem.W.Frag}{n:Nat}{a0:Addr}{xs:List V}{α:Type}{as:List α}(p:α->Bool)(Src:α->V->Prop)(R:α->V->Hp->Prop)(hR:∀c y H1 H2,dC H1 H2->R c y H1->R c y H2)(hz:as.length<=100000)(ha:H a0=some (.lst xs))(pr:Paired Src as xs)
  (hs:∀x c H',c∈as->Src c x->aU H H'->∃a vs,x=.ref a/\jM K H' a vs/\vs.length=n/\(∀Q':Bool->Hp->Prop,(∀H5,aU H' H5->Q' (p c) H5)->tc (vs.map some++slots σ js) H' Q') /\
   ∀H5 (Q':VK),aU H' H5->p c=true->(∀y H6,aU H5 H6->R c y H6->Q' y H6)->te (vs.map some++slots σ js) H5 Q')
  (hd:∀D ys H',H D=none->H' D=some (.lst ys)->aU H H'->Paired (λc y=>R c y H') (as.filter p) ys->Q (.ref D) H'):vO K n (XU K a0) σ js tc te H Q:=by
 have hl:xs.length=as.length:=pr.length.symm;refine LT p Src R hR hz (λi H' s hi=>⟨⟨xs,xs[i]'Oo,fI.of (s _ _ ha),by simp⟩,λx H3 y=>⟨y.1,?_⟩⟩) (λH' s=>⟨xs,fI.of (s _ _ ha),Oo⟩) hs hd;have hx:=y.2 xs (fI.of (s _ _ ha));obtain ⟨c,h1,h2⟩:=rB pr hx;exact ⟨c,h1,h2⟩
end
end L2
namespace L2
open PySem
section
variable{js:List Nat}{te:TE}{σ:St}{H:Hp}{Q:VK}
theorem oJ{K:PySem.W.Frag}{b1 b2:Bool}{l1 l2:Addr}{xs ys:List V}(R:Nat->V->Hp->Prop)(hR:∀i y H1 H2,dC H1 H2->R i y H1->R i y H2)(hz:xs.length<=100000)(h1:H l1=some (CC b1 xs))(h2:H l2=some (CC b2 ys))(hl:xs.length=ys.length)
  (hs:∀i x y H' (Q':VK),xs[i]?=some x->ys[i]?=some y->aU H H'->(∀z H6,aU H' H6->R i z H6->Q' z H6)->te (some x::some y::slots σ js) H' Q')
  (hd:∀D zs H',H D=none->H' D=some (.lst zs)->aU H H'->zs.length=xs.length->(∀(i:Nat) (z:V),zs[i]?=some z->R i z H')->Q (.ref D) H'):vO K 2 (Itz b1 b2 l1 l2) σ js yG te H Q:=by
 unfold vO;intro D hD;refine ⟨λi m zs H'=>m=xs.length-i/\i<=xs.length/\zs.length=i/\H' D=some (.lst zs)/\aU H H'/\∀(i:Nat) (z:V),zs[i]?=some z->R i z H',⟨xs.length,by simp,cG _,rfl,bK,aU.upd hD,λi z h=>by simp at h⟩,?_⟩;rintro i m zs H2 ⟨rfl,hi,hy,hD2,s2,hr⟩;refine ⟨hD2,?_⟩;by_cases hlt:i<xs.length
 ·have hx:xs[i]?=some xs[i]:=aB Oo;have hy':ys[i]?=some (ys[i]'Oo):=aB Oo;refine .inr ⟨⟨xs,ys,_,_,s2 _ _ h1,s2 _ _ h2,hx,hy'⟩,bA (m:=100000) Oo Dd,λv H3 y=>?_⟩;obtain ⟨q,x,y,rfl,hq,rfl,hh⟩:=y;obtain ⟨g1,g2⟩:=hh xs ys (s2 _ _ h1) (s2 _ _ h2);have s3:=aU.upd (o:=.tup [x,y]) hq;have e3:(upd H2 q (.tup [x,y])) q=some (.tup [x,y]):=bK;generalize upd H2 q (.tup [x,y])=H3 at s3 e3;refine ⟨q,[x,y],rfl,jM.of e3,rfl,λb H4=>b=true/\H4=H3,⟨rfl,rfl⟩,?_⟩;rintro b H4 ⟨rfl,rfl⟩;rw [if_pos rfl];refine ⟨λz H5=>aU H4 H5/\R i z H5,hs i x y H4 _ g1 g2 (s2.trans s3) λz H6 s6 r=>⟨s6,r⟩,?_⟩;rintro z H5 ⟨s5,r⟩;have e5:=s5 _ _ (s3 _ _ hD2);have t6:dC H5 (upd H5 D (.lst (zs++[z]))):=aR.t aR.self e5;refine ⟨e5,xs.length-(i+1),Oo,rfl,hlt,by rw [aP,hy];rfl,bK,aU.thru hD ((s2.trans s3).trans s5) aR.self,?_⟩;exact wV (R:=λj z=>R j z _) (λj w hj=>hR j w _ _ ((s3.trans s5).t.trans t6) (hr j w hj)) (by rw [hy];exact hR i z _ _ t6 r)
 ·have e:i=xs.length:=Oo;subst e;exact .inl ⟨⟨xs,ys,s2 _ _ h1,s2 _ _ h2,.inl (aL _)⟩,hd D zs H2 hD hD2 s2 hy hr⟩
end
theorem Paired.ofRepL{H:Hp}{α:Type}{g:α->PyData}:∀{as:List α}{xs:List V},aT H (as.map g) xs->Paired (λa x=>cA H (g a) x) as xs
 | [],xs,r=>by
  unfold aT at r;cases (show xs=[] from r);exact .nil
 | a::as,xs,r=>by
  rw [bL] at r;unfold aT at r;obtain ⟨x,xs',rfl,r1,r2⟩:=r;exact .cons r1 (Paired.ofRepL r2)
theorem Paired.toRepL{H:Hp}{α:Type}{g:α->PyData}:∀{as:List α}{xs:List V},Paired (λa x=>cA H (g a) x) as xs->aT H (as.map g) xs
 | _,_,.nil=>aT.nil
 | _,_,.cons h t=>aT.cons h (Paired.toRepL t)
section
variable{X:Cx}{scope:Scope}{x1 x2 x3 y:Str}{N':List Str}{js:List Nat}{elt iter tg:Expr}{ifs:List Expr}{py pos spos:Pos}{tc:TT}{te:TE}{wi wj:TI}{i:Nat}
end
end L2
namespace L2
open PySem PySem.Spec PyProof.Rows
section
variable{X:Cx}
@[irreducible] def II(K:PySem.W.Frag):R2:=λx y H Q=>∃a b xs ys,x=.ref a/\y=.ref b/\H a=some (.tup xs)/\H b=some (.tup ys)/\xs.length+ys.length<=1000/\∀c H',aU H H'->H' c=some (.tup (xs++ys))->Q (.ref c) H'
theorem VP{K:PySem.W.Frag}{H:Hp}{Q:VK}{a b:Addr}{xs ys:List V}(h1:H a=some (.tup xs))(h2:H b=some (.tup ys))(hz:xs.length+ys.length<=1000)(k:∀c H',aU H H'->H' c=some (.tup (xs++ys))->Q (.ref c) H'):II K (.ref a) (.ref b) H Q:=by
 unfold II;exact ⟨a,b,xs,ys,rfl,rfl,h1,h2,hz,k⟩
theorem vW(K:PySem.W.Frag)(hK:X.K=K:=by rfl):vB X (binaryOp .Add) (II K):=by
 subst hK;unfold II;intro pins s σ H x y v u Q I rx ry h;obtain ⟨a,b,xs,ys,rfl,rfl,ha,hb,hz,q⟩:=h;by_cases hx:xs=[]
 ·cases rx;cases ry;subst hx;obtain ⟨its,r1,p1,_⟩:=I.tuple (jM.of ha);obtain ⟨its2,r2,p2,_⟩:=I.tuple (jM.of hb);cases r1;obtain ⟨⟨cls,dd,data,sl⟩,ho,hc,n,hd⟩:=id p1;obtain ⟨⟨cls2,dd2,data2,sl2⟩,ho2,hc2,n2,hd2⟩:=id p2;simp only at hc hd hc2 hd2;subst hc hd hc2 hd2;exact concat_meets ⟨_,ho,rfl⟩ ⟨_,ho2,rfl⟩ noFill_tuple_add seq_tuple_add PySem.F.slot_tuple_add PySem.F.entry_tuple_add (PySem.F.args_tuple_add_2 _ _)
   (tuple_addW0 a b _ _ n n2 dd dd2 sl sl2 rfl) ⟨ho,ho2,⟨.ref b,H,I,rfl,q b H (aU.refl _) hb⟩⟩
 ·refine UQ pins s σ H _ _ v u Q I rx ry ⟨a,b,xs,ys,rfl,rfl,jM.of ha,jM.of hb,hx,aK hz Dd,λe=>?_,λ_ p hp=>q p _ (aU.upd hp) bK⟩;subst e;exact q a H (aU.refl _) (by rw [List.append_nil];exact ha)
@[irreducible] def TU:V->List V->Hp->VK->Prop:=λx vs H Q=>∃a,∃(ns:List Int) (m:Int),x=.ref a/\vs=[.int m]/\H a=some (.tup (ns.map V.int))/\Q (.int (ns.count m:Nat)) H
theorem aB8{H:Hp}{a:Addr}{ns:List Int}{m:Int}{Q:VK}(h:H a=some (.tup (ns.map V.int)))(q:Q (.int (ns.count m:Nat)) H):TU (.ref a) [.int m] H Q:=by
 unfold TU;exact ⟨a,ns,m,rfl,rfl,h,q⟩
theorem vL{m:Int}:∀{ns:List Int}{us:List Value},dI (ns.map V.int) us->us.countP (XI (.int m))=ns.count m
 | [],_,h=>by cases h;rfl
 | n::ns,_,h=>by
  cases h with
  | cons r hr =>
   obtain ⟨t,rfl⟩:=r;rw [List.countP_cons,vL hr,List.count_cons];have e:XI (.int m) (.int n t)=(n == m):=by
    show QE (.int n) (.int m)=_;simp [QE]
   rw [e]
theorem OY:RP X "tuple.count" TU:=by
 unfold TU;intro pins s σ H x vs v us Q I rx rv h;obtain ⟨a,ns,m,rfl,rfl,hH,q⟩:=h;cases rx;obtain ⟨u,rfl,ru⟩:=mS rv;obtain ⟨t,rfl⟩:=(show ∃t,u=Value.int m t from ru);obtain ⟨its,r,p,_⟩:=I.tuple (jM.of hH);obtain ⟨⟨cls,dd,data,sl⟩,ho,hc,n,hd⟩:=id p;simp only at hc hd;subst hc hd;have fl:∀ns:List Int,(ns.map V.int).all qN=true:=λns=>by induction ns with | nil=>rfl | cons a l ih=>show (qN (V.int a)&&(l.map V.int).all qN)=true;rw [ih];rfl
 refine call_meets F.slot_tuple_count ⟨_,ho,rfl⟩ F.entry_tuple_count (F.args_tuple_count_2 _ _) (SeqAt.tuple_countAt a its.toArray n dd sl (.int m t) (XI (.int m))) ⟨ho,λy hy=>xF (x:=.int m) ⟨t,rfl⟩ rfl r (fl ns) y (by simpa using hy),?_⟩;rw [show its.toArray.toList=its from rfl,vL r];exact ⟨.int _,H,I.tok _,⟨_,rfl⟩,q⟩
end
section
variable{X:Cx}
end
@[irreducible] def TN:V->List V->Hp->VK->Prop:=IH
theorem GG{X:Cx}:RP X "list.extend" TN:=by unfold TN;exact LA
theorem aAS{H:Hp}{l b:Addr}{xs zs:List V}{Q:VK}(h:H l=some (.lst xs))(h2:H b=some (.lst zs))(hz:xs.length+zs.length<=1000)(k:∀H',H' l=some (.lst (xs++zs))->aR l H H'->Q .non H'):TN (.ref l) [.ref b] H Q:=by
 unfold TN;exact ⟨l,b,xs,zs,rfl,rfl,h,h2,Nat.le_of_lt (tZ hz),k _ bK aR.self⟩
section
variable{prog:Program}{w:World}{A:Around}{E:Value->Shared->Prop}{s:Shared}{l:Addr}{xs:Array (Int × Tok)}
theorem NM{Q:Value->Shared->Prop}(hh:A.handled=none)(hl:s.heap.IsTuple l (intItems xs))
  (h:∀h' tk t',(∀b o,s.heap.get? b=some o->h'.get? b=some o)->Q (.int (preSum (numAt xs) xs.size) t') { s with heap:=h',toks:=tk }) :
  wpAny (model prog w) A (call (.builtin "sum") [.ref l]) Q E s:=by
 have hlt:l<s.heap.objs.size:=by obtain ⟨_,e,_⟩:=hl;exact aZ e
 refine call_sum_walkG (wpAny_pyIter_tuple hl ?_);refine ⟨_,[_,l],[_],_,_,_,numAt xs,rfl,Walks.tuple (A:=A.in1) hh _ l (cR hlt) (intItems xs),⟨⟨_,bB _ rfl,rfl,rfl⟩,hl.push _⟩,λc hc=>?_,(λ_ _=>intItems_at),λh' tk t' hk=>?_⟩
 ·show c<(s.heap.push _).objs.size;rw [gU];rcases bF.mp hc with rfl | hc
  ·exact Nat.lt_succ_self _
  ·rcases bF.mp hc with rfl | hc
   ·exact Nat.lt_succ_of_lt hlt
   ·cases hc
 ·have:=h h' tk t' λc o e=>by
   refine hk c o (λhm=>?_) (aE _ e);rcases bF.mp hm with e1 | hm
   ·exact absurd (e1 ▸ aZ e) (bY _)
   ·cases hm
  simpa [intItems] using this
end
@[irreducible] def IC(K:PySem.W.Frag):List V->Hp->VK->Prop:=λxs H Q=>∃(p:Addr) (ns:List Int),xs=[.ref p]/\jM K H p (ns.map V.int)/\Q (.int ns.sum) H
theorem rsT{K:PySem.W.Frag}{H:Hp}{p:Addr}{ns:List Int}{Q:VK}(h:jM K H p (ns.map V.int))(q:Q (.int ns.sum) H):IC K [.ref p] H Q:=by unfold IC;exact ⟨p,ns,rfl,h,q⟩
theorem wA{X:Cx}(K:PySem.W.Frag)(hc:X.calm=true)(hK:X.K=K:=by rfl):lE X (.builtin "sum") (IC K):=by
 subst hK;unfold IC;intro pins s σ H xs us Q I r h;obtain ⟨p,ns,rfl,hq,q⟩:=h;obtain ⟨u,rfl,rx⟩:=mS r;cases rx;obtain ⟨its,r',pl,hz⟩:=I.tuple hq;have hi:=sC r';obtain ⟨xs',e⟩:=hi.allInts.items;rw [e] at pl;refine NM (I.ok.hd hc) pl λh' tk t' hk=>⟨.int ns.sum,H,I.kept hk,⟨t',?_⟩,q⟩;rw [preSum_eq,List.take_of_length_le (by simp)];rw [<-hi.numsOf];have e2:its=(intItems xs').toList:=by rw [<-e]
 rw [e2,nums_intItems]
section
variable{js:List Nat}{te:TE}{tc:TT}{σ:St}{H:Hp}{Q:VK}
theorem aT.atI{α:Type}{g:α->PyData}:∀{as:List α}{xs:List V},aT H (as.map g) xs->∀{i:Nat}{x:V},xs[i]?=some x->∃a,as[i]?=some a/\cA H (g a) x:=by
 intro as xs r i x e;obtain ⟨d,h1,h2⟩:=r.get e;rw [aN] at h1;cases q:as[i]? with
 | none=>rw [q] at h1;cases h1
 | some a=>rw [q] at h1;cases h1;exact ⟨a,rfl,h2⟩
theorem LQ{K:PySem.W.Frag}{a:Addr}{xs:List V}{α:Type}{g:α->PyData}{as:List α}(r:aT H (as.map g) xs)(p:α->Bool)(hz:xs.length<=100000)(hl:H a=some (.lst xs))
  (ht:∀x c H' (Q':Bool->Hp->Prop),c∈as->cA H' (g c) x->aU H H'->(∀H5,aU H' H5->Q' (p c) H5)->tc (some x::slots σ js) H' Q')
  (he:∀x H' (Q':VK),Q' x H'->te (some x::slots σ js) H' Q')
  (hd:∀D ys H',H D=none->H' D=some (.lst ys)->aU H H'->aT H' ((as.filter p).map g) ys->Q (.ref D) H'):oR (XU K a) σ js tc te H Q:=by
 unfold oR;intro D hD;have hlen:xs.length=as.length:=by rw [r.len,aA]
 refine ⟨λi m ys H'=>m=xs.length-i/\i<=xs.length/\H' D=some (.lst ys)/\aU H H'/\aT H (((as.take i).filter p).map g) ys/\ys.length<=i,⟨xs.length,by simp,cG _,bK,aU.upd hD,aT.nil,aL _⟩,?_⟩;rintro i m ys H2 ⟨rfl,hi,hD2,s2,ry,hy⟩;refine ⟨hD2,?_⟩;by_cases hlt:i<xs.length
 ·have hx:xs[i]?=some xs[i]:=aB hlt;refine .inr ⟨⟨xs,_,fI.of (s2 _ _ hl),hx⟩,bA (m:=100000) Oo Dd,λx H3 hy3=>?_⟩;obtain ⟨rfl,hx3⟩:=hy3;have hx3:=hx3 xs (fI.of (s2 _ _ hl));obtain ⟨c,hc,rc⟩:=r.atI hx3;have hti:as.take (i+1)=as.take i++[c]:=by rw [eP,hc];rfl
  refine ⟨λb H4=>b=p c/\aU H3 H4,ht x c H3 _ (aF hc) (rc.same s2) s2 λH5 s5=>⟨rfl,s5⟩,?_⟩;rintro b H4 ⟨rfl,s4⟩;by_cases hp:p c=true
  ·rw [if_pos hp];refine ⟨λy H5=>y=x/\H5=H4,he x H4 _ ⟨rfl,rfl⟩,?_⟩;rintro y H5 ⟨rfl,rfl⟩;refine ⟨s4 _ _ hD2,_,?_,rfl,hlt,bK,aU.thru hD (s2.trans s4) aR.self,?_,?_⟩
   ·omega
   ·rw [hti,List.filter_append,bE];have:List.filter p [c]=[c]:=by simp [hp]
    rw [this];exact aT.snoc ry rc
   ·rw [aP,List.length_singleton];omega
  ·rw [if_neg hp];refine ⟨s4 _ _ hD2,_,?_,rfl,hlt,s4 _ _ hD2,s2.trans s4,?_,?_⟩
   ·omega
   ·rw [hti,List.filter_append];have:List.filter p [c]=[]:=by simp [hp]
    rw [this,List.append_nil];exact ry
   ·omega
 ·have e:i=xs.length:=Oo;subst e;refine .inl ⟨⟨xs,fI.of (s2 _ _ hl),aL _⟩,hd D ys H2 hD hD2 s2 ?_⟩;rw [hlen,cN] at ry;exact ry.same s2
end
theorem HG{X:Cx}{e:Expr}{t:TT}(h:MB X e t):MB X e (rO t):=⟨h.p.mono⟩
end L2
namespace HT
open PySem PyProof.Rows
section
variable{prog:Program}{w:World}{A:Around}{E:Value->Shared->Prop}{s:Shared}
theorem rL{t sl:Addr}{items:Array Value}{vl vu:Value}{lo hi:Option Int}{Q:Value->Shared->Prop}(ht:IsTup s.heap t items)(hs:s.heap.IsSliceOf sl vl vu .none)(pl:IsPart vl lo)(pu:IsPart vu hi)
  (h0:iW items.size 0 lo=0) (h1:iW items.size items.size hi=items.size) (h:Q (.ref t) s):wpAny (model prog w) A (getItem (.ref t) (.ref sl)) Q E s:=by
 obtain ⟨os,hos,hcs,hds⟩:=id hs;have hTs:s.TypeIs (.ref sl) "slice" := ⟨os,hos,hcs⟩;have hTt:s.TypeIs (.ref t) "tuple" := ht.typeIs;unfold getItem
 try with_reducible refine wpAny_holding ?_
 first | refine wpAny_bind (wpAny_pure ?_) | skip
 refine wpAny_bind (wpAny_sequenceKey ht.typeIs Dd ?_);refine wpAny_bind (wpAny_callSpecial?_slot (name:=Str.ofString "__getitem__") ht.typeIs PyProof.Rows.slot_tuple_getitem
  (wpAny_call_entry PyProof.Rows.slot_tuple_getitem ht.typeIs entry_tuple_getitem ?_ (args_tuple_getitem _ _)))
 show wpAny _ _ (Builtin.Tuple.tupleItemsOf (.ref t) >>= _) _ _ s;refine wpAny_bind (tupleItemsOf_ ht ?_);refine wpAny_bind (wpAny_typeOf hTs ?_);rw [if_pos Dd];refine wpAny_bind (oB hs pl pu ?_);have hyes:(((iW items.size 0 lo:Nat):Int) == 0&&(1:Int) == 1&&(iW items.size items.size hi-iW items.size 0 lo) == items.size)=true:=by
  rw [h0,h1];simp
 show wpAny _ _ (if (((iW items.size 0 lo:Nat):Int) == 0&&(1:Int) == 1&&(iW items.size items.size hi-iW items.size 0 lo) == items.size)=true then _ else _) _ _ s;rw [if_pos hyes];unfold Builtin.Tuple.tupleIsExact;refine wpAny_bind (wpAny_bind (wpAny_typeOf hTt (wpAny_pure ?_)));rw [if_pos Dd];refine wpAny_bind (wpAny_rule ?_)
 first
  | exact wpAny_pure ⟨_,rfl,wpAny_pure h⟩
  | exact wpAny_bind (wpAny_pure (wpAny_pure ⟨_,rfl,wpAny_pure h⟩))
end
end HT
namespace L2
open PySem PySem.W PySem.Spec PySem.Calls PyProof.Rows
theorem GP{xs:List V}{lo hi:Option Int}(h0:HT.iW xs.length 0 lo=0)(h1:HT.iW xs.length xs.length hi=xs.length):lC xs lo hi=xs:=by
 unfold lC;rw [h0,h1];simp
section
variable{X:Cx}
@[irreducible] def GA(K:PySem.W.Frag):V->Option Int->Option Int->Hp->VK->Prop:=λx lo hi H Q=>∃a xs,x=.ref a/\H a=some (.tup xs)/\∀c H',aU H H'->H' c=some (.tup (lC xs lo hi))->Q (.ref c) H'
theorem HY(K:PySem.W.Frag)(hK:X.K=K:=by rfl):SlR X (GA K):=by
 unfold GA;subst hK;intro pins s σ H x v vl vu lo hi sl Q I rx hs pl pu h;obtain ⟨a,xs,rfl,hx,q⟩:=h;by_cases hw:HT.iW xs.length 0 lo=0/\HT.iW xs.length xs.length hi=xs.length
 ·cases rx;obtain ⟨its,r,ht,hz⟩:=I.tuple (jM.of hx);have hlen:its.toArray.size=xs.length:=by rw [bC];exact r.length.symm
  refine ⟨"tuple",_,PyProof.Rows.slot_tuple_getitem.lookup,ht.typeIs,?_⟩;refine HT.rL ht hs pl pu (by rw [hlen];exact hw.1) (by rw [hlen];exact hw.2) ?_;exact ⟨.ref a,H,I,rfl,q a H (aU.refl _) (by rw [GP hw.1 hw.2];exact hx)⟩
 ·exact YO pins s σ H (.ref a) v vl vu lo hi sl Q I rx hs pl pu ⟨a,xs,rfl,jM.of hx,hw,λp hp=>q p _ (aU.upd hp) bK⟩
theorem YR{K:PySem.W.Frag}{H:Hp}{a:Addr}{xs:List V}{k:Nat}{Q:VK}(h:H a=some (.tup xs))(q:∀c H',aU H H'->H' c=some (.tup (xs.take k))->Q (.ref c) H'):GA K (.ref a) none (some (k:Int)) H Q:=by
 unfold GA;exact ⟨a,xs,rfl,h,λc H' s e=>q c H' s (by rw [e,JD])⟩
theorem YQ{K:PySem.W.Frag}{H:Hp}{a:Addr}{xs:List V}{k:Nat}{Q:VK}(h:H a=some (.tup xs))(q:∀c H',aU H H'->H' c=some (.tup (xs.drop k))->Q (.ref c) H'):GA K (.ref a) (some (k:Int)) none H Q:=by
 unfold GA;exact ⟨a,xs,rfl,h,λc H' s e=>q c H' s (by rw [e,JC])⟩
end
end L2
namespace HT
open PySem PySem.W PyProof.Rows
def dD{α:Type}(n:Nat)(lt:Nat->Nat->Bool)(R:α->Prop):KasT α->Prop
 | .ret a=>R a
 | .ask i j k=>i<n/\j<n/\dD n lt R (k (lt i j))
section
variable{n:Nat}{lt:Nat->Nat->Bool}
theorem dD.bind{α β:Type}{R:α->Prop}{S:β->Prop}{f:α->KasT β}:∀{t:KasT α},dD n lt R t->(∀a,R a->dD n lt S (f a))->dD n lt S (t.bind f)
 | .ret a,h,k=>k a h
 | .ask i j t,⟨h1,h2,h3⟩,k=>⟨h1,h2,dD.bind (t:=t (lt i j)) h3 k⟩
theorem dD.wp{α:Type}{R:α->Prop}{cmp:Nat->Nat->(Bool->Shared->Prop)->Shared->Prop}{Q:α->Shared->Prop}{s:Shared}(hc:∀i j C,i<n->j<n->C (lt i j) s->cmp i j C s)(q:∀a,R a->Q a s) :
  ∀{t:KasT α},dD n lt R t->t.kasWp cmp Q s
 | .ret a,h=>q a h
 | .ask i j t,⟨h1,h2,h3⟩=>hc i j _ h1 h2 (dD.wp (t:=t (lt i j)) hc q h3)
def gE(n:Nat)(p:Array Nat):Prop:=p.Perm (List.toArray (List.range n))
theorem gE.bd{p:Array Nat}(g:gE n p)(hn:0<n)(i:Nat):p.getD i 0<n:=by
 by_cases hi:i<p.size
 ·have e:p.getD i 0=p[i]:=by simp [Array.getD,hi]
  rw [e];have m:p[i]∈List.toArray (List.range n):=(Array.Perm.mem_iff g).mp (Array.getElem_mem hi);simpa using m
 ·have e:p.getD i 0=0:=by simp [Array.getD,hi]
  rw [e];exact hn
theorem gE.rev{p:Array Nat}(g:gE n p)(i j:Nat):gE n (kas_rev p i j):=(mirror_perm p i j _).trans g
theorem gE.bub{p:Array Nat}(g:gE n p)(i j:Nat):gE n (bubble p i j):=(bubble_perm p i j).trans g
theorem BX{p:Array Nat}(g:gE n p)(hn:0<n):∀(f m:Nat),dD n lt (λ_=>True) (kas_asc p f m)
 | 0,m=>True.intro
 | f+1,m=>⟨g.bd hn _,g.bd hn _,by
  cases lt (p.getD m 0) (p.getD (m-1) 0) with
  | true=>exact True.intro
  | false=>exact BX g hn f (m+1)⟩
theorem tM(hn:0<n):∀(f:Nat) {p:Array Nat}(g:gE n p) (m q:Nat),dD n lt (λr=>gE n r.1) (kas_desc f p m q)
 | 0,p,g,m,q=>g
 | f+1,p,g,m,q=>by
  refine ⟨g.bd hn _,g.bd hn _,?_⟩;cases lt (p.getD m 0) (p.getD (m-1) 0) with
  | true =>
   show dD n lt _ (if q > 0 then _ else _);split
   ·exact tM hn f (g.rev _ _) _ _
   ·exact tM hn f g _ _
  | false =>
   refine ⟨g.bd hn _,g.bd hn _,?_⟩;cases lt (p.getD (m-1) 0) (p.getD m 0) with
   | true=>exact g
   | false=>exact tM hn f g _ _
theorem zZ{p:Array Nat}(g:gE n p)(hn:0<n)(m r:Nat):dD n lt (λr=>gE n r.2) (kas_tail3 m r p):=by
 unfold kas_tail3;exact (BX (g.rev 0 m) hn _ _).bind λ_ _=>g.rev 0 m
theorem tL{p:Array Nat}(g:gE n p)(hn:0<n)(m r:Nat):dD n lt (λr=>gE n r.2) (kas_descPart m r p):=by
 unfold kas_descPart;refine (tM hn _ g _ _).bind λr hr=>?_;split
 ·exact zZ (gE.rev hr _ _) hn _ _
 ·exact zZ hr hn _ _
theorem MA{p:Array Nat}(g:gE n p)(hn:0<n)(m:Nat):dD n lt (λr=>gE n r.2) (kas_count m p):=by
 unfold kas_count;refine (BX g hn _ _).bind λk _=>?_;split
 ·exact g
 ·split
  ·refine ⟨g.bd hn _,g.bd hn _,?_⟩;cases lt (p.getD 0 0) (p.getD (k-1) 0) with
   | true=>exact g
   | false=>exact tL (g.rev _ _) hn _ _
  ·exact tL g hn _ _
theorem uY{p:Array Nat}(g:gE n p)(hn:0<n)(k:Nat):∀(f l r:Nat),dD n lt (λ_=>True) (kas_place p k f l r)
 | 0,l,r=>True.intro
 | f+1,l,r=>by
  unfold kas_place;split
  ·exact True.intro
  ·refine ⟨g.bd hn _,g.bd hn _,?_⟩;cases lt (p.getD k 0) (p.getD ((l+r)/2) 0) with
   | true=>exact uY g hn k f _ _
   | false=>exact uY g hn k f _ _
theorem JJ(hn:0<n):∀(f:Nat) {p:Array Nat}(g:gE n p) (k:Nat),dD n lt (gE n) (kas_bin f p k)
 | 0,p,g,k=>g
 | f+1,p,g,k=>by
  unfold kas_bin;exact (uY g hn k _ _ _).bind λl _=>JJ hn f (g.bub _ _) _
theorem QY(hn:0<n):dD n lt (gE n) (kas_sort n):=by
 unfold kas_sort;refine (MA (Array.Perm.refl _) hn n).bind λr hr=>?_;split
 ·exact JJ hn _ hr _
 ·exact hr
end
structure EV(n:Nat)(lt:Nat->Nat->Bool):Prop where
 tot:∀i j,i<n->j<n->i≠j->lt i j=false->lt j i=true
 tra:∀i j k,lt i j=true->lt j k=true->lt i k=true
def yP(lt:Nat->Nat->Bool)(p:Array Nat)(m:Nat):Prop:=∀a b,a<b->b<m->lt (p.getD a 0) (p.getD b 0)=true
def XV(lt:Nat->Nat->Bool)(p:Array Nat)(m:Nat):Prop:=∀a b,a<b->b<m->lt (p.getD b 0) (p.getD a 0)=true
section
variable{n:Nat}{lt:Nat->Nat->Bool}
theorem dD.mono{α:Type}{R S:α->Prop}(k:∀a,R a->S a):∀{t:KasT α},dD n lt R t->dD n lt S t
 | .ret a,h=>k a h
 | .ask i j t,⟨h1,h2,h3⟩=>⟨h1,h2,dD.mono k (t:=t (lt i j)) h3⟩
theorem gE.size{p:Array Nat}(g:gE n p):p.size=n:=by
 have:=(Array.perm_iff_toList_perm.mp g).length_eq;simpa using this
theorem gE.ne{p:Array Nat}(g:gE n p){i j:Nat}(hi:i<n)(hj:j<n)(h:i≠j):p.getD i 0≠p.getD j 0:=by
 have hn:p.toList.Nodup:=(Array.perm_iff_toList_perm.mp g).nodup_iff.mpr (by simpa using List.nodup_range);have hs:=g.size;have e1:p.getD i 0=p.toList[i]'(by simpa [hs] using hi):=by simp [Array.getD,hs,hi]
 have e2:p.getD j 0=p.toList[j]'(by simpa [hs] using hj):=by simp [Array.getD,hs,hj]
 rw [e1,e2];intro e;exact h ((List.getElem_inj hn).mp e)
theorem yP.one{p:Array Nat}:yP lt p 1:=λa b h1 h2=>Oo
theorem yP.more(O:EV n lt){p:Array Nat}(g:gE n p){m:Nat}(h:yP lt p m)(h1:1<=m)(hm:m<n)(e:lt (p.getD m 0) (p.getD (m-1) 0)=false):yP lt p (m+1):=λa b hab hb=>by
 by_cases q:b<m
 ·exact h a b hab q
 ·have e':b=m:=Oo;subst e';have l1:lt (p.getD (b-1) 0) (p.getD b 0)=true:=O.tot _ _ (g.bd Oo _) (g.bd Oo _) (g.ne Oo Oo Oo) e;by_cases r:a=b-1
  ·rw [r];exact l1
  ·exact O.tra _ _ _ (h a (b-1) Oo Oo) l1
theorem BW(O:EV n lt){p:Array Nat}(g:gE n p):∀(f m:Nat),1<=m->m+f<=n->yP lt p m->dD n lt (λk=>m<=k/\k<=m+f/\yP lt p k/\(k<m+f->lt (p.getD k 0) (p.getD (k-1) 0)=true)) (kas_asc p f m)
 | 0,m,_,_,h=>⟨aL _,aL _,h,λq=>Oo⟩
 | f+1,m,h1,hm,h=>by
  refine ⟨g.bd Oo _,g.bd Oo _,?_⟩;cases e:lt (p.getD m 0) (p.getD (m-1) 0) with
  | true=>exact ⟨aL _,Oo,h,λ_=>e⟩
  | false =>
   refine (show dD n lt _ (kas_asc p f (m+1)) from ?_);have ih:=BW O g f (m+1) Oo Oo (h.more O g h1 Oo e);exact dD.mono (λk ⟨a1,a2,a3,a4⟩=>⟨Oo,Oo,a3,λq=>a4 Oo⟩) ih
theorem XV.more(O:EV n lt){p:Array Nat}{m:Nat}(h:XV lt p m)(h1:1<=m)(e:lt (p.getD m 0) (p.getD (m-1) 0)=true):XV lt p (m+1):=λa b hab hb=>by
 by_cases q:b<m
 ·exact h a b hab q
 ·have e':b=m:=Oo;subst e';by_cases r:a=b-1
  ·rw [r];exact e
  ·exact O.tra _ _ _ e (h a (b-1) Oo Oo)
theorem ED(O:EV n lt){p:Array Nat}(g:gE n p):∀(f m:Nat),1<=m->m+f<=n->XV lt p m->dD n lt (λr=>r.1=p/\r.2.2=0/\m<=r.2.1/\r.2.1<=m+f/\XV lt p r.2.1) (kas_desc f p m 0)
 | 0,m,_,_,h=>⟨rfl,rfl,aL _,aL _,h⟩
 | f+1,m,h1,hm,h=>by
  refine ⟨g.bd Oo _,g.bd Oo _,?_⟩;cases e:lt (p.getD m 0) (p.getD (m-1) 0) with
  | true =>
   refine (show dD n lt _ (kas_desc f p (m+1) 0) from ?_);exact dD.mono (λr ⟨a1,a2,a3,a4,a5⟩=>⟨a1,a2,Oo,Oo,a5⟩) (ED O g f (m+1) Oo Oo (h.more O h1 e))
  | false =>
   refine ⟨g.bd Oo _,g.bd Oo _,?_⟩;rw [O.tot _ _ (g.bd Oo _) (g.bd Oo _) (g.ne Oo Oo Oo) e];exact ⟨rfl,rfl,aL _,(show m<=m+(f+1) by omega),h⟩
theorem OF{p:Array Nat}{m i:Nat}(hm:m<=p.size):(kas_rev p 0 m).getD i 0=if i<m then p.getD (m-1-i) 0 else p.getD i 0:=by
 have e:=getElem?_mirror (xs:=p) (i:=0) (j:=m) hm (m/2) Oo i;have e':(kas_rev p 0 m)[i]?=if (0<=i/\i<0+m/2)\/(m-m/2<=i/\i<m) then p[0+m-1-i]? else p[i]?:=e
 have g:∀(q:Array Nat) (k:Nat),q.getD k 0=q[k]?.getD 0:=λq k=>by simp [Array.getD_eq_getD_getElem?]
 rw [g,e',g,g];by_cases h:i<m
 ·rw [if_pos h];by_cases h2:(0<=i/\i<0+m/2)\/(m-m/2<=i/\i<m)
  ·rw [if_pos h2,show 0+m-1-i=m-1-i by omega]
  ·rw [if_neg h2,show m-1-i=i by omega]
 ·rw [if_neg h,if_neg Oo]
theorem XV.rev{p:Array Nat}{m:Nat}(h:XV lt p m)(hm:m<=p.size):yP lt (kas_rev p 0 m) m:=λa b hab hb=>by
 rw [OF hm,OF hm,if_pos Oo,if_pos hb];exact h _ _ Oo Oo
theorem LO(O:EV n lt){p:Array Nat}(g:gE n p)(hn:2<=n):dD n lt (λr=>gE n r.2/\1<=r.1/\r.1<=n/\yP lt r.2 r.1) (kas_count n p):=by
 unfold kas_count;refine (BW O g (n-1) 1 (aL _) Oo yP.one).bind λk ⟨k1,k2,k3,k4⟩=>?_;split
 ·exact ⟨g,k1,by show k<=n;omega,k3⟩
 ·rename_i hk
  have hkn:k≠n:=λe=>hk (by simp [e]);split
  ·refine ⟨g.bd Oo _,g.bd Oo _,?_⟩;rw [k3 0 (k-1) Oo Oo];exact ⟨g,k1,by show k<=n;omega,k3⟩
  ·have e1:k=1:=Oo;subst e1;unfold kas_descPart;have d2:XV lt p 2:=λa b hab hb=>by
    have e:a=0/\b=1:=Oo;rw [e.1,e.2];exact k4 Oo
   refine (ED O g (n-2) 2 Oo Oo d2).bind λr ⟨r1,r2,r3,r4,r5⟩=>?_;obtain ⟨p',m,q⟩:=r;dsimp only at r1 r2 r3 r4 r5 ⊢;subst r1 r2;rw [if_neg Dd];unfold kas_tail3;have hs:=g.size;refine (BW O (g.rev 0 m) (n-m) m Oo Oo (r5.rev Oo)).bind λk' ⟨a1,a2,a3,_⟩=>?_;exact ⟨g.rev 0 m,(show 1<=k' by omega),(show k'<=n by omega),a3⟩
theorem uG(O:EV n lt){p:Array Nat}(g:gE n p){k:Nat}(hk:k<n)(h:yP lt p k):∀(f l r:Nat),l<=r->r<=k->r-l<=f->(∀a,a<l->lt (p.getD a 0) (p.getD k 0)=true)->(∀a,r<=a->a<k->lt (p.getD k 0) (p.getD a 0)=true) ->
  dD n lt (λm=>m<=k/\(∀a,a<m->lt (p.getD a 0) (p.getD k 0)=true)/\∀a,m<=a->a<k->lt (p.getD k 0) (p.getD a 0)=true) (kas_place p k f l r)
 | 0,l,r,h1,h2,h3,h4,h5=>⟨Oo,h4,λa q1 q2=>h5 a Oo q2⟩
 | f+1,l,r,h1,h2,h3,h4,h5=>by
  unfold kas_place;split
  ·exact ⟨Oo,h4,λa q1 q2=>h5 a Oo q2⟩
  ·refine ⟨g.bd Oo _,g.bd Oo _,?_⟩;cases e:lt (p.getD k 0) (p.getD ((l+r)/2) 0) with
   | true =>
    refine (show dD n lt _ (kas_place p k f l ((l+r)/2)) from ?_);refine uG O g hk h f l ((l+r)/2) Oo Oo Oo h4 λa q1 q2=>?_;by_cases q:a=(l+r)/2
    ·rw [q];exact e
    ·exact O.tra _ _ _ e (h _ _ Oo q2)
   | false =>
    refine (show dD n lt _ (kas_place p k f ((l+r)/2+1) r) from ?_);have e2:=O.tot _ _ (g.bd Oo _) (g.bd Oo _) (g.ne hk Oo Oo) e;refine uG O g hk h f ((l+r)/2+1) r Oo Oo Oo (λa q1=>?_) h5;by_cases q:a=(l+r)/2
    ·rw [q];exact e2
    ·exact O.tra _ _ _ (h a ((l+r)/2) Oo Oo) e2
theorem QV{p:Array Nat}{k m i:Nat}(hk:k<p.size)(hm:m<=k):(bubble p k (k-m)).getD i 0=if i=m then p.getD k 0 else if m<i/\i<=k then p.getD (i-1) 0 else p.getD i 0:=by
 have e:=getElem?_bubble (xs:=p) hk (k-m) Oo i;have g:∀(q:Array Nat) (k:Nat),q.getD k 0=q[k]?.getD 0:=λq k=>by simp [Array.getD_eq_getD_getElem?]
 rw [g,e,g,g,g,show k-(k-m)=m by omega];by_cases h:i=m
 ·rw [if_pos h,if_pos h]
 ·rw [if_neg h,if_neg h];by_cases h2:m<i/\i<=k
  ·rw [if_pos h2,if_pos h2]
  ·rw [if_neg h2,if_neg h2]
theorem JI(O:EV n lt):∀(f:Nat) {p:Array Nat}(g:gE n p) (k:Nat),k+f=n->yP lt p k->dD n lt (λp=>gE n p/\yP lt p n) (kas_bin f p k)
 | 0,p,g,k,hk,h=>⟨g,by rw [<-hk];exact h⟩
 | f+1,p,g,k,hk,h=>by
  unfold kas_bin;refine (uG O g Oo h k 0 k Oo Oo Oo (λa q=>Oo) (λa q1 q2=>Oo)).bind λm ⟨m1,m2,m3⟩=>?_;have hs:=g.size;refine JI O f (g.bub _ _) (k+1) Oo λa b hab hb=>?_;rw [QV Oo m1,QV Oo m1];by_cases ha:a=m
  ·rw [if_pos ha,if_neg Oo,if_pos Oo];exact m3 _ Oo Oo
  ·rw [if_neg ha];by_cases hb':b=m
   ·rw [if_pos hb',if_neg Oo];exact m2 a Oo
   ·rw [if_neg hb'];by_cases q1:m<a/\a<=k
    ·rw [if_pos q1,if_pos Oo];exact h _ _ Oo Oo
    ·rw [if_neg q1];by_cases q2:m<b/\b<=k
     ·rw [if_pos q2];exact h _ _ Oo Oo
     ·rw [if_neg q2];exact h _ _ hab Oo
theorem NS(O:EV n lt)(hn:2<=n):dD n lt (λp=>gE n p/\yP lt p n) (kas_sort n):=by
 unfold kas_sort;refine (LO O (Array.Perm.refl _) hn).bind λr ⟨h1,h2,h3,h4⟩=>?_;split
 ·rename_i q
  rw [Nat.max_eq_left h2];exact JI O _ h1 _ Oo h4
 ·rename_i q
  have e:r.1=n:=Oo;exact ⟨h1,e ▸ h4⟩
end
end HT
namespace L2
open PySem PySem.Spec PySem.W PyProof.Rows HT
theorem HP{x:V}{xs:List V}{us:List Value}(r:dI (x::xs) us):∃u us',us=u::us'/\eB x u/\dI xs us':=by
 cases r with
 | cons h t=>exact ⟨_,_,rfl,h,t⟩
def DT(fin:Bool):List Int->List Int->Bool
 | x::a,y::b=>if x=y then DT fin a b else decide (x<y)
 | _,_=>fin
def pD(a b:List Int):Bool:=DT (decide (a.length<b.length)) a b
theorem xH(a:List Int):pD a []=false:=by
 unfold pD;cases a <;> rfl
theorem BH(y:Int)(b:List Int):pD [] (y::b)=true:=by unfold pD;rfl
theorem BI(x y:Int)(a b:List Int):pD (x::a) (y::b)=if x=y then pD a b else decide (x<y):=by
 show (if x=y then DT (decide ((x::a).length<(y::b).length)) a b else decide (x<y))=_;rw [bQ,bQ,show decide (a.length+1<b.length+1)=decide (a.length<b.length) by simp]
 rfl
theorem IP:∀{a b:List Int},a≠b->pD a b=false->pD b a=true
 | [],[],h,_=>absurd rfl h
 | [],y::b,_,e=>by rw [BH] at e;cases e
 | x::a,[],_,_=>BH _ _
 | x::a,y::b,h,e=>by
  rw [BI] at e ⊢;by_cases q:x=y
  ·subst q;rw [if_pos rfl] at e ⊢;exact IP (λz=>h (by rw [z])) e
  ·rw [if_neg q] at e;rw [if_neg (Ne.symm q)];have:=of_decide_eq_false e;exact cP Oo
theorem BF:∀{a b c:List Int},pD a b=true->pD b c=true->pD a c=true
 | a,b,[],_,h=>by rw [xH] at h;cases h
 | [],b,z::c,_,_=>BH _ _
 | x::a,[],z::c,h,_=>by rw [xH] at h;cases h
 | x::a,y::b,z::c,h1,h2=>by
  rw [BI] at h1 h2 ⊢;by_cases q1:x=y
  ·subst q1;rw [if_pos rfl] at h1;by_cases q2:x=z
   ·subst q2;rw [if_pos rfl] at h2 ⊢;exact BF h1 h2
   ·rw [if_neg q2] at h2 ⊢;exact h2
  ·rw [if_neg q1] at h1;have h1:=of_decide_eq_true h1;by_cases q2:y=z
   ·subst q2;rw [if_neg q1];exact cP h1
   ·rw [if_neg q2] at h2;have h2:=of_decide_eq_true h2;rw [if_neg Oo];exact cP Oo
theorem BG{a:List Int}:pD a a=false:=by
 induction a with
 | nil=>exact xH _
 | cons x a ih=>rw [BI,if_pos rfl];exact ih
theorem DS:∀{l m:List (List Int)},l.Pairwise (λa b=>pD a b=true)->m.Pairwise (λa b=>pD a b=true)->(∀x,x∈l↔x∈m)->l=m
 | [],[],_,_,_=>rfl
 | [],y::m,_,_,h=>by have:=(h y).mpr (aW ..);cases this
 | x::l,[],_,_,h=>by have:=(h x).mp (aW ..);cases this
 | x::l,y::m,h1,h2,h=>by
  obtain ⟨a1,a2⟩:=List.pairwise_cons.mp h1;obtain ⟨b1,b2⟩:=List.pairwise_cons.mp h2;have e:x=y:=by
   rcases bF.mp ((h x).mp (aW ..)) with q | q
   ·exact q
   ·rcases bF.mp ((h y).mpr (aW ..)) with r | r
    ·exact r.symm
    ·have:=BF (b1 x q) (a1 y r);rw [BG] at this;cases this
  subst e;rw [DS a2 b2 λz=>?_];constructor
  ·intro q;rcases bF.mp ((h z).mp (aS _ q)) with r | r
   ·subst r;have:=a1 z q;rw [BG] at this;cases this
   ·exact r
  ·intro q;rcases bF.mp ((h z).mpr (aS _ q)) with r | r
   ·subst r;have:=b1 z q;rw [BG] at this;cases this
   ·exact r
abbrev IO(cs:List (List Int)):Nat->Nat->Bool:=λi j=>pD (cs.getD i []) (cs.getD j [])
theorem aAw{cs:List (List Int)}(h:cs.Nodup):EV cs.length (IO cs):=⟨λi j hi hj ne e=>IP (λz=>by
  have e1:cs.getD i []=cs[i]:=by simp [hi]
  have e2:cs.getD j []=cs[j]:=by simp [hj]
  rw [e1,e2] at z;exact ne ((List.getElem_inj h).mp z)) e,λi j k h1 h2=>BF h1 h2⟩
section
variable{prog:Program}{w:World}{A:Around}{E:Value->Shared->Prop}{s:Shared}{Q:Bool->Shared->Prop}
theorem vI{fin:Bool}:∀{a b:List Int}{us vs:List Value}{i:Nat},dI (a.map V.int) us->dI (b.map V.int) vs->Q (DT fin a b) s->KatLex prog w A true fin Q (us.zip vs) i s
 | [],b,us,vs,i,ha,hb,q=>by cases ha;exact kat_nil (by unfold DT at q;exact q)
 | x::a,[],us,vs,i,ha,hb,q=>by
  cases hb;cases us with
  | nil=>exact kat_nil (by unfold DT at q;exact q)
  | cons u us=>exact kat_nil (by unfold DT at q;exact q)
 | x::a,y::b,us,vs,i,ha,hb,q=>by
  rw [bL] at ha hb;obtain ⟨u,us',rfl,⟨t,rfl⟩,ra⟩:=HP ha;obtain ⟨v,vs',rfl,⟨t',rfl⟩,rb⟩:=HP hb;rw [List.zip_cons_cons];refine kat_cons (wpAny_eqBool_int ?_);unfold DT at q;by_cases h:x=y
  ·rw [if_pos h] at q;rw [show (x == y)=true by simp [h]];exact kat_yes (vI ra rb q)
  ·rw [if_neg h] at q;rw [show (x == y)=false by simp [h]];refine kat_no ?_;cases (true&&i == 0) with
   | true=>exact oneLt_int q
   | false=>exact kat_one _ _ (lt_int q)
def XS(h:Heap)(v:Value)(c:List Int):Prop:=∃b its,v=.ref b/\IsTup h b (List.toArray its)/\dI (c.map V.int) its/\c≠[]
abbrev kC(h:Heap):List Value->List (List Int)->Prop:=Paired (XS h)
theorem kC.get{h:Heap}:∀{vs:List Value}{cs:List (List Int)}{i:Nat},kC h vs cs->i<vs.length->XS h (vs.getD i Value.none) (cs.getD i [])
 | _,_,_,.nil,hi=>by simp at hi
 | _,_,0,.cons t r,hi=>t
 | v::vs,c::cs,i+1,.cons t r,hi=>by
  have:=kC.get (i:=i) r (by simpa using hi);simpa using this
theorem kC.firsts{h:Heap}:∀{vs:List Value}{cs:List (List Int)},kC h vs cs->∃fs,KatTups h vs fs/\fs.length=vs.length/\∀v∈fs,∃i t,v=Value.int i t
 | _,_,.nil=>⟨[],KatTups.nil,rfl,λv hv=>by cases hv⟩
 | v::vs,c::cs,.cons t r=>by
  obtain ⟨fs,h1,h2,h3⟩:=kC.firsts r;obtain ⟨b,its,rfl,⟨o,ho,hc,n,hd⟩,hv,hne⟩:=t;cases c with
  | nil=>exact absurd rfl hne
  | cons x c =>
   rw [bL] at hv;obtain ⟨u,us,rfl,⟨t,rfl⟩,_⟩:=HP hv;exact ⟨.int x t::fs,KatTups.cons ho hc hd (by simp) h1,by simp [h2],λv hv=>by
    rcases bF.mp hv with rfl | hv
    ·exact ⟨_,_,rfl⟩
    ·exact h3 v hv⟩
theorem kC.keep{h h':Heap}(k:∀b o,h.get? b=some o->o.cls=.type "tuple" -> h'.get? b=some o):∀{vs:List Value}{cs:List (List Int)},kC h vs cs->kC h' vs cs
 | _,_,.nil=>.nil
 | _,_,.cons ⟨b,its,e,⟨o,ho,hc,hd⟩,hv,hne⟩ r=>.cons ⟨b,its,e,⟨o,k b o ho hc,hc,hd⟩,hv,hne⟩ (kC.keep k r)
theorem NT{n:Nat}{lt:Nat->Nat->Bool}(hn:2<=n):dD n lt (λp=>gE n p/\(EV n lt->yP lt p n)) (kas_sort n):=by
 by_cases O:EV n lt
 ·exact dD.mono (λp h=>⟨h.1,λ_=>h.2⟩) (NS O hn)
 ·exact dD.mono (λp h=>⟨h,λz=>absurd z O⟩) (QY Oo)
theorem KC{a:Addr}{vs:List Value}{cs:List (List Int)}{n:Nat}{P:PySem.Fin->Shared->Prop}(ho:s.heap.get? a=some (seqObj "list" vs.toArray n))(ht:kC s.heap vs cs)(h64:vs.length<64)
  (h:∀p:Array Nat,gE vs.length p->(EV vs.length (IO cs)->yP (IO cs) p vs.length)->P (.done (.ret .none)) { s with heap:=sortedHeap s.heap a vs (List.toArray (p.toList.map λi=>vs.getD i Value.none)) }) :
  wpAny (model prog w) A (Builtin.«list.sort» ⟨[.ref a],[]⟩) P E s:=by
 rw [list_sort_plain];have ha:a<s.heap.objs.size:=aZ ho;refine wpAny_bind (listItems_at ho rfl ?_);refine wpAny_bind (listUpdate_at ho rfl ?_ (by rw [bC,sizeLine_eq];omega) (cG _));obtain ⟨e1,ho1⟩:∃e1,(s.heap.update a (Obj.mapSeq λ_=>#[])).get? a=some (seqObj "list" #[] e1):=⟨_,get?_update_seq ho (λ_=>#[])⟩;refine wpAny_bind (seqEpoch_at ho1 rfl ?_);refine wpAny_bind (wpAny_newTuple ?_ (by show vs.length<=_;rw [sizeLine_eq];omega));refine wpAny_bind (wpAny_newList ?_ (cG _));refine wpAny_holding ?_;have ho6:(((s.heap.update a (Obj.mapSeq λ_=>#[])).push (seqObj "tuple" vs.toArray 0)).push (seqObj "list" #[] 0)).get? a=some (seqObj "list" #[] e1):=by
  rw [Heap.get?_push_ne _ _ _ (by rw [size_push',Heap.size_update];exact cR (Nat.lt_succ_of_lt ha)),Heap.get?_push_ne _ _ _ (by rw [Heap.size_update];exact cR ha)];exact ho1
 show wpAny (model prog w) A _ P E { s with heap:=((s.heap.update a (Obj.mapSeq λ_=>#[])).push (seqObj "tuple" vs.toArray 0)).push (seqObj "list" #[] 0) };dsimp only;have fin:∀st':SortSt,∀p:Array Nat,gE vs.length p->(EV vs.length (IO cs)->yP (IO cs) p vs.length)->(arrOf st').map (·.2)=List.toArray (p.toList.map λi=>vs.getD i Value.none) ->
   P (.done (.ret .none)) { s with heap:=sortedHeap s.heap a vs ((arrOf st').map (·.2)) }:=by
  intro st' p hp ho hs;rw [hs];exact h p hp ho
 have ht6:kC (((s.heap.update a (Obj.mapSeq λ_=>#[])).push (seqObj "tuple" vs.toArray 0)).push (seqObj "list" #[] 0)) vs cs:=ht.keep λb o hb hc=>by
  have hne:b≠a:=λe=>by
   subst e;rw [ho] at hb;cases hb;exact absurd (show Value.type "list" = Value.type "tuple" from hc) Dd
  exact aE _ (aE _ (by rw [Heap.get?_update_ne _ _ _ _ hne];exact hb))
 by_cases h2:vs.toArray.size<2
 ·rw [if_pos h2,if_pos h2];refine wpAny_bind (wpAny_pure ?_);rw [StateT.run_pure];refine wpAny_bind (wpAny_pure ?_);dsimp only;refine wpAny_bind (seqEpoch_at ho6 rfl ?_);refine wpAny_bind (listUpdate_at ho6 rfl ?_ (hsz2:=by rw [Array.size_map];show (pairsOf vs).size<=_;rw [pairsOf_size,sizeLine_eq];omega));simp only [bne_self_eq_false,Bool.false_eq_true,if_false];refine wpAny_pure (fin (SortSt.mk' general' (vs.toArray.zip vs.toArray) #[] 7 none) (List.toArray (List.range vs.length)) (Array.Perm.refl _) (λ_ a b h1 h3=>by rw [bC] at h2;omega) ?_);have e:=kat_snds (ks:=vs) (vs:=vs) (st:=SortSt.mk' general' (vs.toArray.zip vs.toArray) #[] 7 none) (p:=List.toArray (List.range vs.length)) rfl (by
   have e:=kas_range (vs.toArray.zip vs.toArray);rw [show (vs.toArray.zip vs.toArray).size=vs.length by simp] at e;exact e.symm)
  exact e
 ·rw [if_neg h2,if_neg h2];have hl2:2<=vs.length:=by rw [bC] at h2;omega
  obtain ⟨fs,k1,k2,k3⟩:=ht6.firsts;refine wpAny_bind (kat_kind (T:=.type "int") k1 Oo (λv hv=>?_) rfl ?_)
  ·obtain ⟨i,t,rfl⟩:=k3 v hv;exact .now
  refine wpAny_bind (wpAny_mono (kat_run (ks:=vs) (vs:=vs) (G:=λp s'=>s'={ s with heap:=((s.heap.update a (Obj.mapSeq λ_=>#[])).push (seqObj "tuple" vs.toArray 0)).push (seqObj "list" #[] 0) }/\gE vs.length p/\(EV vs.length (IO cs)->yP (IO cs) p vs.length))
   (Q:=λst' s'=>s'={ s with heap:=((s.heap.update a (Obj.mapSeq λ_=>#[])).push (seqObj "tuple" vs.toArray 0)).push (seqObj "list" #[] 0) }/\failedOf st'=none/\∃p:Array Nat,p.size=vs.length/\(gE vs.length p/\(EV vs.length (IO cs)->yP (IO cs) p vs.length))/\arrOf st'=p.map (kas_item (vs.toArray.zip vs.toArray)))
   rfl hl2 h64 (λp' st' s' a1 a2 a3 a4=>⟨a4.1,a3,p',a1,a4.2,a2⟩)
   (dD.wp (n:=vs.length) (lt:=IO cs) (R:=λp=>gE vs.length p/\(EV vs.length (IO cs)->yP (IO cs) p vs.length)) (λi j C hi hj hC=>?_) (λp hp=>⟨rfl,hp⟩) (NT hl2))) ?_ λ_ _ e=>e)
  ·obtain ⟨b,its,e1',⟨o,hb,hc,n',hd⟩,hv,_⟩:=ht6.get hi;obtain ⟨b2,its2,e2',⟨o2,hb2,hc2,n2,hd2⟩,hv2,_⟩:=ht6.get hj;unfold kas_ask;rw [e1',e2'];refine kat_lt hb hd hb2 hd2 ?_;refine vI hv hv2 ?_;have l1:=hv.length;have l2:=hv2.length;rw [aA] at l1 l2;rw [bC,bC,<-l1,<-l2];exact hC
  rintro ⟨⟨⟩,st'⟩ s' ⟨rfl,hf,p,hp,hg,har⟩;dsimp only;have hout:=kat_snds rfl har;refine wpAny_bind (seqEpoch_at ho6 rfl ?_);refine wpAny_bind (listUpdate_at ho6 rfl ?_ (hsz2:=by rw [hout,bC,aA,Array.length_toList,hp,sizeLine_eq];omega));rw [hf];simp only [bne_self_eq_false,Bool.false_eq_true,if_false];exact wpAny_pure (fin st' p hg.1 hg.2 hout)
end
theorem HR{X:Cx}{pins:List (Addr × Obj)}{σ:St}{H:Hp}{s:Shared}(I:cJ X pins σ H s):∀{cs:List (List Int)}{ys:List V}{us:List Value},aT H (cs.map λc=>PyData.tuple (c.map .int)) ys->(∀c∈cs,c≠[])->dI ys us->kC s.heap us cs
 | [],ys,us,r,hc,v=>by
  unfold aT at r;cases (show ys=[] from r);cases v;exact .nil
 | c::cs,ys,us,r,hc,v=>by
  rw [bL] at r;unfold aT at r;obtain ⟨y,ys',rfl,r1,r2⟩:=r;obtain ⟨u,us',rfl,rv,v'⟩:=HP v;refine .cons ?_ (HR I r2 (λc h=>hc c (aS _ h)) v');unfold cA at r1;obtain ⟨a,xs,rfl,h1,h2⟩:=r1;cases rv;obtain ⟨its,rr,pl,hzz⟩:=I.tuple (jM.of h1);have hx:xs=c.map V.int:=by
   clear rr h1 hc hzz
   induction c generalizing xs with
   | nil=>unfold aT at h2;exact h2
   | cons z c ih =>
    rw [bL] at h2;unfold aT at h2;obtain ⟨x,xs',rfl,h3,h4⟩:=h2;cases (show x=V.int z from h3);rw [ih _ h4];rfl
  subst hx;exact ⟨a,its,rfl,pl,rr,hc c (aW ..)⟩
theorem HN{ys:List V}{us:List Value}(v:dI ys us):∀ix:List Nat,(∀i∈ix,i<ys.length)->dI (ix.map λi=>ys.getD i .non) (ix.map λi=>us.getD i Value.none)
 | [],_=>.nil
 | i::ix,h=>by
  have hi:=h i (aW ..);obtain ⟨u,hu,ru⟩:=v.get (i:=i) (x:=ys[i]) (by simp [hi]);refine .cons ?_ (HN v ix λj hj=>h j (aS _ hj));have e1:ys.getD i .non=ys[i]:=by simp [hi]
  have e2:us.getD i Value.none=u:=by rw [bM,hu];rfl
  show eB (ys.getD i .non) (us.getD i Value.none);rw [e1,e2];exact ru
open Classical in
section
variable{X:Cx}{pins:List (Addr × Obj)}{σ:St}{H:Hp}{s:Shared}
end
section
variable{X:Cx}
end
end L2
namespace HT
open PySem PySem.Spec PyProof.Rows PySem.Builtin
section
variable{prog:Program}{w:World}{A:Around}{E:Value->Shared->Prop}{s:Shared}
end
section
variable{prog:Program}{w:World}{A:Around}{E:Value->Shared->Prop}{s:Shared}{K:Type}[DecidableEq K]{knd:HeapKind prog w K}
end
end HT
namespace L2
open PySem PySem.Spec PySem.W PyProof.Rows HT
section
variable{X:Cx}{pins:List (Addr × Obj)}{σ:St}{H:Hp}
theorem KT.isAll{P:Program}{w:World}{H:Hp}{h:Heap}(ok:pO P w H h){l:List (List eO × V)}{m:List (List eO × Addr × Value)}(q:KT H l m):∀x∈m,(tupleKind (dE P w)).is h x.1 x.2.1:=by
 unfold KT at q
 induction q with
 | nil=>intro x hx;exact nomatch hx
 | @cons p q ps qs hq t ih =>
  intro x hx;rcases bF.mp hx with e | hx
  ·subst e;exact rY ok (by rw [<-hq.1];exact hq.2.1)
  ·exact ih x hx
end
end L2
namespace HT
open PySem PySem.Spec PyProof.Rows
section
variable{prog:Program}{w:World}{A:Around}{E:Value->Shared->Prop}{s:Shared}{it d:Addr}{es:Array DictEntry}{ep i:Nat}{od:Obj}
theorem UY{Q:Option Value->Shared->Prop}(hit:s.heap.IsKeyIter it d i es.size ep)(hod:s.heap.get? d=some od)(hdd:od.data=.dict es ep)(hi:i<es.size)
  (h:∀h',h'.IsKeyIter it d (i+1) es.size ep->Heap.SameBut it s.heap h'->Q (some es[i].key) { s with heap:=h' }):wpAny (model prog w) A (pyNext (.ref it)) Q E s:=by
 obtain ⟨⟨c0,dd0,data0,sl0⟩,ho,hc,hd⟩:=id hit;simp only at hc hd;subst hc hd;have hT:=hit.typeIs;unfold pyNext;refine wpAny_bind (wpAny_attempt (wpAny_callSpecial?_slot (name:=Str.ofString "__next__") hT F.slot_dict_keyiterator_next (wpAny_call_entry F.slot_dict_keyiterator_next hT F.entry_dict_keyiterator_next ?_ (F.args_dict_keyiterator_next_1 _))));have hn:(Value.ref d == Value.none)=false:=rfl;have hown:Builtin.Dict_items.ownsTuple "dict_keyiterator" = false:=Dd
 repeat (any_goals (first | assumption | (with_reducible refine wpAny_typeNameOfWhole_keyiter hT ?_) | (with_reducible refine wpAny_isOneOf_keyiter hT ?_) | (with_reducible refine wpAny_fieldsOf ho rfl ?_) | (with_reducible refine wpAny_dictEntries hod hdd ?_) | (with_reducible refine wpAny_dictEpoch hod hdd ?_) | wp_step))
 rw [if_neg (show ¬((i:Int)<0) by omega),Int.toNat_natCast,Array.getElem?_eq_getElem hi];have hit':(s.heap.update it (Obj.mapFields (·.setIfInBounds 1 (rawInt ((i:Int)+1))))).IsKeyIter it d (i+1) es.size ep :=
  ⟨_,Heap.get?_update_self _ ho (Obj.isFreed_of_fields (Obj.data_mapFields rfl _)),(Obj.cls_mapFields ..).trans rfl,by rw [Obj.data_mapFields rfl];simp [rawInt]⟩
 have hT':({ s with heap:=s.heap.update it (Obj.mapFields (·.setIfInBounds 1 (rawInt ((i:Int)+1)))) }:Shared).TypeIs (.ref it) "dict_keyiterator" := hit'.typeIs;have hfin:=h _ hit' (Heap.SameBut.update ..)
 repeat (any_goals (first | assumption | (with_reducible refine wpAny_typeNameOfWhole_keyiter hT ?_) | (with_reducible refine wpAny_isOneOf_keyiter hT ?_) | (with_reducible refine wpAny_isOneOf_keyiter hT' ?_) | (with_reducible refine wpAny_setField ho rfl (by rw [hown];simp) ?_) | wp_step))
 exact ⟨_,rfl,wpAny_pure hfin⟩
theorem aAF{Q:Option Value->Shared->Prop}(hh:A.handled=none)(hit:s.heap.IsKeyIter it d i es.size ep)(hod:s.heap.get? d=some od)(hdd:od.data=.dict es ep)(hi:es.size<=i)
  (h:∀h',Heap.ExtBut it s.heap h'->Q none { s with heap:=h' }):wpAny (model prog w) A (pyNext (.ref it)) Q E s:=by
 obtain ⟨⟨c0,dd0,data0,sl0⟩,ho,hc,hd⟩:=id hit;simp only at hc hd;subst hc hd;have hT:=hit.typeIs;have hn:(Value.ref d == Value.none)=false:=rfl;have hown:Builtin.Dict_items.ownsTuple "dict_keyiterator" = false:=Dd;unfold pyNext;refine wpAny_bind (wpAny_attempt (wpAny_callSpecial?_slot (name:=Str.ofString "__next__") hT F.slot_dict_keyiterator_next (wpAny_call_entry F.slot_dict_keyiterator_next hT F.entry_dict_keyiterator_next ?_ (F.args_dict_keyiterator_next_1 _))))
 repeat (any_goals (first | assumption | (with_reducible refine wpAny_typeNameOfWhole_keyiter hT ?_) | (with_reducible refine wpAny_isOneOf_keyiter hT ?_) | (with_reducible refine wpAny_fieldsOf ho rfl ?_) | (with_reducible refine wpAny_dictEntries hod hdd ?_) | (with_reducible refine wpAny_dictEpoch hod hdd ?_) | wp_step))
 rw [if_neg (show ¬((i:Int)<0) by omega),Int.toNat_natCast,Array.getElem?_eq_none hi]
 repeat (any_goals (first | assumption | (with_reducible refine wpAny_typeNameOfWhole_keyiter hT ?_) | (with_reducible refine wpAny_setField ho rfl (by rw [hown];simp) ?_) | wp_step))
 simp only [raiseNew];refine wpAny_bind (wpAny_handled ?_);rw [show A.in1.handled=none from hh];refine wpAny_bind (wpAny_pure (wpAny_throw ?_));refine wpAny_bind (wpAny_isInstance (T := "StopIteration") (b:=true) ⟨_,bB _ rfl,rfl⟩ isSubtype_stop ?_);exact wpAny_pure (h _ (((Heap.SameBut.update ..).extBut.push _).push _))
theorem UZ{Q:Value->Shared->Prop}(hd:(d == sysModules)=false)(hod:s.heap.get? d=some od)(hex:od.ExactDict)(hdd:od.data=.dict es ep)
  (hQ:Q (.ref s.heap.objs.size) { s with heap:=s.heap.push { cls:=.type "dict_keyiterator",data:=.fields #[.ref d,.int 0 0,.int es.size 0,.int ep 0] } }):wpAny (model prog w) A (pyIter (.ref d)) Q E s:=by
 have hT:s.TypeIs (.ref d) "dict" := ⟨od,hod,hex.1⟩;refine wpAny_pyIter_slot hT F.slot_dict_iter (wpAny_call_entry F.slot_dict_iter hT F.entry_dict_iter ?_ (F.args_dict_iter_1 _));unfold Builtin.«dict.__iter__»;refine wpAny_bind ?_;unfold Builtin.Dict.dictSlotNone;refine wpAny_bind (wpAny_notOrdered_dict hT ?_);show wpAny _ _ (pure (Value.ref d)) _ _ s;refine wpAny_pure ?_;have hm:(d == sysModules)=false:=hd
 repeat (any_goals (first | assumption | (with_reducible refine wpAny_dictEntries hod hdd ?_) | (with_reducible refine wpAny_dictEpoch hod hdd ?_) | wp_step))
 exact ⟨_,rfl, "dict_keyiterator",_,⟨_,bB _ rfl,rfl⟩,F.slot_dict_keyiterator_next.lookup,hQ⟩
end
end HT
namespace L2
open PySem PySem.Spec PySem.W PyProof.Rows HT
section
variable{X:Cx}{pins:List (Addr × Obj)}{σ:St}{H:Hp}{s:Shared}
theorem xB{α β:Type}{R:α->β->Prop}:∀{l:List α}{m:List β}{i:Nat}{a:α},Paired R l m->l[i]?=some a->∃b,m[i]?=some b/\R a b
 | _,_,i,a,.nil,h=>by simp at h
 | _,_,0,a,.cons r t,h=>by
  cases (show _=a by simpa using h);exact ⟨_,rfl,r⟩
 | _,_,i+1,a,.cons r t,h=>by
  obtain ⟨b,h1,h2⟩:=xB t (by simpa using h);exact ⟨b,by simpa using h1,h2⟩
end
section
variable{X:Cx}{tg:Expr}
end
end L2
namespace HT
open PySem PySem.Spec PyProof.Rows PySem.W
section
variable{prog:Program}{w:World}{A:Around}{d:Addr}{o:Obj}{es:Array DictEntry}{ep:Nat}
theorem JU(hh:A.handled=none)(I:Addr)(hne:d≠I)(hdat:o.data=.dict es ep) :
  Walks prog w A I [I,d] [I] es.size (λi v=>∃hi:i<es.size,v=es[i].key) (λi h=>h.IsKeyIter I d i es.size ep/\h.get? d=some o) where
 sub:=λb hb=>by simp at hb;simp [hb]
 frame:=λ_ _ _ st hk=>⟨st.1.at λo e=>hk I (by simp) o e,hk d (by simp) o st.2⟩
 item:=λi s Q E hi st hQ=>UY st.1 st.2 hdat hi λh' hit' hs' =>
  hQ _ h' s.toks ⟨hi,rfl⟩ ⟨hit',(hs'.2 d hne).trans st.2⟩ λb o hb e=>(hs'.2 b (λh=>hb (by simp [h]))).trans e
 done:=λs Q E st hQ=>aAF hh st.1 st.2 hdat (aL _) λh' he'=>hQ h' s.toks λb o hb e=>he' b o (λh=>hb (by simp [h])) e
 self:=λ_ _ _ _ st hQ=>wpAny_pyIter_keyiter st.1 hQ
theorem VA(lo:(d == sysModules)=false)(hex:o.ExactDict)(hdat:o.data=.dict es ep):KdlSrc prog w "dict" d d es.size (λi v=>∃hi:i<es.size,v=es[i].key) (λh=>h.get? d=some o) where
 type:=λ_ hm=>⟨o,hm,hex.1⟩
 there:=λ_ hm=>⟨aZ hm,aZ hm⟩
 keep:=λ_ _ hm hk=>hk d (.inl rfl) o hm
 notList:=Dd
 notTuple:=Dd
 hint:=λ_ _ _ _ hm hq=>kdl_hint_dict ⟨o,hm,hex.1⟩ hq
 iter:=λA s hh hm=>⟨_,_,λE Q hQ=>UZ lo hm hex hdat hQ,JU hh _ (cR (aZ hm)) hdat,⟨_,bB _ rfl,rfl,rfl⟩,aE _ hm⟩
end
end HT
namespace L2
open PySem PySem.Spec PySem.W PyProof.Rows HT
end L2
namespace HT
open PySem PySem.Spec PyProof.Rows PySem.W
section
variable{prog:Program}{w:World}{A:Around}{E:Value->Shared->Prop}{s:Shared}{it d:Addr}{es:Array DictEntry}{ep i:Nat}{od:Obj}
end
end HT
namespace L2
open PySem PySem.Spec PySem.W PyProof.Rows HT
section
variable{X:Cx}{tg:Expr}
end
section
variable{X:Cx}{o e:Expr}{apos cpos:Pos}{td ty:TE}
end
end L2
namespace L2
open PySem
section
variable{js:List Nat}{te:TE}{tc:TT}{σ:St}{H:Hp}{Q:VK}
end
end L2
namespace L2
open PySem PySem.Spec PyProof.Rows
section
variable{X:Cx}{pins:List (Addr × Obj)}{σ:St}{H:Hp}{s:Shared}{scope:Scope}{x x2:Str}{N':List Str}{js:List Nat}{fp:List Addr}
end
section
variable{X:Cx}{pins:List (Addr × Obj)}{σ:St}{H:Hp}{s:Shared}{scope:Scope}{x:Str}{N':List Str}{js:List Nat}{fp:List Addr}{elt iter:Expr}{px pos:Pos}{tg:Expr}{x2:Str}{te:TE}
end
section
variable{X:Cx}{scope:Scope}{x x2 y:Str}{N':List Str}{js:List Nat}{elt iter tg:Expr}{py pos spos:Pos}{te:TE}{wi:TI}{i:Nat}
end
end L2
namespace HT
open PySem PySem.Spec PyProof.Rows
section
variable{prog:Program}{w:World}{A:Around}{E:Value->Shared->Prop}{s:Shared}{d:Addr}{o:Obj}{es:Array DictEntry}{ep:Nat}
end
end HT
namespace L2
open PySem PySem.Spec PySem.W PyProof.Rows HT
theorem BK(c:List Int):(c.map (Sum.inl:Int->eO)).map kV=c.map V.int:=by rw [List.map_map];rfl
abbrev kT(c:List Int):List eO:=c.map Sum.inl
theorem kM{a b:List Int}(h:kT a=kT b):a=b:=by
 have:∀{a b:List Int},kT a=kT b->a=b:=by
  intro a
  induction a with
  | nil=>intro b h;cases b with
   | nil=>rfl
   | cons _ _=>cases h
  | cons x a ih=>intro b h;cases b with
   | nil=>cases h
   | cons y b =>
    injection h with h1 h2;injection h1 with h1;rw [h1,ih h2]
 exact this h
section
variable{X:Cx}{o e f k v:Expr}{apos cpos pos:Pos}{td ty tx tk tv:TE}
@[irreducible] def TR(p:Addr)(x y:V)(H2:Hp)(Q:VK):Prop:=∃b k,x=.ref b/\H2 b=some (.tup (k.map kV))/\H2 p=some (.dT [])/\Q (.ref p) (upd H2 p (.dT [(k,y)]))
def YM(tk tv:TE):TE:=λσ H Q=>∀p,H p=none->tk σ (upd H p (.dT [])) λx H1=>tv σ H1 λy H2=>TR p x y H2 Q
theorem aCP{p b:Addr}{y:V}{H:Hp}{Q:VK}{c:List Int}(hb:H b=some (.tup (c.map V.int)))(hp:H p=some (.dT []))(q:∀H',H' p=some (.dT [(kT c,y)])->aR p H H'->Q (.ref p) H'):TR p (.ref b) y H Q:=by
 unfold TR;exact ⟨b,kT c,rfl,by rw [BK];exact hb,hp,q _ bK aR.self⟩
theorem MX(hu:X.A.units+1<cLine)(hk:gW X k tk)(hv:gW X v tv):gW X (.Dict [some k] [v] pos) (YM tk tv):=⟨by
 intro pins s σ H Q I q;have hn:=I.hok.fresh (aL s.heap.objs.size);have I1:=I.laid (a:=s.heap.objs.size) (o:=.dT []) (h':=s.heap.push { cls:=.type "dict",data:=.dict #[] }) (t':=s.toks) (λ_ _ q=>aE _ q) (aL _) (xT s.heap I.big);refine wpAny_Dict_any rfl rfl (by simp) (show 1<=15 by decide) (pairTrees_cons_walk (thn (hk.p pins _ σ _ _ I1 (q _ hn)) λu s1 ⟨x,H1,I1,rx,q1⟩=>thn (hv.p pins s1 σ H1 _ I1 q1) λw2 s2 ⟨y,H2,I2,ry,q2⟩=>pairTrees_nil_walk ?_));unfold TR at q2;obtain ⟨b,kk,rfl,eb,e,q3⟩:=q2;cases (show u=Value.ref b from rx);obtain ⟨z,hd,xs,rel,dd⟩:=XJ I2.hok e;unfold storeAll;rw [List.forIn_cons];refine wpAny_bind (wpAny_bind (wpAny_dictSet_heap (show X.A.units<cLine by omega) (rY I2.hok eb) dd (λh' dd' hs=>wpAny_pure ?_) (by rw [<-Paired.length rel];exact z)));dsimp only;rw [List.forIn_nil];refine wpAny_pure ?_;obtain ⟨q,es,ep,hq,h2,h3,h4,_,h5⟩:=dd';refine ⟨.ref _,_,?_,rfl,q3⟩;have hl:([(kk,y)]:List (List eO × V)).length<=sizeLine:=by show 1<=sizeLine;decide
 refine tG I2 (by rw [e];exact True.intro) hs ⟨q,hq⟩ ⟨hl,hd,_,(rel.put kk eb ry).keeps λc ys ec=>?_,q,es,ep,hq,h2,h3,h4,h5⟩;rw [dB (oC ec e (λz=>nomatch z))];exact ec⟩
theorem RY(hu:X.A.units+1<cLine)(ho:gW X o td)(he:gW X e ty)(hf:gW X f tx)(base:attributeBase o "get" X.env (eval o X.env)=eval o X.env:=by rfl)
  (few:((backTo cpos (starEach [e,f] X.env)).all (λx=>!x.1)&&(backToKw cpos (keywordEach [] X.env)).all (λx=>x.1.isSome)&&decide (([e,f]:List Expr).length+([]:List Keyword).length+(if ([]:List Keyword).isEmpty then 0 else 1)<30))=true:=by rfl)
  (line:(apos.endLine == cpos.line)=true:=by rfl) (trees:backTo cpos (starEach [e,f] X.env)=[(false,eval e X.env),(false,eval f X.env)]:=by rfl):gW X (.Call (.Attribute o "get" apos) [e,f] [] cpos) (NH td ty tx):=⟨OR hu ho.p he.p hf.p ⟨base,few,line,trees⟩⟩
@[irreducible] def TL(b:Bool):R2:=λx y H Q=>∃a o,y=.ref a/\oQ H a x o/\Q (.bl (xor b o.isSome)) H
theorem rind{b:Bool}{x:V}{a:Addr}{o:Option V}{H:Hp}{Q:VK}(g:oQ H a x o)(q:Q (.bl (xor b o.isSome)) H):TL b x (.ref a) H Q:=by unfold TL;exact ⟨a,o,rfl,g,q⟩
theorem OT(hu:X.A.units+1<cLine):vB X (compareOp .In) (TL false):=by
 intro pins s σ H x y v u Q I rx ry h;unfold TL at h;obtain ⟨a,o,rfl,g,q⟩:=h;cases (show u=Value.ref a from ry);exact aDM hu I g rx λs3 I3=>⟨.bl _,H,I3,rfl,by simpa using q⟩
end
theorem RK{H:Hp}{p b:Addr}{kvs:List (List eO × V)}{c:List Int}{v:V}{D:rN}{σ:St}(e:H p=some (.dT kvs))(eb:H b=some (.tup (c.map V.int)))(hl:kvs.length<=100000)(q:∀H',H' p=some (.dT (iY kvs (kT c) v))->aR p H H'->D.nx σ H') :
  rDP D σ (.ref p) (.ref b) v H:=by
 unfold rDP;exact ⟨p,_,rfl,CB.t (k:=kT c) e (by rw [BK];exact eb) (bA hl Dd),q _ bK aR.self⟩
theorem oQ.ct{H:Hp}{p b:Addr}{kvs:List (List eO × V)}{c:List Int}(e:H p=some (.dT kvs))(eb:H b=some (.tup (c.map V.int))):oQ H p (.ref b) (fG kvs (kT c)):=oQ.t e (by rw [BK];exact eb)
theorem LL{H:Hp}{p b:Addr}{kvs:List (List eO × V)}{c:List Int}{v:V}{Q:VK}(e:H p=some (.dT kvs))(eb:H b=some (.tup (c.map V.int)))(hv:fG kvs (kT c)=some v)(q:Q v H):rDG (.ref p) (.ref b) H Q:=by
 unfold rDG;exact ⟨p,v,rfl,hv ▸ oQ.ct e eb,q⟩
theorem yK{kvs:List (List eO × V)}{k:List eO}{v:V}(h:(fG kvs k).isSome=true):(iY kvs k v).map (·.1)=kvs.map (·.1):=by
 unfold iY;rw [kU,if_pos h,List.map_map];refine gD λp _=>?_;show (if p.1=k then (p.1,v) else p).1=p.1;split <;> rfl
end L2
namespace L2
open PySem
section
variable{js:List Nat}{te:TE}{tc:TT}{σ:St}{H:Hp}{Q:VK}
end
end L2
namespace L2
open PySem PySem.Spec PySem.W PyProof.Rows HT
section
variable{prog:Program}{w:World}{A:Around}{E:Value->Shared->Prop}{s:Shared}
theorem EK{T:String}{r d:Addr}{n:Nat}{P:Nat->Value->Prop}{OK:Heap->Prop}{Q:List Value->Shared->Prop}(K:KdlSrc prog w T r d n P OK)(hh:A.handled=none)(hok:OK s.heap)(hn:n<=sizeLine)
  (hQ:∀h' tk (acc':Array Value),(∀b o,s.heap.get? b=some o->h'.get? b=some o)->ItemsOf P acc' n->Q acc'.toList { s with heap:=h',toks:=tk }) :
  wpAny (model prog w) A (collect (.ref r)) Q E s:=by
 have lt:=K.there _ hok;have at0:(s.heap.push (seqObj "list" #[] 0)).get? s.heap.objs.size=some { cls:=.type "list",data:=.seq #[] 0 }:=bB _ rfl
 let G:Result->Shared->Prop:=λa z=>∃g m l e,a=.ok (.ret (.ref s.heap.objs.size))/\z={ s with heap:=g,toks:=m }/\(∀b o,s.heap.get? b=some o->g.get? b=some o)/\g.get? s.heap.objs.size=some { cls:=.type "list",dict:=none,data:=.seq l e,slots:=#[] }/\ItemsOf P l n
 have ext:=kdl_extend (A:=A) (s:={ s with heap:=s.heap.push (seqObj "list" #[] 0) }) (R:=G) K hh (K.keep _ _ hok λb _ o e=>aE _ e) s.heap.objs.size (Nat.ne_of_gt lt.1) (Nat.ne_of_gt lt.2) (.ref s.heap.objs.size) 0 at0
  (λg m l e kp at1 it=>⟨g,m,l,e,rfl,rfl,λb o z=>kp b o (cR (aZ z)) (aE _ z),at1,it⟩) hn
 unfold collect;refine wpAny_bind (wpAny_runValue (codeAny_builtin entry_proto_collect' ?_));rw [Around.under_plainId PySem.F.plain_proto_collect _];refine wpAny_bind (m:=newList []) (wpAny_newList (wpAny_pure ⟨plainId_quiet PySem.F.plain_list_iadd _,codeAny_builtin entry_list_iadd' ?_⟩));rw [Around.under_plainId PySem.F.plain_list_iadd _];refine wpAny_mono ext (λfin z y=>?_) λe z ⟨_,_,_,_,q,_⟩=>by cases q
 cases fin with
 | done f=>obtain ⟨g,m,l,e,q,rfl,kp,at1,it⟩:=y;cases q;exact wpAny_bind (wpAny_load at1 (wpAny_pure (hQ g m l kp it)))
 | again c=>exact ⟨y.1,codeAny_mono y.2 λq z ⟨g,m,l,e,eq,ez,kp,at1,it⟩=>by subst eq ez;exact wpAny_bind (wpAny_load at1 (wpAny_pure (hQ g m l kp it)))⟩
theorem FV{x:Value}{Q:Value->Shared->Prop}
  (h:wpAny (model prog w) A.in1 (collect x) (λvs s1=>∃h1 tk cs,s1={ s with heap:=h1,toks:=tk }/\(∀b o,s.heap.get? b=some o->h1.get? b=some o)/\kC h1 vs cs/\vs.length<64 /\
   ∀(p:Array Nat) (h':Heap) (D:Addr) (c:Nat),gE vs.length p->(EV vs.length (IO cs)->yP (IO cs) p vs.length)->(∀b o,h1.get? b=some o->h'.get? b=some o)->h1.objs.size<=D->h'.get? D=some (seqObj "list" (List.toArray (p.toList.map λi=>vs.getD i Value.none)) c)->Q (.ref D) { s with heap:=h',toks:=tk }) E s) :
  wpAny (model prog w) A (call (.builtin "sorted") [x]) Q E s:=by
 refine Calls.call_function_entry kind_sorted plain_sorted entry_sorted (args_sorted1 _) ?_;unfold Builtin.«sorted»;refine wpAny_bind (m:=checkCount "sorted" 1 1 _) (wpAny_pure ?_);refine wpAny_bind (wpAny_mono h (λvs s1 ⟨h1,tk,cs,e,keep1,ht,h64,q⟩=>?_) λ_ _ e=>e);subst e;refine wpAny_bind (wpAny_newList ?_ (by rw [sizeLine_eq];omega));have hoL:(h1.push (seqObj "list" vs.toArray 0)).get? h1.objs.size=some (seqObj "list" vs.toArray 0):=bB _ rfl;have keep:∀b o,h1.get? b=some o->(h1.push (seqObj "list" vs.toArray 0)).get? b=some o:=λb o q=>aE _ q;show wpAny _ _ _ _ _ { s with heap:=h1.push (seqObj "list" vs.toArray 0),toks:=tk };refine wpAny_bind (wpAny_holding (wpAny_call_entry slot_list_sort ⟨_,hoL,rfl⟩ entry_list_sort ?body (args_list_sort _)));refine KC (s:={ s with heap:=h1.push (seqObj "list" vs.toArray 0),toks:=tk }) hoL (ht.keep λb o hb _=>keep b o hb) h64 λp hp ho=>⟨_,rfl,wpAny_pure ⟨_,rfl,?_⟩⟩;unfold sortedHeap;have o1:((h1.push (seqObj "list" vs.toArray 0)).update h1.objs.size (Obj.mapSeq λ_=>#[])).get? h1.objs.size=some (seqObj "list" #[] _):=get?_update_seq hoL (λ_=>#[]);have o2:=aE (seqObj "list" #[] 0) (aE (seqObj "tuple" vs.toArray 0) o1);refine q p _ h1.objs.size _ hp ho (λb o e=>?_) (aL _) (get?_update_seq o2 λ_=>List.toArray (p.toList.map λi=>vs.getD i Value.none));have hlt:b<h1.objs.size:=aZ e;have hne:b≠h1.objs.size:=cR hlt;rw [Heap.get?_update_ne _ _ _ _ hne]
 exact aE _ (aE _ (by rw [Heap.get?_update_ne _ _ _ _ hne];exact keep b o e))
end
theorem aB7{X:Cx}{pins:List (Addr × Obj)}{σ:St}{H:Hp}{s:Shared}(I:cJ X pins σ H s){d:Addr}{kvs:List (List eO × V)}(e:H d=some (.dT kvs)):(d == sysModules)=false/\(kvs.map (·.1)).Nodup/\∃o,s.heap.get? d=some o/\o.ExactDict/\∃es ep,o.data=.dict es ep/\es.size=kvs.length /\
  ∀(i:Nat) (hi:i<es.size) p,kvs[i]?=some p->∃b,es[i].key=.ref b/\H b=some (.tup (p.1.map kV)):=by
 obtain ⟨z,hd,xs,rel,o,es,ep,h1,h2,h3,h4,h5⟩:=(show fO X.prog X.w H s.heap d (.dT kvs) from I.hok d _ e);have hl:es.size=kvs.length:=by
  have:=congrArg List.length h4;rw [aA,<-Paired.length rel] at this;simpa using this
 have hk:kvs.map (·.1)=xs.map (·.1):=by
  clear h4 h5 hl e z
  induction rel with
  | nil=>rfl
  | cons r t ih=>rw [bL,bL,r.1,ih]
 refine ⟨hd,hk ▸ h5,o,h1,h2,es,ep,h3,hl,λi hi p hp=>?_⟩;obtain ⟨x,hx,r1,r2,r3⟩:=xB rel hp;have he:es.toList[i]?=some (entryOfKey (tupleKind (dE X.prog X.w)) x):=by rw [h4,aN,hx];rfl
 have he2:es[i]=entryOfKey (tupleKind (dE X.prog X.w)) x:=by
  have:es.toList[i]?=some es[i]:=by simp [hi]
  rw [this] at he;injection he
 rw [he2];exact ⟨x.2.1,rfl,r2⟩
abbrev kyI(c:List Int):List eO:=c.map Sum.inl
theorem kyV(c:List Int):(kyI c).map kV=c.map V.int:=by rw [List.map_map];rfl
@[irreducible] def AU:List V->Hp->VK->Prop:=λxs H Q=>∃(d:Addr) (kvs:List (List eO × V)) (cs:List (List Int)),xs=[.ref d]/\H d=some (.dT kvs)/\kvs.map (·.1)=cs.map kyI/\(∀c∈cs,c≠[])/\cs.length<64 /\
 ∀q (ys:List V) (ds:List (List Int)) H',ds.Perm cs->ds.Pairwise (λa b=>pD a b=true)->H q=none->H' q=some (.lst ys)->aT H' (ds.map λc=>PyData.tuple (c.map .int)) ys->aU H H'->Q (.ref q) H'
theorem rsrd{H:Hp}{Q:VK}{d:Addr}{kvs:List (List eO × V)}{cs:List (List Int)}(h:H d=some (.dT kvs))(hk:kvs.map (·.1)=cs.map kyI)(hc:∀c∈cs,c≠[])(hz:cs.length<64)
  (q:∀q (ys:List V) (ds:List (List Int)) H',ds.Perm cs->ds.Pairwise (λa b=>pD a b=true)->H q=none->H' q=some (.lst ys)->aT H' (ds.map λc=>PyData.tuple (c.map .int)) ys->aU H H'->Q (.ref q) H'):AU [.ref d] H Q:=by
 unfold AU;exact ⟨d,kvs,cs,rfl,h,hk,hc,hz,q⟩
theorem VN{X:Cx}(hc:X.calm=true):lE X (.builtin "sorted") AU:=by
 unfold AU;intro pins s σ H xs us Q I r h;obtain ⟨d,kvs,cs,rfl,hq,hk,hne,hz,q⟩:=h;obtain ⟨u,rfl,rx⟩:=mS r;cases rx;obtain ⟨hm,hnd,o,hod,hex,es,ep,hdd,hsz,hat⟩:=aB7 I hq;have lk:kvs.length=cs.length:=by have:=congrArg List.length hk;simpa using this
 refine FV (EK (VA hm hex hdd) (show X.A.in1.handled=none from I.ok.hd hc) hod (by rw [sizeLine_eq];omega) λh1 tk acc kp hacc=>?_);obtain ⟨la,hacc⟩:=hacc;have I1:cJ X pins σ H { s with heap:=h1,toks:=tk }:=I.kept kp;have key:∀(n:Nat) (l:List Value),l.length=n->∀(m:List (List Int)),m.length=n->(∀(i:Nat) v c,l[i]?=some v->m[i]?=some c->∃b,v=.ref b/\H b=some (.tup (c.map V.int)))->∃ys:List V,dI ys l/\aT H (m.map λc=>PyData.tuple (c.map .int)) ys:=by
  intro n
  induction n with
  | zero =>
   intro l hl m hm _;cases l with
   | nil=>cases m with
    | nil=>exact ⟨[],.nil,aT.nil⟩
    | cons _ _=>simp at hm
   | cons _ _=>simp at hl
  | succ n ih =>
   intro l hl m hm hk;cases l with
   | nil=>simp at hl
   | cons v l=>cases m with
    | nil=>simp at hm
    | cons c m =>
     obtain ⟨b,rfl,hb⟩:=hk 0 v c rfl rfl;obtain ⟨ys,hv,hy⟩:=ih l (by simpa using hl) m (by simpa using hm) λi v p h1 h2=>hk (i+1) v p (by simpa using h1) (by simpa using h2);have rb:∀c:List Int,aT H (c.map PyData.int) (c.map V.int):=λc=>by
      induction c with
      | nil=>exact aT.nil
      | cons x c ih=>exact aT.cons (cA.int _) ih
     exact ⟨.ref b::ys,.cons rfl hv,aT.cons (cA.tup hb (rb c)) hy⟩
 have lacc:acc.toList.length=cs.length:=by rw [Array.length_toList,la,hsz,lk]
 obtain ⟨ys,hv,hy⟩:=key cs.length acc.toList lacc cs rfl λi v c e1 e2=>by
  obtain ⟨hi,e⟩:=hacc i v (by rw [<-Array.getElem?_toList];exact e1);have hp:∃p,kvs[i]?=some p/\p.1=kyI c:=by
   have:(kvs.map (·.1))[i]?=some (kyI c):=by rw [hk,aN,e2];rfl
   rw [aN] at this;obtain ⟨p,h1,h2⟩:=eL.mp this;exact ⟨p,h1,h2⟩
  obtain ⟨p,hp1,hp2⟩:=hp;obtain ⟨b,k1,k2⟩:=hat i hi p hp1;rw [hp2,kyV] at k2;exact ⟨b,by rw [e,k1],k2⟩
 have hnd2:cs.Nodup:=by
  rw [hk] at hnd;exact List.Pairwise.of_map _ (λa b h e=>h (by rw [e])) hnd
 have lys:ys.length=cs.length:=by rw [hy.len,aA]
 refine ⟨h1,tk,cs,rfl,kp,HR I1 hy hne hv,Oo,λpm h' D c hg ho keep hD hget=>?_⟩;have hperm:pm.toList.Perm (List.range cs.length):=by
  have:=(Array.perm_iff_toList_perm.mp hg);rw [<-lacc];simpa using this
 have hlt:∀i∈pm.toList,i<ys.length:=λi hi=>by
  have:=hperm.mem_iff.mp hi;rw [lys];simpa using this
 have hl2:(pm.toList.map λi=>ys.getD i .non).length=cs.length:=by rw [aA,hperm.length_eq,bD]
 have hn:=I1.hok.fresh hD;have sm:aU H (upd H D (.lst (pm.toList.map λi=>ys.getD i .non))):=aU.upd hn;refine ⟨.ref D,upd H D (.lst (pm.toList.map λi=>ys.getD i .non)),I1.laid (t':=tk) keep hD ⟨by rw [hl2,sizeLine_eq];omega,_,c,HN hv _ hlt,hget⟩,rfl,?_⟩;have ha:=ho (lacc ▸ aAw hnd2);have hsz2:=hg.size;have hpm:(pm.toList.map λi=>cs.getD i []).Perm cs:=by
  have h1:=hperm.map λi=>cs.getD i [];have e:(List.range cs.length).map (λi=>cs.getD i [])=cs:=by
   apply List.ext_getElem?;intro i;rw [aN];by_cases hi:i<cs.length
   ·rw [cK hi,aB hi,Option.map_some,bM,aB hi];rfl
   ·rw [dF (by simpa using hi),dF Oo];rfl
  rwa [e] at h1
 refine q D _ (pm.toList.map λi=>cs.getD i []) _ hpm ?_ hn bK ?_ sm
 ·rw [List.pairwise_map,List.pairwise_iff_getElem];intro i j hi hj hij;have hi':i<pm.size:=by simpa using hi
  have hj':j<pm.size:=by simpa using hj
  have e1:pm.toList[i]=pm.getD i 0:=by rw [Array.getElem_toList];exact (by simp [Array.getD,hi']:pm.getD i 0=pm[i]).symm
  have e2:pm.toList[j]=pm.getD j 0:=by rw [Array.getElem_toList];exact (by simp [Array.getD,hj']:pm.getD j 0=pm[j]).symm
  rw [e1,e2];exact ha i j hij (by rw [<-hsz2];exact hj')
 ·have rep:∀ix:List Nat,(∀i∈ix,i<cs.length)->aT H ((ix.map λi=>cs.getD i []).map λc=>PyData.tuple (c.map .int)) (ix.map λi=>ys.getD i .non):=λix=>by
   induction ix with
   | nil=>exact λ_=>aT.nil
   | cons i ix ih =>
    intro h;have hi:=h i (aW ..);have hd:(cs.map λc=>PyData.tuple (c.map .int))[i]?=some (PyData.tuple ((cs.getD i []).map .int)):=by
     rw [aN,bM,aB hi];rfl
    obtain ⟨x,hx,rx⟩:=hy.get' hd;have e2:ys.getD i .non=x:=by rw [bM,hx];rfl
    refine aT.cons ?_ (ih λj hj=>h j (aS _ hj));show cA H _ (ys.getD i .non);rw [e2];exact rx
  exact (rep pm.toList λi hi=>by rw [<-lys];exact hlt i hi).same sm
end L2
namespace L2
open PySem PySem.Spec PyProof.Rows
section
variable{X:Cx}
end
section
variable{X:Cx}
end
end L2
namespace L2
open PySem PySem.Spec PySem.W PyProof.Rows HT
@[irreducible] def IF(K:PySem.W.Frag):List V->Hp->VK->Prop:=λxs H Q=>∃(p:Addr) (ns:List Int),xs=[.ref p]/\fI K H p (ns.map V.int)/\0<ns.length/\∀M,M∈ns->(∀a,a∈ns->M<=a)->Q (.int M) H
theorem rmnl{K:PySem.W.Frag}{H:Hp}{Q:VK}{p:Addr}{ns:List Int}(h:fI K H p (ns.map V.int))(hn:0<ns.length)(q:∀M,M∈ns->(∀a,a∈ns->M<=a)->Q (.int M) H):IF K [.ref p] H Q:=by
 unfold IF;exact ⟨p,ns,rfl,h,hn,q⟩
theorem JG{X:Cx}(K:PySem.W.Frag)(hc:X.calm=true)(hK:X.K=K:=by rfl):lE X (.builtin "min") (IF K):=by
 subst hK;unfold IF;intro pins s σ H xs us Q I r h;obtain ⟨p,ns,rfl,hq,hn,q⟩:=h;obtain ⟨u,rfl,rx⟩:=mS r;cases rx;obtain ⟨its,r',pl,hz⟩:=I.list hq;have hi:=sC r';obtain ⟨zs,e⟩:=hi.allInts.items;have hns:ns=zs.toList.map (·.1):=by rw [<-hi.numsOf,<-nums_intItems,<-e]
 have hsz:0<zs.size:=by rw [hns,aA,Array.length_toList] at hn;exact hn
 rw [e] at pl;refine min_intList (I.ok.hd hc) pl.isList hsz λv h' tk hv hk=>?_;obtain ⟨t,rfl⟩:=intItems_at hv;obtain ⟨h1,h2⟩:=argBest_lt (numAt zs) (zs.size-1);refine ⟨.int _,H,I.kept hk,⟨t,rfl⟩,q _ ?_ λa ha=>?_⟩
 ·rw [hns,numAt_eq];exact getD_mem (by rw [aA,Array.length_toList];omega)
 ·rw [hns] at ha;obtain ⟨j,hj,rfl⟩:=mem_getD ha;rw [aA,Array.length_toList] at hj;rw [<-numAt_eq];exact h2 j Oo
end L2
namespace L2
open PySem PySem.Spec PyProof.Rows
section
variable{X:Cx}{a:Expr}{ta:TA}{p1 np p2 pos:Pos}
end
structure FnO(P:Program)(w:World)(K:PySem.W.Frag)(mg:Str->Option Value)(base:Heap)(k:Nat)(C:Addr)(ps:List Str)(sp:Sp):Prop where
 ex:∃(f:Addr) (fd:FuncData),dM P w K mg base cS k f fd ps sp/\Mk K C f/\tP K fd ps []
structure Own(K:PySem.W.Frag)(C:Addr)(fs:List Str):Prop where
 cls:XW K C
 no:∀f∈fs,lF K C f
@[irreducible] def TM(K:PySem.W.Frag)(f:Str)(x:V)(H:Hp)(Q:VK):Prop:=∃a C dx fs v,x=.ref a/\H a=some (.ins C dx fs)/\XW K C/\lF K C f/\fs.lookup f=some v/\Q v H
def WS(K:PySem.W.Frag)(ta:TE)(f:Str):TE:=λσ H Q=>ta σ H λx H1=>TM K f x H1 Q
section
variable{X:Cx}{k:Nat}{C:Addr}{ps:List Str}{sp:Sp}{x f:Str}{p pos pos':Pos}{e o value:Expr}{es:List Expr}{t:TA}{ta tv:TE}
theorem MW(F:FnO X.prog X.w X.K X.mg X.base k C ps sp)(hm:X.mg x=some (.ref C))(hr:jS (k+1) X.A)(ha:GX X (e::es) t)(hg:Gl X x:=by rfl)
  (hdb:(x == ("__debug__" : Str))=false:=by decide) (he:starEach (e::es) X.env=(false,eval e X.env)::starEach es X.env:=by first | exact gO | exact gP | exact dR | exact cZ)
  (hpl:(backTo pos (starEach es X.env)).any (·.1)=false:=by repeat (first | exact xY | refine tK (by first | exact gO | exact gP | exact dR | exact cZ) ?_)) :
  gW X (.Call (.Name x p) (e::es) [] pos) (WR C sp [] E0 t):=⟨by
 obtain ⟨f,fd,h1,h2,h3⟩:=F.ex;exact UI h2 h1 hr hg hm h3 .nil WZ ha.p hdb he hpl⟩
theorem gF(K:PySem.W.Frag)(he:gW X e ta)(hK:X.K=K:=by rfl)(hb:attributeBase e f X.env (eval e X.env)=eval e X.env:=by rfl):gW X (.Attribute e f pos) (WS K ta f):=⟨by
 subst hK;intro pins s σ H Q I h;refine aAt he.p hb pins s σ H Q I ?_;unfold WS TM at h;exact h⟩
theorem sF(ha:gW X o ta)(hv:gW X value tv)(hs:swapsWith value (some (.Attribute o f pos')) pos.line X.env=pure false:=by rfl):FB X (.Assign [.Attribute o f pos'] value pos) (aBA X.K ta tv f):=⟨aAj ha.p hv.p hs⟩
end
section
variable{K:PySem.W.Frag}{H:Hp}{a C dx:Addr}{fs:List (Str × V)}{v:V}{Q:VK}{f:Str}{ns:List Str}
theorem rM(O:Own K C ns)(hf:f∈ns)(e:H a=some (.ins C dx fs))(l:fs.lookup f=some v)(q:Q v H):TM K f (.ref a) H Q:=by
 unfold TM;exact ⟨a,C,dx,fs,v,rfl,e,O.cls,O.no f hf,l,q⟩
end
end L2
namespace Mf
def lw(n d:Int):Int × Int:=(n/(Int.gcd n d:Int),d/(Int.gcd n d:Int))
structure RQ(n d:Int):Prop where
 pos:0<d
 low:Int.gcd n d=1
theorem jF{n d:Int}(h:0<d):0<(Int.gcd n d:Int):=by
 have:=Int.gcd_pos_of_ne_zero_right n (Int.ne_of_gt h);omega
theorem jA{n d:Int}(h:0<d):RQ (lw n d).1 (lw n d).2:=by
 have g:=jF (n:=n) h;refine ⟨?_,?_⟩
 ·exact Int.ediv_pos_of_pos_of_dvd h (Int.le_of_lt g) (Int.gcd_dvd_right n d)
 ·exact Int.gcd_ediv_gcd_ediv_gcd Oo
theorem XC{n d:Int}:(lw n d).1*(Int.gcd n d:Int)=n/\(lw n d).2*(Int.gcd n d:Int)=d :=
 ⟨Int.ediv_mul_cancel (Int.gcd_dvd_left n d),Int.ediv_mul_cancel (Int.gcd_dvd_right n d)⟩
theorem qL{n d:Int}:(lw n d).1*d=n*(lw n d).2:=by
 obtain ⟨e1,e2⟩:=XC (n:=n) (d:=d);generalize (lw n d).1=a at *;generalize (lw n d).2=b at *;generalize (Int.gcd n d:Int)=g at *;rw [<-e1,<-e2];rw [Int.mul_assoc,Int.mul_comm g b]
theorem IW{b a d:Int}(h:b ∣ a*d)(g:Int.gcd b a=1):b ∣ d:=by
 rw [<-Int.natAbs_dvd_natAbs,eX] at h;rw [<-Int.natAbs_dvd_natAbs];rw [Int.gcd_eq_natAbs_gcd_natAbs] at g;exact Nat.Coprime.dvd_of_dvd_mul_left g h
theorem DO{a b c d:Int}(h1:RQ a b)(h2:RQ c d)(e:a*d=c*b):a=c/\b=d:=by
 have d1:b ∣ d:=by
  have:b ∣ a*d:=by rw [e];exact Int.dvd_mul_left c b
  exact IW this (by rw [Int.gcd_comm];exact h1.low)
 have d2:d ∣ b:=by
  have:d ∣ c*b:=by rw [<-e];exact Int.dvd_mul_left a d
  exact IW this (by rw [Int.gcd_comm];exact h2.low)
 have hb:=h1.pos;have hd:=h2.pos;have e1:b=d:=Int.dvd_antisymm (Int.le_of_lt hb) (Int.le_of_lt hd) d1 d2;subst e1;exact ⟨Int.eq_of_mul_eq_mul_right Oo e,rfl⟩
theorem BD{a b n d:Int}(h:RQ a b)(hd:0<d)(e:a*d=n*b):lw n d=(a,b):=by
 have c:=qL (n:=n) (d:=d);have q:=DO (jA (n:=n) hd) h (by
  have hd':d≠0:=Oo;apply Int.eq_of_mul_eq_mul_right hd'
  calc (lw n d).1*b*d=((lw n d).1*d)*b:=by rw [Int.mul_assoc,Int.mul_comm b d,<-Int.mul_assoc]
   _=(n*(lw n d).2)*b:=by rw [c]
   _=(n*b)*(lw n d).2:=by rw [Int.mul_assoc,Int.mul_comm (lw n d).2 b,<-Int.mul_assoc]
   _=(a*d)*(lw n d).2:=by rw [e]
   _=a*(lw n d).2*d:=by rw [Int.mul_assoc,Int.mul_comm d,<-Int.mul_assoc])
 exact Prod.ext q.1 q.2
theorem IL{a b:Int}(h:RQ a b):lw a b=(a,b):=BD h h.pos rfl
theorem pI{u a b:Int}(h1:Int.gcd u a=1)(h2:Int.gcd u b=1):Int.gcd u (a*b)=1:=by
 rw [Int.gcd_eq_natAbs_gcd_natAbs] at *;rw [eX];exact Nat.Coprime.mul_right h1 h2
theorem mN{a b c:Int}(h:Int.gcd a b=1)(d:c ∣ b):Int.gcd a c=1:=by
 have:=Int.gcd_dvd_gcd_of_dvd_right a d;rw [h] at this;exact Nat.eq_one_of_dvd_one this
theorem jG{a b c:Int}(h:Int.gcd a b=1)(d:c ∣ a):Int.gcd c b=1:=by
 rw [Int.gcd_comm] at *;exact mN h d
theorem UE{a b c d:Int}(h1:RQ a b)(h2:RQ c d) :
  let g:Int:=Int.gcd b d
  let u:=a*(d/g)+c*(b/g)
  let l:Int:=Int.gcd u g
  lw (a*d+c*b) (b*d)=(u/l,(b/g)*(d/l)):=by
 intro g u l;have hg:0<g:=jF h2.pos;have hl:0<l:=jF hg;obtain ⟨b',eb⟩:=Int.gcd_dvd_left b d;obtain ⟨d',ed⟩:=Int.gcd_dvd_right b d;have eb:b=g*b':=eb;have ed:d=g*d':=ed;have qb:b/g=b':=by rw [eb];exact Int.mul_ediv_cancel_left _ Oo
 have qd:d/g=d':=by rw [ed];exact Int.mul_ediv_cancel_left _ Oo
 have eu:u=a*d' + c*b':=by show a*(d/g)+c*(b/g)=_;rw [qb,qd]
 have cbd:Int.gcd b' d'=1:=by
  have:=Int.gcd_ediv_gcd_ediv_gcd (i:=b) (j:=d) (by have:0<(Int.gcd b d:Int):=hg;omega);have h:Int.gcd (b/g) (d/g)=1:=this
  rwa [qb,qd] at h
 have cab:Int.gcd a b'=1:=mN h1.low ⟨g,by rw [eb,Int.mul_comm]⟩;have ccd:Int.gcd c d'=1:=mN h2.low ⟨g,by rw [ed,Int.mul_comm]⟩;have ub:Int.gcd u b'=1:=by
  rw [eu,Int.add_comm,Int.gcd_mul_right_add_left,Int.gcd_mul_right_left_of_gcd_eq_one cab,Int.gcd_comm];exact cbd
 have ud:Int.gcd u d'=1:=by
  rw [eu,Int.gcd_mul_right_add_left,Int.gcd_mul_right_left_of_gcd_eq_one ccd];exact cbd
 obtain ⟨u',eu'⟩:=Int.gcd_dvd_left u g;obtain ⟨g',eg'⟩:=Int.gcd_dvd_right u g;have eu':u=l*u':=eu';have eg':g=l*g':=eg';have qu:u/l=u':=by rw [eu'];exact Int.mul_ediv_cancel_left _ Oo
 have qdl:d/l=g' * d':=by rw [ed,eg',Int.mul_assoc];exact Int.mul_ediv_cancel_left _ Oo
 have cug:Int.gcd u' g'=1:=by
  have:=Int.gcd_ediv_gcd_ediv_gcd (i:=u) (j:=g) (by have:0<(Int.gcd u g:Int):=hl;omega);have h:Int.gcd (u/l) (g/l)=1:=this;rw [qu] at h
  rwa [show g/l=g' from by rw [eg'];exact Int.mul_ediv_cancel_left _ Oo] at h
 rw [qu,qb,qdl];have hu':u' ∣ u:=⟨l,by rw [eu',Int.mul_comm]⟩;have hb':0<b':=by
  have:=h1.pos;rw [eb] at this;exact Int.pos_of_mul_pos_right this Oo
 have hd':0<d':=by
  have:=h2.pos;rw [ed] at this;exact Int.pos_of_mul_pos_right this Oo
 have hg':0<g':=by
  have:=hg;rw [eg'] at this;exact Int.pos_of_mul_pos_right this Oo
 refine BD ⟨Int.mul_pos hb' (Int.mul_pos hg' hd'),?_⟩ (Int.mul_pos h1.pos h2.pos) ?_
 ·exact pI (jG ub hu') (pI cug (jG ud hu'))
 ·have e1:a*d+c*b=g*(l*u'):=by
   rw [<-eu',eu,eb,ed];rw [Int.mul_add,Int.mul_left_comm a,Int.mul_left_comm c]
  rw [e1,eb,ed];generalize hG:g=G at *;rw [eg'];simp only [Int.mul_assoc,Int.mul_left_comm,Int.mul_comm]
theorem ND{a b c d:Int}(h1:RQ a b)(h2:RQ c d) :
  let f:Int:=Int.gcd a d
  let s:Int:=Int.gcd c b
  lw (a*c) (b*d)=((a/f)*(c/s),(b/s)*(d/f)):=by
 intro f s;have hf:0<f:=jF h2.pos;have hs:0<s:=jF h1.pos;obtain ⟨a',ea⟩:=Int.gcd_dvd_left a d;obtain ⟨d',ed⟩:=Int.gcd_dvd_right a d;obtain ⟨c',ec⟩:=Int.gcd_dvd_left c b;obtain ⟨b',eb⟩:=Int.gcd_dvd_right c b;have ea:a=f*a':=ea;have ed:d=f*d':=ed;have ec:c=s*c':=ec;have eb:b=s*b':=eb;have qa:a/f=a':=by rw [ea];exact Int.mul_ediv_cancel_left _ Oo
 have qd:d/f=d':=by rw [ed];exact Int.mul_ediv_cancel_left _ Oo
 have qc:c/s=c':=by rw [ec];exact Int.mul_ediv_cancel_left _ Oo
 have qb:b/s=b':=by rw [eb];exact Int.mul_ediv_cancel_left _ Oo
 have cad:Int.gcd a' d'=1:=by
  have:=Int.gcd_ediv_gcd_ediv_gcd (i:=a) (j:=d) (by have:0<(Int.gcd a d:Int):=hf;omega);have h:Int.gcd (a/f) (d/f)=1:=this
  rwa [qa,qd] at h
 have ccb:Int.gcd c' b'=1:=by
  have:=Int.gcd_ediv_gcd_ediv_gcd (i:=c) (j:=b) (by have:0<(Int.gcd c b:Int):=hs;omega);have h:Int.gcd (c/s) (b/s)=1:=this
  rwa [qc,qb] at h
 have cab:Int.gcd a' b'=1:=jG (mN h1.low ⟨s,by rw [eb,Int.mul_comm]⟩) ⟨f,by rw [ea,Int.mul_comm]⟩;have ccd:Int.gcd c' d'=1:=jG (mN h2.low ⟨f,by rw [ed,Int.mul_comm]⟩) ⟨s,by rw [ec,Int.mul_comm]⟩;have hb':0<b':=by
  have:=h1.pos;rw [eb] at this;exact Int.pos_of_mul_pos_right this Oo
 have hd':0<d':=by
  have:=h2.pos;rw [ed] at this;exact Int.pos_of_mul_pos_right this Oo
 rw [qa,qb,qc,qd];refine BD ⟨Int.mul_pos hb' hd',?_⟩ (Int.mul_pos h1.pos h2.pos) ?_
 ·have x1:Int.gcd a' (b' * d')=1:=pI cab cad;have x2:Int.gcd c' (b' * d')=1:=pI ccb ccd;rw [Int.gcd_comm] at x1 x2 ⊢;exact pI x1 x2
 ·rw [ea,eb,ec,ed];simp only [Int.mul_assoc,Int.mul_left_comm,Int.mul_comm]
end Mf
namespace Mf
abbrev Fr:=Int × Int
def lO(x y:Fr):Fr:=lw (x.1*y.2+y.1*x.2) (x.2*y.2)
def lW(fs:List Fr):Fr:=fs.foldl lO (0,1)
def cV(f:Fr):Prop:=RQ f.1 f.2
theorem oY{α:Type}{P:List α->Prop}(h0:P [])(hs:∀l a,P l->P (l++[a]))(l:List α):P l:=by
 have:∀r:List α,P r.reverse:=by
  intro r
  induction r with
  | nil=>exact h0
  | cons a r ih=>rw [List.reverse_cons];exact hs _ _ ih
 have:=this l.reverse
 rwa [List.reverse_reverse] at this
theorem nI(l:List Fr)(a:Fr):lW (l++[a])=lO (lW l) a:=by unfold lW;rw [List.foldl_append];rfl
theorem wJ(l:List Fr):(∀f∈l,cV f)->cV (lW l):=by
 refine oY (P:=λl=>(∀f∈l,cV f)->cV (lW l)) (λ_=>⟨Dd,Dd⟩) (λl a ih h=>?_) l;rw [nI];have h1:=ih λf hf=>h f (bZ _ hf);have h2:=h a (bI _ aW);exact jA (Int.mul_pos h1.pos h2.pos)
theorem IM{n d:Int}(h:0<d):(lw n d).2<=d/\(lw n d).1.natAbs<=n.natAbs:=by
 obtain ⟨e1,e2⟩:=XC (n:=n) (d:=d);have g:=jF (n:=n) h;have p:=(jA (n:=n) h).pos;generalize (lw n d).1=a at *;generalize (lw n d).2=b at *;generalize (Int.gcd n d:Int)=G at *;refine ⟨?_,?_⟩
 ·rw [<-e2];have:=Int.mul_le_mul_of_nonneg_left (show (1:Int)<=G by omega) (Int.le_of_lt p);simpa using this
 ·rw [<-e1,eX];exact Nat.le_mul_of_pos_right _ Oo
def IN(x y:Fr):Prop:=x.1*y.2<y.1*x.2
theorem DN{x y z:Fr}(hx:0<x.2)(hy:0<y.2)(hz:0<z.2)(h1:IN x y)(h2:¬IN z y):IN x z:=by
 unfold IN at *;have h2:y.1*z.2<=z.1*y.2:=Oo;have a:(x.1*y.2)*z.2<(y.1*x.2)*z.2:=Int.mul_lt_mul_of_pos_right h1 hz;have b:(y.1*z.2)*x.2<=(z.1*y.2)*x.2:=Int.mul_le_mul_of_nonneg_right h2 (Int.le_of_lt hx);have c:(x.1*z.2)*y.2<(z.1*x.2)*y.2:=by
  calc (x.1*z.2)*y.2=(x.1*y.2)*z.2:=by simp only [Int.mul_assoc,Int.mul_left_comm,Int.mul_comm]
   _<(y.1*x.2)*z.2:=a
   _=(y.1*z.2)*x.2:=by simp only [Int.mul_assoc,Int.mul_left_comm,Int.mul_comm]
   _<=(z.1*y.2)*x.2:=b
   _=(z.1*x.2)*y.2:=by simp only [Int.mul_assoc,Int.mul_left_comm,Int.mul_comm]
 exact Int.lt_of_mul_lt_mul_right c (Int.le_of_lt hy)
theorem LC{x y:Fr}(h:IN x y):¬IN y x:=by unfold IN at *;omega
theorem xG{x:Fr}:¬IN x x:=by unfold IN;omega
structure gS(fs:List Fr)(n p:Nat)(y:Fr):Prop where
 at_:fs[p]?=some y
 lt:p<n
 no:∀(j:Nat) (x:Fr),j<n->fs[j]?=some x->¬IN x y
 first:∀(j:Nat) (x:Fr),j<p->fs[j]?=some x->IN y x
theorem gS.one{fs:List Fr}{y:Fr}(h:fs[0]?=some y):gS fs 1 0 y :=
 ⟨h,Oo,λj x hj e=>by have:j=0:=Oo;subst this;rw [h] at e;cases e;exact xG,λj x hj _=>Oo⟩
theorem gS.next{fs:List Fr}{n p:Nat}{y z:Fr}(L:gS fs n p y)(hp:∀f∈fs,cV f)(hz:fs[n]?=some z)(h:IN z y):gS fs (n+1) n z:=by
 have pos:∀{j:Nat} {x:Fr},fs[j]?=some x->0<x.2:=λe=>(hp _ (aF e)).pos;have all:∀(j:Nat) (x:Fr),j<n->fs[j]?=some x->IN z x:=λj x hj e=>DN (pos hz) (pos L.at_) (pos e) h (L.no j x hj e);refine ⟨hz,Oo,λj x hj e=>?_,all⟩;by_cases q:j=n
 ·subst q;rw [hz] at e;cases e;exact xG
 ·exact LC (all j x Oo e)
theorem gS.stay{fs:List Fr}{n p:Nat}{y z:Fr}(L:gS fs n p y)(hz:fs[n]?=some z)(h:¬IN z y):gS fs (n+1) p y :=
 ⟨L.at_,by have:=L.lt;omega,λj x hj e=>by
  by_cases q:j=n
  ·subst q;rw [hz] at e;cases e;exact h
  ·exact L.no j x Oo e,L.first⟩
end Mf
namespace Mf
theorem PD{n d n' d':Int}(hd:0<d)(hd':0<d')(e:n*d'=n' * d):lw n d=lw n' d':=by
 have h:=jA (n:=n') hd';have c:=qL (n:=n') (d:=d');generalize lw n' d'=L at c h;refine BD (a:=L.1) (b:=L.2) h hd ?_;refine Int.eq_of_mul_eq_mul_right (a:=d') Oo ?_
 calc L.1*d*d'=(L.1*d')*d:=by ac_rfl
  _=n' * L.2*d:=by rw [c]
  _=(n' * d)*L.2:=by ac_rfl
  _=n*d' * L.2:=by rw [e]
  _=n*L.2*d':=by ac_rfl
def iZ(f g:Fr):Fr:=lw (f.1*g.1) (f.2*g.2)
theorem fZ{f g:Fr}(h:cV f)(h':cV g):cV (iZ f g):=jA (Int.mul_pos h.pos h'.pos)
theorem aAB{a b c d:Int}(hb:0<b)(hd:0<d):iZ (lw a b) (lw c d)=lw (a*c) (b*d):=by
 have h1:=(jA (n:=a) hb).pos;have h2:=(jA (n:=c) hd).pos;refine PD (Int.mul_pos h1 h2) (Int.mul_pos hb hd) ?_;have e1:=qL (n:=a) (d:=b);have e2:=qL (n:=c) (d:=d);generalize lw a b=L at *;generalize lw c d=M at *
 calc L.1*M.1*(b*d)=(L.1*b)*(M.1*d):=by ac_rfl
  _=(a*L.2)*(c*M.2):=by rw [e1,e2]
  _=a*c*(L.2*M.2):=by ac_rfl
def uF(f:Fr)(c:Nat):Fr:=(f.1^c,f.2^c)
theorem mH{f:Fr}(h:cV f):∀c:Nat,cV (uF f c)
 | 0=>⟨by show 0<f.2^0;rw [Int.pow_zero];decide,by show Int.gcd (f.1^0) (f.2^0)=1;rw [Int.pow_zero,Int.pow_zero];decide⟩
 | c+1=>by
  have ih:=mH h c;have k:∀n:Nat,Int.gcd f.1 (f.2^n)=1:=λn=>by
   induction n with
   | zero=>rw [Int.pow_zero];exact Int.gcd_one_right _
   | succ n ih=>rw [Int.pow_succ];exact pI ih h.low
  refine ⟨?_,?_⟩
  ·show 0<f.2^(c+1);rw [Int.pow_succ];exact Int.mul_pos ih.pos h.pos
  ·show Int.gcd (f.1^(c+1)) (f.2^(c+1))=1;have k2:∀n:Nat,Int.gcd (f.2^(c+1)) (f.1^n)=1:=λn=>by
    induction n with
    | zero=>rw [Int.pow_zero];exact Int.gcd_one_right _
    | succ n ih=>rw [show f.1^(n+1)=f.1^n*f.1 from Int.pow_succ ..];exact pI ih (by rw [Int.gcd_comm];exact k (c+1))
   rw [Int.gcd_comm];exact k2 (c+1)
def tR(zs:List (Fr × Nat)):Fr:=zs.foldl (λp q=>(p.1*q.1.1^q.2,p.2*q.1.2^q.2)) (1,1)
def kR(zs:List (Fr × Nat)):Fr:=zs.foldl (λp q=>iZ p (uF q.1 q.2)) (1,1)
theorem tQ(l:List (Fr × Nat))(a:Fr × Nat):tR (l++[a])=((tR l).1*a.1.1^a.2,(tR l).2*a.1.2^a.2):=by unfold tR;rw [List.foldl_append];rfl
theorem tS(l:List (Fr × Nat))(a:Fr × Nat):kR (l++[a])=iZ (kR l) (uF a.1 a.2):=by unfold kR;rw [List.foldl_append];rfl
theorem wG(l:List (Fr × Nat)):(∀z∈l,cV z.1)->0<(tR l).2:=by
 induction l using oY with
 | h0=>intro _;decide
 | hs l a ih =>
  intro h;rw [tQ];exact Int.mul_pos (ih λf hf=>h f (bZ _ hf)) (mH (h a (by simp)) a.2).pos
theorem HJ(l:List (Fr × Nat)):(∀z∈l,cV z.1)->kR l=lw (tR l).1 (tR l).2:=by
 induction l using oY with
 | h0=>intro _;rfl
 | hs l a ih =>
  intro h;have hl:∀f∈l,cV f.1:=λf hf=>h f (bZ _ hf);have ha:=mH (h a (by simp)) a.2;rw [tS,tQ,ih hl];have e:uF a.1 a.2=lw (a.1.1^a.2) (a.1.2^a.2):=(IL ha).symm;rw [e,aAB (wG l hl) (show 0<a.1.2^a.2 from ha.pos)]
theorem sH(l:List (Fr × Nat))(h:∀z∈l,cV z.1):cV (kR l):=by rw [HJ l h];exact jA (wG l h)
theorem uE{x:Int}{B:Nat}(h:x.natAbs<=2^B)(c:Nat):(x^c).natAbs<=2^(B*c):=by
 rw [Int.natAbs_pow,Nat.pow_mul];exact Nat.pow_le_pow_left h c
theorem RW{B:Nat}(l:List (Fr × Nat)):(∀z∈l,z.1.1.natAbs<=2^B/\z.1.2.natAbs<=2^B)->(tR l).1.natAbs<=2^(B*(l.map (·.2)).sum)/\(tR l).2.natAbs<=2^(B*(l.map (·.2)).sum):=by
 induction l using oY with
 | h0=>intro _;exact ⟨Nat.one_le_two_pow,Nat.one_le_two_pow⟩
 | hs l a ih =>
  intro h;obtain ⟨i1,i2⟩:=ih λf hf=>h f (bZ _ hf);obtain ⟨a1,a2⟩:=h a (by simp);rw [tQ,bE,List.sum_append,show ([a].map (·.2)).sum=a.2 by simp,Nat.mul_add,Nat.pow_add];exact ⟨by show ((tR l).1*a.1.1^a.2).natAbs<=_;rw [eX];exact Nat.mul_le_mul i1 (uE a1 _),by show ((tR l).2*a.1.2^a.2).natAbs<=_;rw [eX];exact Nat.mul_le_mul i2 (uE a2 _)⟩
theorem RX{B:Nat}(l:List (Fr × Nat))(hl:∀z∈l,cV z.1)(h:∀z∈l,z.1.1.natAbs<=2^B/\z.1.2.natAbs<=2^B):(kR l).1.natAbs<=2^(B*(l.map (·.2)).sum)/\(kR l).2.natAbs<=2^(B*(l.map (·.2)).sum):=by
 obtain ⟨h1,h2⟩:=RW l h;rw [HJ l hl];have hp:=wG l hl;obtain ⟨l1,l2⟩:=IM (n:=(tR l).1) hp;have:=(jA (n:=(tR l).1) hp).pos;exact ⟨aK l2 h1,Oo⟩
end Mf
namespace Mf
def rv(f:Fr):Rat:=(f.1:Rat)/(f.2:Rat)
theorem GL{d:Int}(h:0<d):(0:Rat)<(d:Rat):=by exact_mod_cast h
theorem kG{d:Int}(h:0<d):(d:Rat)≠0:=by have:=GL h;grind
theorem sS{f:Fr}(h:0<f.2):rv f*(f.2:Rat)=(f.1:Rat):=by
 have:=kG h;unfold rv;grind
theorem DB{n d:Int}(h:0<d):rv (lw n d)=(n:Rat)/(d:Rat):=by
 have e:=qL (n:=n) (d:=d);have p:=(jA (n:=n) h).pos;have h1:=kG h;have h2:=kG p;have e':((lw n d).1:Rat)*(d:Rat)=(n:Rat)*((lw n d).2:Rat):=by exact_mod_cast e
 unfold rv;generalize ((lw n d).1:Rat)=a at *;generalize ((lw n d).2:Rat)=b at *;grind
theorem rV{f g:Fr}(hf:0<f.2)(hg:0<g.2):rv (lO f g)=rv f+rv g:=by
 unfold lO;rw [DB (Int.mul_pos hf hg)];have h1:=kG hf;have h2:=kG hg;unfold rv;rw [Rat.intCast_add,Rat.intCast_mul,Rat.intCast_mul,Rat.intCast_mul];grind
theorem iX{f g:Fr}(hf:0<f.2)(hg:0<g.2):rv (iZ f g)=rv f*rv g:=by
 unfold iZ;rw [DB (Int.mul_pos hf hg)];have h1:=kG hf;have h2:=kG hg;unfold rv;rw [Rat.intCast_mul,Rat.intCast_mul];grind
theorem FY(f:Fr):rv (-f.1,f.2)=- rv f:=by
 unfold rv;rw [show (((-f.1,f.2):Fr).1:Rat)=-(f.1:Rat) by rw [<-Rat.intCast_neg]];grind
theorem gZ{f g:Fr}(hf:cV f)(hg:cV g)(e:rv f=rv g):f=g:=by
 have h1:=kG hf.pos;have h2:=kG hg.pos;have e':(f.1:Rat)*(g.2:Rat)=(g.1:Rat)*(f.2:Rat):=by
  have a:=sS hf.pos;have b:=sS hg.pos;rw [<-a,<-b,e];grind
 have q:=DO hf hg (by exact_mod_cast e');exact Prod.ext q.1 q.2
theorem WX{f g:Fr}(hf:0<f.2)(hg:0<g.2):f.1*g.2<g.1*f.2↔rv f<rv g:=by
 have h1:=GL hf;have h2:=GL hg;have a:=sS hf;have b:=sS hg;have p:(0:Rat)<(f.2:Rat)*(g.2:Rat):=Rat.mul_pos h1 h2;have c1:((f.1*g.2:Int):Rat)=rv f*((f.2:Rat)*(g.2:Rat)):=by rw [Rat.intCast_mul,<-a];grind
 have c2:((g.1*f.2:Int):Rat)=rv g*((f.2:Rat)*(g.2:Rat)):=by rw [Rat.intCast_mul,<-b];grind
 rw [<-Rat.intCast_lt_intCast,c1,c2];constructor
 ·intro h;exact Rat.lt_of_mul_lt_mul_right h (Rat.le_of_lt p)
 ·intro h;exact Rat.mul_lt_mul_of_pos_right h p
theorem oX:rv (0,1)=0:=by unfold rv;grind
theorem uA:rv (1,1)=1:=by unfold rv;grind
def rH(l:List Rat):Rat:=l.foldr (· + ·) 0
theorem wO:rH []=0:=rfl
theorem nM(x:Rat)(l:List Rat):rH (x::l)=x+rH l:=rfl
theorem sI:∀(a b:List Rat),rH (a++b)=rH a+rH b
 | [],b=>by rw [wO,List.nil_append];grind
 | x::a,b=>by rw [List.cons_append,nM,nM,sI a b];grind
theorem NX(l:List Fr):(∀f∈l,cV f)->rv (lW l)=rH (l.map rv):=by
 induction l using oY with
 | h0=>intro _;exact oX
 | hs l a ih =>
  intro h;have hl:∀f∈l,cV f:=λf hf=>h f (bZ _ hf);rw [nI,rV (wJ l hl).pos (h a (by simp)).pos,ih hl,bE,sI,bL,List.map_nil,nM,wO];grind
def Fn(N B:Nat)(f:Fr):Prop:=cV f/\∃x:Int,rv f*(N:Rat)=(x:Rat)/\x.natAbs<=B*N
theorem Fn.low{N B:Nat}{f:Fr}(h:Fn N B f):cV f:=h.1
theorem Fn.le{N B C:Nat}{f:Fr}(h:Fn N B f)(hB:B<=C):Fn N C f:=by
 obtain ⟨l,x,h1,h2⟩:=h;exact ⟨l,x,h1,aK h2 (bT _ hB)⟩
theorem tN{f g:Fr}(h:cV f)(h':cV g):cV (lO f g):=jA (Int.mul_pos h.pos h'.pos)
theorem Fn.add{N B C:Nat}{f g:Fr}(h:Fn N B f)(h':Fn N C g):Fn N (B+C) (lO f g):=by
 obtain ⟨l,x,h1,h2⟩:=h;obtain ⟨l',y,h3,h4⟩:=h';refine ⟨tN l l',x+y,?_,?_⟩
 ·rw [rV l.pos l'.pos,Rat.intCast_add,<-h1,<-h3];grind
 ·rw [Nat.add_mul];omega
theorem Fn.mul{N M B C:Nat}{f g:Fr}(h:Fn N B f)(h':Fn M C g):Fn (N*M) (B*C) (iZ f g):=by
 obtain ⟨l,x,h1,h2⟩:=h;obtain ⟨l',y,h3,h4⟩:=h';refine ⟨fZ l l',x*y,?_,?_⟩
 ·rw [iX l.pos l'.pos,Rat.intCast_mul,<-h1,<-h3,Rat.natCast_mul];grind
 ·rw [eX];have:=Nat.mul_le_mul h2 h4;rw [Nat.mul_mul_mul_comm] at this;exact this
theorem Fn.neg{N B:Nat}{f:Fr}(h:Fn N B f):Fn N B (-f.1,f.2):=by
 obtain ⟨l,x,h1,h2⟩:=h;refine ⟨⟨l.pos,by show Int.gcd (-f.1) f.2=1;rw [Int.neg_gcd];exact l.low⟩,-x,?_,?_⟩
 ·rw [FY,Rat.intCast_neg,<-h1];grind
 ·rw [Int.natAbs_neg];exact h2
theorem Fn.up{N B:Nat}{f:Fr}(h:Fn N B f)(M:Nat):Fn (N*M) B f:=by
 obtain ⟨l,x,h1,h2⟩:=h;refine ⟨l,x*(M:Int),?_,?_⟩
 ·rw [Rat.intCast_mul,<-h1,Rat.natCast_mul];have:((M:Int):Rat)=(M:Rat):=rfl;rw [this];grind
 ·rw [eX,<-Nat.mul_assoc];exact bT _ h2
theorem Fn.dvd{N M B:Nat}{f:Fr}(h:Fn N B f)(d:N ∣ M):Fn M B f:=by
 obtain ⟨e,rfl⟩:=d;exact h.up e
theorem uL(N:Nat):((N:Int):Rat)=(N:Rat):=rfl
theorem UW:cV (0,1):=⟨Dd,Dd⟩
theorem UX:cV (1,1):=⟨Dd,Dd⟩
theorem Fn.zero(N:Nat):Fn N 0 (0,1):=⟨UW,0,by rw [oX];grind,by simp⟩
theorem Fn.one(N:Nat):Fn N 1 (1,1):=⟨UX,N,by rw [uA,uL];grind,by simp⟩
theorem Fn.eq{N B:Nat}{f:Fr}(h:Fn N B f)(hN:0<N):∃x:Int,f=lw x (N:Int)/\x.natAbs<=B*N:=by
 obtain ⟨l,x,h1,h2⟩:=h;have hp:(0:Int)<(N:Int):=Oo;refine ⟨x,gZ l (jA hp) ?_,h2⟩;rw [DB hp,<-h1,uL];have:=kG hp;rw [uL] at this;grind
theorem Fn.of{n d:Int}{B:Nat}(h:0<d)(hB:n.natAbs<=B*d.natAbs):Fn d.natAbs B (lw n d):=by
 refine ⟨jA h,n,?_,hB⟩;have e:(d.natAbs:Int)=d:=Oo;rw [DB h,<-uL,e];have:=kG h;grind
theorem Fn.num{N B:Nat}{f:Fr}(h:Fn N B f)(hN:0<N):f.1.natAbs<=B*N/\f.2.natAbs<=N:=by
 obtain ⟨x,rfl,h2⟩:=h.eq hN;have q:=IM (n:=x) (d:=(N:Int)) Oo;have p:=(jA (n:=x) (d:=(N:Int)) Oo).pos;omega
theorem Fn.tot{N B:Nat}:∀(fs:List Fr),(∀f∈fs,Fn N B f)->Fn N (fs.length*B) (lW fs):=by
 intro fs
 induction fs using oY with
 | h0=>intro _;exact (Fn.zero N).le (cG _)
 | hs l a ih =>
  intro h;rw [nI,aP,List.length_singleton,Nat.add_mul,Nat.one_mul];exact (ih λf hf=>h f (bZ _ hf)).add (h a (bI _ (aY.mpr rfl)))
end Mf
namespace Mf
def kF:List Rat->Rat
 | []=>0
 | [x]=>x
 | x::y::l=>if x<=kF (y::l) then x else kF (y::l)
theorem rC:∀{l:List Rat}{x:Rat},x∈l->kF l<=x
 | [],x,h=>by cases h
 | [y],x,h=>by
  rw [aY.mp h];exact Rat.le_refl
 | a::b::l,x,h=>by
  have ih:=λx h=>rC (l:=b::l) (x:=x) h;unfold kF;rcases bF.mp h with rfl | h
  ·split
   ·exact Rat.le_refl
   ·grind
  ·have:=ih x h;split <;> grind
theorem oG:∀{l:List Rat},l≠[]->kF l∈l
 | [],h=>absurd rfl h
 | [y],_=>aY.mpr rfl
 | a::b::l,_=>by
  have ih:=oG (l:=b::l) (by simp);unfold kF;split
  ·exact aW ..
  ·exact aS _ ih
theorem BB{l:List Rat}{m:Rat}(h:m∈l)(k:∀x∈l,m<=x):kF l=m:=by
 have h1:=rC h;have h2:=k _ (oG (l:=l) (λe=>by rw [e] at h;cases h));grind
def cD(n:Nat)(f:Nat->Rat):Rat:=rH ((List.range n).map f)
theorem gG(f:Nat->Rat):cD 0 f=0:=rfl
theorem dW(n:Nat)(f:Nat->Rat):cD (n+1) f=cD n f+f n:=by
 unfold cD;rw [List.range_succ,bE,sI,bL,List.map_nil,nM,wO];grind
theorem cH{n:Nat}{f g:Nat->Rat}(h:∀i,i<n->f i=g i):cD n f=cD n g:=by
 induction n with
 | zero=>rfl
 | succ n ih=>rw [dW,dW,ih λi hi=>h i Oo,h n Oo]
theorem wN(n:Nat)(f g:Nat->Rat):cD n (λi=>f i+g i)=cD n f+cD n g:=by
 induction n with
 | zero=>rw [gG,gG,gG];grind
 | succ n ih=>rw [dW,dW,dW,ih];grind
theorem iF(n:Nat)(a:Rat)(f:Nat->Rat):cD n (λi=>a*f i)=a*cD n f:=by
 induction n with
 | zero=>rw [gG,gG];grind
 | succ n ih=>rw [dW,dW,ih];grind
theorem tV{n:Nat}{f g:Nat->Rat}(h:∀i,i<n->f i<=g i):cD n f<=cD n g:=by
 induction n with
 | zero=>rw [gG,gG];exact Rat.le_refl
 | succ n ih =>
  have h1:=ih λi hi=>h i Oo;have h2:=h n Oo;rw [dW,dW];grind
theorem nK(n:Nat):cD n (λ_=>0)=0:=by
 induction n with
 | zero=>rfl
 | succ n ih=>rw [dW,ih];grind
theorem SG{n:Nat}{f:Nat->Rat}(h:∀i,i<n->0<=f i):0<=cD n f:=by
 have:=tV (n:=n) (f:=λ_=>0) (g:=f) h
 rwa [nK] at this
theorem wM{n:Nat}(f:Nat->Rat){w:Nat}(h:w<n):cD n f-f w=cD n (λi=>if i=w then 0 else f i):=by
 induction n with
 | zero=>omega
 | succ n ih =>
  rw [dW,dW];by_cases e:w=n
  ·subst e;rw [if_pos rfl,cH (g:=f) λi hi=>if_neg Oo];grind
  ·rw [if_neg (λq=>e q.symm),<-ih Oo];grind
def bP(c:List Nat)(i:Nat):List Nat:=c.set i (c.getD i 0+1)
def kE(W:Nat)(d:Nat->Rat):List Rat:=(List.range W).map λw=>cD W d-d w
theorem lA{W:Nat}{d:Nat->Rat}{x:Rat}:x∈kE W d ↔ ∃w,w<W/\x=cD W d-d w:=by
 unfold kE;rw [aQ];constructor
 ·rintro ⟨w,h,rfl⟩;exact ⟨w,bU.mp h,rfl⟩
 ·rintro ⟨w,h,rfl⟩;exact ⟨w,bU.mpr h,rfl⟩
def nG(W F:Nat)(q:Nat->List Nat->Rat)(mix ps cs:Nat->Rat):Nat->List Nat->Rat
 | 0,c=>kF (kE W λv=>ps v*q v c)
 | n+1,c=>kF (kE W (λv=>ps v*q v c)++[cs c.sum*cD W (λv=>mix v*q v c)+cD F (λj=>nG W F q mix ps cs n (bP c j))])
section
variable{W F:Nat}{q:Nat->List Nat->Rat}{mix ps ps' cs:Nat->Rat}
theorem yQ(n:Nat)(c:List Nat):nG W F q mix ps cs (n+1) c=kF (kE W (λv=>ps v*q v c)++[cs c.sum*cD W (λv=>mix v*q v c)+cD F (λj=>nG W F q mix ps cs n (bP c j))]):=rfl
theorem FX(hW:0<W)(d:Nat->Rat):kE W d≠[]:=λe=>by
 have:cD W d-d 0∈kE W d:=lA.mpr ⟨0,hW,rfl⟩;rw [e] at this;cases this
end
end Mf
namespace Mf
theorem AJ:∀(l:List Nat) (j v x:Nat),l[j]?=some x->(l.set j v).sum+x=l.sum+v
 | [],j,v,x,h=>by simp at h
 | a::l,0,v,x,h=>by
  have:a=x:=by simpa using h
  subst this;simp only [List.set_cons_zero,List.sum_cons];omega
 | a::l,j+1,v,x,h=>by
  have:=AJ l j v x (by simpa using h);simp only [List.set_cons_succ,List.sum_cons];omega
def cta:Nat->Nat->List (List Nat)
 | 0,_=>[]
 | 1,m=>[[m]]
 | F+2,m=>(List.range (m+1)).flatMap λk=>(cta (F+1) (m-k)).map λc=>k::c
theorem hV:∀{F m:Nat}{c:List Nat},c∈cta F m->c.length=F/\c.sum=m
 | 0,m,c,h=>by cases h
 | 1,m,c,h=>by
  have:c=[m]:=by simpa [cta] using h
  subst this;simp
 | F+2,m,c,h=>by
  obtain ⟨k,hk,h⟩:=List.mem_flatMap.mp h;obtain ⟨d,hd,rfl⟩:=aQ.mp h;have hk:=bU.mp hk;obtain ⟨h1,h2⟩:=hV hd;refine ⟨by simp [h1],?_⟩;rw [List.sum_cons];omega
end Mf
namespace Mf
def Qn(N B:Nat)(x:Rat):Prop:=∃z:Int,x*(N:Rat)=(z:Rat)/\z.natAbs<=B*N
theorem Fn.q{N B:Nat}{f:Fr}(h:Fn N B f):Qn N B (rv f):=h.2
theorem Qn.f{N B:Nat}{f:Fr}(l:cV f)(h:Qn N B (rv f)):Fn N B f:=⟨l,h⟩
def eS(x:Rat):Fr:=(x.num,(x.den:Int))
theorem bG(x:Rat):cV (eS x):=by
 refine ⟨?_,?_⟩
 ·show (0:Int)<(x.den:Int);have:=x.den_pos;omega
 ·show Int.gcd x.num (x.den:Int)=1;rw [Int.gcd_eq_natAbs_gcd_natAbs,Int.natAbs_natCast];exact x.reduced
theorem cW(x:Rat):rv (eS x)=x:=by
 unfold rv eS;show (x.num:Rat)/((x.den:Int):Rat)=x;rw [<-Rat.divInt_eq_div,Rat.num_divInt_den]
theorem QA{f:Fr}(h:cV f):eS (rv f)=f:=gZ (bG _) h (cW _)
theorem Qn.fq{N B:Nat}{x:Rat}(h:Qn N B x):Fn N B (eS x):=⟨bG x,by rw [cW];exact h⟩
theorem Qn.le{N B C:Nat}{x:Rat}(h:Qn N B x)(hB:B<=C):Qn N C x:=by
 obtain ⟨z,h1,h2⟩:=h;exact ⟨z,h1,aK h2 (bT _ hB)⟩
theorem Qn.add{N B C:Nat}{x y:Rat}(h:Qn N B x)(h':Qn N C y):Qn N (B+C) (x+y):=by
 obtain ⟨z,h1,h2⟩:=h;obtain ⟨u,h3,h4⟩:=h';refine ⟨z+u,?_,?_⟩
 ·rw [Rat.intCast_add,<-h1,<-h3];grind
 ·rw [Nat.add_mul];omega
theorem Qn.neg{N B:Nat}{x:Rat}(h:Qn N B x):Qn N B (-x):=by
 obtain ⟨z,h1,h2⟩:=h;refine ⟨-z,?_,by rw [Int.natAbs_neg];exact h2⟩;rw [Rat.intCast_neg,<-h1];grind
theorem Qn.sub{N B C:Nat}{x y:Rat}(h:Qn N B x)(h':Qn N C y):Qn N (B+C) (x-y):=by
 have:=h.add h'.neg
 rwa [<-Rat.sub_eq_add_neg] at this
theorem Qn.mul{N M B C:Nat}{x y:Rat}(h:Qn N B x)(h':Qn M C y):Qn (N*M) (B*C) (x*y):=by
 obtain ⟨z,h1,h2⟩:=h;obtain ⟨u,h3,h4⟩:=h';refine ⟨z*u,?_,?_⟩
 ·rw [Rat.intCast_mul,<-h1,<-h3,Rat.natCast_mul];grind
 ·rw [eX];have:=Nat.mul_le_mul h2 h4;rw [Nat.mul_mul_mul_comm] at this;exact this
theorem Qn.dvd{N M B:Nat}{x:Rat}(h:Qn N B x)(d:N ∣ M):Qn M B x:=by
 obtain ⟨e,rfl⟩:=d;obtain ⟨z,h1,h2⟩:=h;refine ⟨z*(e:Int),?_,?_⟩
 ·rw [Rat.intCast_mul,<-h1,Rat.natCast_mul,uL];grind
 ·rw [eX,<-Nat.mul_assoc];exact bT _ h2
theorem Qn.zero(N B:Nat):Qn N B 0:=⟨0,by grind,by simp⟩
theorem Qn.sumR{N B:Nat}{f:Nat->Rat}:∀{n:Nat},(∀i,i<n->Qn N B (f i))->Qn N (n*B) (cD n f)
 | 0,_=>by rw [gG];exact Qn.zero _ _
 | n+1,h=>by
  rw [dW,Nat.add_mul,Nat.one_mul];exact (Qn.sumR λi hi=>h i Oo).add (h n Oo)
theorem Qn.min{N B:Nat}{l:List Rat}(h:∀x∈l,Qn N B x)(ne:l≠[]):Qn N B (kF l):=h _ (oG ne)
theorem NY{f:Fr}(h:cV f)(n:Nat):rv (uF f n)=rv f^n:=by
 have hp:=kG h.pos
 induction n with
 | zero=>unfold uF rv;grind
 | succ n ih =>
  have e:rv (uF f (n+1))=rv (uF f n)*rv f:=by
   have h1:=kG (mH h n).pos;unfold uF rv at *;simp only [Int.pow_succ,Rat.intCast_mul] at *;generalize ((f.1^n:Int):Rat)=u at *;generalize ((f.2^n:Int):Rat)=v at *;grind
  rw [e,ih,Rat.pow_succ]
theorem Qn.pow{N:Nat}{x:Rat}(h:Qn N 1 x):∀n:Nat,Qn (N^n) 1 (x^n)
 | 0=>⟨1,by rw [Rat.pow_zero,Nat.pow_zero];grind,by simp⟩
 | n+1=>by
  rw [Rat.pow_succ,Nat.pow_succ];exact (Qn.pow h n).mul h
theorem YC{N:Nat}(l:List (Fr × Nat)):(∀z∈l,Fn N 1 z.1)->Qn (N^(l.map (·.2)).sum) 1 (rv (kR l)):=by
 induction l using oY with
 | h0=>intro _;exact ⟨1,by show rv (1,1)*_=_;rw [uA];simp,by simp⟩
 | hs l a ih =>
  intro h;have hl:∀z∈l,Fn N 1 z.1:=λz hz=>h z (bZ _ hz);have ha:=h a (by simp);rw [tS,iX (sH l λz hz=>(hl z hz).low).pos (mH ha.low a.2).pos,NY ha.low,bE,List.sum_append,Nat.pow_add];have:=(ih hl).mul (ha.q.pow a.2);simpa using this
theorem JP{α:Type}(l:List α)(m:List Nat):((l.zip m).map (·.2)).sum<=m.sum:=by
 induction l generalizing m with
 | nil=>simp
 | cons a l ih =>
  cases m with
  | nil=>simp
  | cons b m =>
   have:=ih m;simp only [List.zip_cons_cons,bL,List.sum_cons];omega
def wq(fs:List Fr)(c:List Nat):Rat:=rv (kR (fs.zip c))
theorem MO{N M:Nat}{fs:List Fr}{c:List Nat}(h:∀f∈fs,Fn N 1 f)(hc:c.sum<=M):Qn (N^M) 1 (wq fs c):=by
 have h1:=YC (fs.zip c) (λz hz=>h z.1 (List.of_mem_zip (a:=z.1) (b:=z.2) hz).1);have h2:=JP fs c;exact h1.dvd (Nat.pow_dvd_pow _ Oo)
structure iN(F W M:Nat)(ss:List (List Fr))(mix ps cs:List Fr)(Ns Nm Np Nc B:Nat):Prop where
 f1:1<=F
 f4:F<=4
 w1:1<=W
 w4:W<=4
 m5:M<=5
 sl:ss.length=W
 ml:mix.length=W
 pl:ps.length=W
 cl:cs.length=M
 sh:∀s∈ss,s.length=F/\∀f∈s,Fn Ns 1 f
 mx:∀f∈mix,Fn Nm 1 f
 pr:∀f∈ps,Fn Np B f
 co:∀f∈cs,Fn Nc B f
 pos:0<Np*Nc*Nm*Ns^M
 sz:Np*Nc*Nm*Ns^M<2^3000
 b:B<=1000000
def jL(ss:List (List Fr))(v:Nat)(c:List Nat):Rat:=wq (ss.getD v []) c
def cL(ps:List Fr)(v:Nat):Rat:=rv (ps.getD v (0,1))
def wor(F W M:Nat)(ss:List (List Fr))(mix ps cs:List Fr)(c:List Nat):Rat:=nG W F (jL ss) (cL mix) (cL ps) (cL cs) (M-c.sum) c
theorem eG{α:Type}{l:List α}{j:Nat}{a:α}(h:j<l.length):l.getD j a∈l:=by
 rw [bM,aB h];exact List.getElem_mem h
section
variable{F W M:Nat}{ss:List (List Fr)}{mix ps cs:List Fr}{Ns Nm Np Nc B:Nat}
theorem iN.qn(I:iN F W M ss mix ps cs Ns Nm Np Nc B){v:Nat}(hv:v<W){c:List Nat}(hc:c.sum<=M):Qn (Ns^M) 1 (jL ss v c):=MO (I.sh _ (eG (by rw [I.sl];exact hv))).2 hc
theorem iN.due(I:iN F W M ss mix ps cs Ns Nm Np Nc B){v:Nat}(hv:v<W){c:List Nat}(hc:c.sum<=M):Qn (Np*Nc*Nm*Ns^M) B (cL ps v*jL ss v c):=by
 have h:=(I.pr _ (eG (a:=(0,1)) (by rw [I.pl];exact hv))).q.mul (I.qn hv hc);rw [Nat.mul_one] at h;exact h.dvd ⟨Nc*Nm,by ac_rfl⟩
theorem iN.met(I:iN F W M ss mix ps cs Ns Nm Np Nc B){v:Nat}(hv:v<W){c:List Nat}(hc:c.sum<=M):Qn (Nm*Ns^M) 1 (cL mix v*jL ss v c):=by
 have h:=(I.mx _ (eG (a:=(0,1)) (by rw [I.ml];exact hv))).q.mul (I.qn hv hc)
 rwa [Nat.mul_one] at h
theorem iN.paid(I:iN F W M ss mix ps cs Ns Nm Np Nc B){c:List Nat}(hc:c.sum<M):Qn (Np*Nc*Nm*Ns^M) (4*B) (cL cs c.sum*cD W (λv=>cL mix v*jL ss v c)):=by
 have h1:=(I.co _ (eG (a:=(0,1)) (show c.sum<cs.length by rw [I.cl];exact hc))).q;have h2:=Qn.sumR (n:=W) λv hv=>I.met hv (Nat.le_of_lt hc);have h3:=h1.mul h2;have h4:B*(W*1)<=4*B:=by
  have:=iU B I.w4;rw [Nat.mul_one];omega
 exact (h3.le h4).dvd ⟨Np,by ac_rfl⟩
theorem gB{c:List Nat}{j:Nat}(h:j<c.length):(bP c j).sum=c.sum+1:=by
 unfold bP;have h1:c[j]?=some (c.getD j 0):=by rw [bM,aB h];rfl
 have:=AJ c j (c.getD j 0+1) _ h1;omega
theorem lD(c:List Nat)(j:Nat):(bP c j).length=c.length:=by unfold bP;rw [List.length_set]
theorem iN.says(I:iN F W M ss mix ps cs Ns Nm Np Nc B){c:List Nat}(hc:c.sum<=M):∀x∈kE W (λv=>cL ps v*jL ss v c),Qn (Np*Nc*Nm*Ns^M) (5*B) x:=by
 intro x hx;obtain ⟨w,hw,rfl⟩:=lA.mp hx;have h1:=Qn.sumR (n:=W) λv hv=>I.due hv hc;have h2:=h1.sub (I.due hw hc);refine h2.le ?_;have:=bT B I.w4;omega
theorem iN.worn(I:iN F W M ss mix ps cs Ns Nm Np Nc B):∀(n:Nat) (c:List Nat),c.length=F->c.sum+n=M->Qn (Np*Nc*Nm*Ns^M) (8^(n+1)*B) (nG W F (jL ss) (cL mix) (cL ps) (cL cs) n c)
 | 0,c,hl,hn=>Qn.min (λx hx=>(I.says Oo x hx).le Oo) (FX I.w1 _)
 | n+1,c,hl,hn=>by
  rw [yQ];have hp:8^(n+1+1)=8*8^(n+1):=by rw [Nat.pow_succ];omega
  have h1:1<=8^(n+1):=Nat.one_le_pow _ _ Dd;have hB:B<=8^(n+1)*B:=Nat.le_mul_of_pos_left _ h1;have e8:8^(n+1+1)*B=8*(8^(n+1)*B):=by rw [hp,Nat.mul_assoc]
  refine Qn.min (λx hx=>?_) (by simp);rcases cE.mp hx with hx | hx
  ·exact (I.says Oo x hx).le Oo
  ·rw [aY.mp hx];have h2:=I.paid (c:=c) Oo;have h3:=Qn.sumR (n:=F) λj hj=>I.worn n (bP c j) (by rw [lD];exact hl) (by rw [gB Oo];omega);refine (h2.add h3).le ?_;have h4:F*(8^(n+1)*B)<=4*(8^(n+1)*B):=bT _ I.f4;omega
end
def rise(F M:Nat):List (List Nat):=(List.range (M+1)).flatMap (cta F)
theorem vY:∀{F m:Nat}{c:List Nat},1<=F->c.length=F->c.sum=m->c∈cta F m
 | 0,m,c,h,_,_=>Oo
 | 1,m,c,_,hl,hs=>by
  obtain ⟨x,rfl⟩:∃x,c=[x]:=by
   match c,hl with
   | [x],_=>exact ⟨x,rfl⟩
  have:x=m:=by simpa using hs
  subst this;simp [cta]
 | F+2,m,c,_,hl,hs=>by
  cases c with
  | nil=>simp at hl
  | cons x c =>
   rw [List.sum_cons] at hs;unfold cta;refine List.mem_flatMap.mpr ⟨x,bU.mpr Oo,aQ.mpr ⟨c,vY Oo (by simpa using hl) Oo,rfl⟩⟩
theorem iL{F M:Nat}{c:List Nat}(hF:1<=F):c∈rise F M↔c.length=F/\c.sum<=M:=by
 unfold rise;rw [List.mem_flatMap];constructor
 ·rintro ⟨m,hm,hc⟩;have:=bU.mp hm;obtain ⟨h1,h2⟩:=hV hc;exact ⟨h1,Oo⟩
 ·rintro ⟨h1,h2⟩;exact ⟨c.sum,bU.mpr Oo,vY hF h1 rfl⟩
theorem qI(F:Nat):∀M:Nat,(rise F M).Pairwise λa b=>a.sum<=b.sum
 | 0=>by
  unfold rise;rw [List.range_succ,List.range_zero,List.nil_append,List.flatMap_singleton];refine List.pairwise_iff_forall_sublist.mpr λ{a b} h=>?_;have ha:a∈cta F 0:=h.subset (by simp);have:=(hV ha).2;omega
 | M+1=>by
  have ih:=qI F M;unfold rise at *;rw [List.range_succ,List.flatMap_append,List.flatMap_singleton];refine List.pairwise_append.mpr ⟨ih,?_,λa ha b hb=>?_⟩
  ·refine List.pairwise_iff_forall_sublist.mpr λ{a b} h=>?_;have ha:a∈cta F (M+1):=h.subset (by simp);have hb:b∈cta F (M+1):=h.subset (by simp);have h1:=(hV ha).2;have h2:=(hV hb).2;omega
  ·obtain ⟨m,hm,ha⟩:=List.mem_flatMap.mp ha;have:=bU.mp hm;have h1:=(hV ha).2;have h2:=(hV hb).2;omega
theorem vG{F M k:Nat}{c d:List Nat}(h:(rise F M)[k]?=some c)(hd:d∈rise F M)(hs:c.sum<d.sum):d∈(rise F M).drop (k+1):=by
 obtain ⟨i,hi⟩:=eT.mp hd;have hki:k<i:=by
  refine cF λq=>?_;have hk:=(aI.mp h);have hi':=(aI.mp hi);obtain ⟨lk,ek⟩:=hk;obtain ⟨li,ei⟩:=hi';rcases Nat.lt_or_eq_of_le (Nat.le_of_not_lt q) with h1 | h1
  ·have:=(List.pairwise_iff_getElem.mp (qI F M)) i k li lk h1;rw [ek,ei] at this;omega
  ·subst h1;rw [ek] at ei;subst ei;omega
 refine eT.mpr ⟨i-(k+1),?_⟩;rw [List.getElem?_drop,show k+1+(i-(k+1))=i by omega];exact hi
end Mf
namespace Mf
theorem xU:∀F:Nat,1<=F->cta F 0=[List.replicate F 0]
 | 1,_=>rfl
 | F+2,_=>by
  unfold cta;rw [List.range_succ,List.range_zero,List.nil_append,List.flatMap_singleton,Nat.sub_zero,xU (F+1) Oo]
  rfl
theorem QK{F m:Nat}(hF:1<=F){d:List Nat}:d∈cta F (m+1) ↔ ∃c∈cta F m,∃j,j<F/\d=bP c j:=by
 constructor
 ·intro h;obtain ⟨h1,h2⟩:=hV h;obtain ⟨j,hj,hp⟩:∃j,j<d.length/\0<d.getD j 0:=by
   refine cF λq=>?_;have z:d=List.replicate d.length 0:=by
    refine List.eq_replicate_iff.mpr ⟨rfl,λx hx=>?_⟩;obtain ⟨j,hj⟩:=eT.mp hx;have hl:=(aI.mp hj).1;have:d.getD j 0=x:=by rw [bM,hj];rfl
    refine cF λhx0=>q ⟨j,hl,Oo⟩
   have:d.sum=0:=by rw [z];simp
   omega
  have e1:d[j]?=some (d.getD j 0):=by rw [bM,aB hj];rfl
  have s1:=AJ d j (d.getD j 0-1) _ e1;refine ⟨d.set j (d.getD j 0-1),vY hF (by rw [List.length_set];exact h1) Oo,j,Oo,?_⟩;unfold bP;rw [bM (l:=d.set j _),List.getElem?_set_self hj,List.set_set];show d=d.set j (d.getD j 0-1+1);rw [show d.getD j 0-1+1=d.getD j 0 by omega];refine (List.ext_getElem? λi=>?_);rw [List.getElem?_set];by_cases e:j=i
  ·subst e;rw [if_pos rfl,if_pos hj];exact e1
  ·rw [if_neg e]
 ·rintro ⟨c,hc,j,hj,rfl⟩;obtain ⟨h1,h2⟩:=hV hc;exact vY hF (by rw [lD];exact h1) (by rw [gB Oo];omega)
theorem TH:∀F,F<=4->∀M,M<=5->(rise F M).Nodup:=Kk
def EZ(f:Fr):Prop:=cV f/\0<=f.1/\f.1<=999/\f.2<=999
def dens(l:List Fr):Nat:=l.foldr (λf n=>f.2.natAbs*n) 1
theorem qQ:∀{l:List Fr},(∀f∈l,EZ f)->0<dens l
 | [],_=>Nat.one_pos
 | f::l,h=>mQ (by have:=(h f (aW ..)).1.pos;omega) (qQ λg hg=>h g (aS _ hg))
theorem IY:∀{l:List Fr},(∀f∈l,EZ f)->dens l<=999^l.length
 | [],_=>aL _
 | f::l,h=>by
  have h1:=IY λg hg=>h g (aS f hg);obtain ⟨a,b,c,d⟩:=h f (aW ..);have:=a.pos;rw [bQ,Nat.pow_succ,Nat.mul_comm];exact Nat.mul_le_mul (show f.2.natAbs<=999 by omega) h1
theorem EE:∀{l:List Fr}{f:Fr},f∈l->f.2.natAbs ∣ dens l
 | g::l,f,h=>by
  rcases bF.mp h with rfl | h
  ·exact fJ _ _
  ·exact cC (EE h) (Nat.dvd_mul_left _ _)
theorem EZ.fn{f:Fr}(h:EZ f):Fn f.2.natAbs 999 f:=by
 obtain ⟨a,b,c,d⟩:=h;have p:=a.pos;have:=Fn.of (n:=f.1) (d:=f.2) (B:=999) p (by
  have:1<=f.2.natAbs:=Oo;have:=iU 999 this;omega)
 rwa [IL a] at this
theorem pG{l:List Fr}(h:∀f∈l,EZ f):∀f∈l,Fn (dens l) 999 f:=λf hf=>(h f hf).fn.dvd (EE hf)
theorem tF{l:List Fr}(h:∀f∈l,EZ f)(hl:l.length<=5):dens l<=1000000000000000:=by
 have h1:=IY h;have h2:999^l.length<=999^5:=aJ Dd hl;have h3:(999:Nat)^5<=1000000000000000:=Dd;omega
end Mf
namespace Mf
abbrev dH:=List Nat × List Fr
def s0(e:dH):Rat:=cL e.2 0
def qM(F:Nat)(c d:List Nat):Rat:=cD F λf=>if bP c f=d then 1 else 0
def bR(F:Nat)(es:List dH):List Nat->Rat:=es.foldl (λg e=>λd=>g d+g e.1*s0 e*qM F e.1 d) (λd=>if d=List.replicate F 0 then 1 else 0)
theorem rE(F:Nat)(d:List Nat):bR F [] d=if d=List.replicate F 0 then 1 else 0:=rfl
theorem kN(F:Nat)(l:List dH)(e:dH)(d:List Nat):bR F (l++[e]) d=bR F l d+bR F l e.1*s0 e*qM F e.1 d:=by unfold bR;rw [List.foldl_append];rfl
def eW{α:Type}(l:List α)(f:α->Rat):Rat:=rH (l.map f)
theorem iG{α:Type}(f:α->Rat):eW [] f=0:=rfl
theorem eE{α:Type}(a:α)(l:List α)(f:α->Rat):eW (a::l) f=f a+eW l f:=rfl
theorem CO{α:Type}(a b:List α)(f:α->Rat):eW (a++b) f=eW a f+eW b f:=by unfold eW;rw [bE,sI]
theorem qW{α:Type}(l:List α)(a:α)(f:α->Rat):eW (l++[a]) f=eW l f+f a:=by rw [CO,eE,iG];grind
theorem fH{α:Type}{l:List α}{f g:α->Rat}(h:∀a∈l,f a=g a):eW l f=eW l g:=by unfold eW;rw [gD h]
theorem pU{α:Type}(l:List α)(f g:α->Rat):eW l (λa=>f a+g a)=eW l f+eW l g:=by
 induction l with
 | nil=>rw [iG,iG,iG];grind
 | cons a l ih=>rw [eE,eE,eE,ih];grind
theorem wP{α:Type}(l:List α)(x:Rat)(f:α->Rat):eW l (λa=>x*f a)=x*eW l f:=by
 induction l with
 | nil=>rw [iG,iG];grind
 | cons a l ih=>rw [eE,eE,ih];grind
theorem yV{α:Type}(l:List α):eW l (λ_=>0)=0:=by
 induction l with
 | nil=>rfl
 | cons a l ih=>rw [eE,ih];grind
theorem JW{α:Type}{l:List α}{f g:α->Rat}(h:∀a∈l,f a<=g a):eW l f<=eW l g:=by
 induction l with
 | nil=>exact Rat.le_refl
 | cons a l ih =>
  have h1:=h a (aW ..);have h2:=ih λx hx=>h x (aS _ hx);rw [eE,eE];grind
theorem vT{α:Type}{l:List α}{f:α->Rat}(h:∀a∈l,0<=f a):0<=eW l f:=by
 have:=JW (l:=l) (f:=λ_=>0) (g:=f) h
 rwa [yV] at this
theorem qV{α:Type}(l:List α)(n:Nat)(f:α->Nat->Rat):eW l (λa=>cD n (f a))=cD n λi=>eW l λa=>f a i:=by
 induction l with
 | nil=>show 0=cD n (λ_=>0);rw [nK]
 | cons a l ih =>
  rw [eE,ih,<-wN];exact cH λi _=>rfl
theorem tW{es:List dH}(nd:(es.map (·.1)).Nodup){b:List Nat}(hb:b∈es.map (·.1))(Φ:List Nat->Rat):eW es (λx=>(if b=x.1 then 1 else 0)*Φ x.1)=Φ b:=by
 induction es with
 | nil=>cases hb
 | cons a es ih =>
  rw [bL,List.nodup_cons] at nd;rw [eE];by_cases e:b=a.1
  ·rw [if_pos e,e,fH (g:=λ_=>0) λx hx=>?_,yV]
   ·grind
   ·rw [if_neg λq=>nd.1 (by rw [q];exact aQ.mpr ⟨x,hx,rfl⟩)];grind
  ·rw [if_neg e,ih nd.2 (by rw [bL] at hb;exact (bF.mp hb).resolve_left e)];grind
structure yN(F:Nat)(es:List dH):Prop where
 root:∃e r,es=e::r/\e.1=List.replicate F 0
 len:∀e∈es,e.1.length=F
 nd:(es.map (·.1)).Nodup
 srt:es.Pairwise λa b=>a.1.sum<=b.1.sum
 fwd:∀e∈es,s0 e≠0->∀f,f<F->bP e.1 f∈es.map (·.1)
 bwd:∀d∈es.map (·.1),d≠List.replicate F 0->∃e∈es,s0 e≠0/\∃f,f<F/\bP e.1 f=d
 nn:∀e∈es,0<=s0 e
section
variable{F:Nat}{es:List dH}
theorem DV{c d:List Nat}(hc:c.length=F)(h:d.sum≠c.sum+1):qM F c d=0:=by
 unfold qM;rw [cH (g:=λ_=>0) λf hf=>if_neg λq=>h ?_,nK];rw [<-q,gB Oo]
theorem yN.at(R:yN F es){i:Nat}{e:dH}(h:es[i]?=some e):bR F (es.take i) e.1=bR F es e.1:=by
 have key:∀k,i+k<=es.length->bR F (es.take (i+k)) e.1=bR F (es.take i) e.1:=by
  intro k
  induction k with
  | zero=>intro _;rfl
  | succ k ih =>
   intro hk;obtain ⟨x,hx⟩:∃x,es[i+k]?=some x:=⟨_,aB Oo⟩;have et:es.take (i+k+1)=es.take (i+k)++[x]:=by rw [eP,hx];rfl
   rw [<-Nat.add_assoc,et,kN,ih Oo,DV (R.len x (aF hx)) ?_]
   ·grind
   ·obtain ⟨l1,e1⟩:=aI.mp h;obtain ⟨l2,e2⟩:=aI.mp hx;have:e.1.sum<=x.1.sum:=by
     by_cases q:k=0
     ·subst q;have:e=x:=by rw [<-e1,<-e2];rfl
      rw [this];exact aL _
     ·have:=(List.pairwise_iff_getElem.mp R.srt) i (i+k) l1 l2 Oo
      rwa [e1,e2] at this
    omega
 have hi:=(aI.mp h).1;have:=key (es.length-i) Oo;rw [show i+(es.length-i)=es.length by omega,cN] at this;exact this.symm
theorem yN.cons(R:yN F es)(Φ:List Nat->Rat):∀n,n<=es.length->eW es (λx=>bR F (es.take n) x.1*Φ x.1)=Φ (List.replicate F 0)+eW (es.take n) λe=>bR F es e.1*s0 e*cD F λf=>Φ (bP e.1 f):=by
 intro n
 induction n with
 | zero =>
  intro _;rw [List.take_zero,iG];obtain ⟨e,r,he,hz⟩:=R.root;have:=tW R.nd (b:=List.replicate F 0) (by rw [he,<-hz];exact aW ..) Φ;rw [fH (g:=λx=>(if List.replicate F 0=x.1 then 1 else 0)*Φ x.1) λx _=>?_,this]
  ·grind
  ·rw [rE];by_cases q:x.1=List.replicate F 0
   ·rw [if_pos q,if_pos q.symm]
   ·rw [if_neg q,if_neg λz=>q z.symm]
 | succ n ih =>
  intro hn;obtain ⟨e,he⟩:∃x,es[n]?=some x:=⟨_,aB Oo⟩;have et:es.take (n+1)=es.take n++[e]:=by rw [eP,he];rfl
  have hm:=aF he;rw [et,qW,<-Rat.add_assoc,<-ih Oo];rw [fH (g:=λx=>bR F (es.take n) x.1*Φ x.1+bR F es e.1*s0 e*(qM F e.1 x.1*Φ x.1)) λx _=>by rw [kN,R.at he];grind];rw [pU,wP];by_cases z:s0 e=0
  ·rw [z];grind
  ·congr 2;have:(λx:dH=>qM F e.1 x.1*Φ x.1)=λx=>cD F λf=>(if bP e.1 f=x.1 then 1 else 0)*Φ x.1:=by
    funext x
    unfold qM;rw [Rat.mul_comm,<-iF];exact cH λi _=>Rat.mul_comm _ _
   rw [this,qV];exact cH λf hf=>tW R.nd (R.fwd e hm z f hf) Φ
theorem yN.all(R:yN F es)(Φ:List Nat->Rat):eW es (λx=>bR F es x.1*Φ x.1)=Φ (List.replicate F 0)+eW es λe=>bR F es e.1*s0 e*cD F λf=>Φ (bP e.1 f):=by
 have:=R.cons Φ es.length (aL _)
 rwa [cN] at this
theorem PV(F:Nat)(c d:List Nat):0<=qM F c d:=SG λf _=>by split <;> grind
theorem yN.fnn(R:yN F es):∀n,n<=es.length->∀d,0<=bR F (es.take n) d:=by
 intro n
 induction n with
 | zero=>intro _ d;rw [List.take_zero,rE];split <;> grind
 | succ n ih =>
  intro hn d;obtain ⟨e,he⟩:∃x,es[n]?=some x:=⟨_,aB Oo⟩;have et:es.take (n+1)=es.take n++[e]:=by rw [eP,he];rfl
  rw [et,kN];have h1:=ih Oo d;have h2:=ih Oo e.1;have h3:=Rat.mul_nonneg (Rat.mul_nonneg h2 (R.nn e (aF he))) (PV F e.1 d);grind
theorem yN.nnf(R:yN F es)(d:List Nat):0<=bR F es d:=by
 have:=R.fnn es.length (aL _) d
 rwa [cN] at this
theorem yN.pos(R:yN F es):∀(k:Nat) (d:List Nat),d∈es.map (·.1)->d.sum<=k->0<bR F es d:=by
 have eqd:∀d∈es.map (·.1),bR F es d=(if d=List.replicate F 0 then 1 else 0)+eW es λe=>bR F es e.1*s0 e*qM F e.1 d:=λd hd=>by
  have h:=R.all λx=>if d=x then 1 else 0
  have h1:=tW R.nd hd (bR F es);have e1:eW es (λx=>bR F es x.1*(if d=x.1 then 1 else 0))=bR F es d:=by rw [<-h1];exact fH λx _=>Rat.mul_comm _ _
  rw [<-e1,h];congr 1;exact fH λe _=>by
   congr 1;unfold qM;exact cH λf _=>by
    by_cases q:d=bP e.1 f
    ·rw [if_pos q,if_pos q.symm]
    ·rw [if_neg q,if_neg λz=>q z.symm]
 have tn:∀d,∀e∈es,0<=bR F es e.1*s0 e*qM F e.1 d:=λd e he=>Rat.mul_nonneg (Rat.mul_nonneg (R.nnf _) (R.nn e he)) (PV F e.1 d);intro k
 induction k with
 | zero =>
  intro d hd hs;have hz:d=List.replicate F 0:=by
   refine cF λq=>?_;obtain ⟨e,he,_,f,hf,rfl⟩:=R.bwd d hd q;rw [gB (by rw [R.len e he];exact hf)] at hs;omega
  rw [eqd d hd,if_pos hz];have:=vT (tn d);grind
 | succ k ih =>
  intro d hd hs;by_cases hz:d=List.replicate F 0
  ·rw [eqd d hd,if_pos hz];have:=vT (tn d);grind
  ·obtain ⟨e,he,h0,f,hf,rfl⟩:=R.bwd d hd hz;have bs:=gB (c:=e.1) (j:=f) (by rw [R.len e he];exact hf);have hA:=ih e.1 (aQ.mpr ⟨e,he,rfl⟩) Oo;have hs0:0<s0 e:=by have:=R.nn e he;grind
   have hh:1<=qM F e.1 (bP e.1 f):=by
    unfold qM;have h1:=tV (n:=F) (f:=λi=>if i=f then 1 else 0) (g:=λi=>if bP e.1 i=bP e.1 f then 1 else 0) λi _=>by
     by_cases q:i=f
     ·subst q;rw [if_pos rfl,if_pos rfl];exact Rat.le_refl
     ·rw [if_neg q];split <;> grind
    have h2:=wM (n:=F) (λi=>if i=f then (1:Rat) else 0) hf;have h3:cD F (λi=>if i=f then 0 else if i=f then (1:Rat) else 0)=0:=by
     rw [cH (g:=λ_=>0) λi _=>?_,nK];by_cases q:i=f
     ·rw [if_pos q]
     ·rw [if_neg q,if_neg q]
    rw [if_pos rfl,h3] at h2;grind
   have one:0<bR F es e.1*s0 e*qM F e.1 (bP e.1 f):=Rat.mul_pos (Rat.mul_pos hA hs0) (by grind);rw [eqd _ hd,if_neg hz];have:bR F es e.1*s0 e*qM F e.1 (bP e.1 f)<=eW es λe'=>bR F es e'.1*s0 e' * qM F e'.1 (bP e.1 f):=by
    obtain ⟨l1,l2,rfl⟩:=List.append_of_mem he;rw [CO,eE];have n1:=vT (l:=l1) λx hx=>tn (bP e.1 f) x (bZ _ hx);have n2:=vT (l:=l2) λx hx=>tn (bP e.1 f) x (bI _ (aS _ hx));grind
   grind
theorem yN.posf(R:yN F es){e:dH}(h:e∈es):0<bR F es e.1:=R.pos _ e.1 (aQ.mpr ⟨e,h,rfl⟩) (aL _)
theorem Qn.one'(N:Nat):Qn N 1 1:=⟨N,by rw [uL];grind,by simp⟩
theorem yN.qn(R:yN F es){N:Nat}(hN:∀e∈es,Qn N 1 (s0 e))(f4:F<=4):∀n,n<=es.length->∀d,Qn (N^d.sum) (5^n) (bR F (es.take n) d):=by
 intro n
 induction n with
 | zero =>
  intro _ d;rw [List.take_zero,rE];split
  ·exact Qn.one' _
  ·exact Qn.zero _ _
 | succ n ih =>
  intro hn d;obtain ⟨e,he⟩:∃x,es[n]?=some x:=⟨_,aB Oo⟩;have et:es.take (n+1)=es.take n++[e]:=by rw [eP,he];rfl
  rw [et,kN];have h1:=ih Oo d;have hm:=aF he;have p5:5^(n+1)=5*5^n:=by rw [Nat.pow_succ];omega
  by_cases hs:d.sum=e.1.sum+1
  ·have h2:=(ih Oo e.1).mul (hN e hm);have h3:Qn 1 4 (qM F e.1 d):=by
    have:=Qn.sumR (N:=1) (B:=1) (n:=F) (f:=λf=>if bP e.1 f=d then 1 else 0) λf _=>by
     split
     ·exact Qn.one' _
     ·exact Qn.zero _ _
    exact this.le Oo
   have h4:=h2.mul h3;have h5:N^e.1.sum*N=N^d.sum:=by rw [hs,Nat.pow_succ]
   rw [Nat.mul_one,h5] at h4;exact (h1.add h4).le Oo
  ·rw [DV (R.len e hm) hs];have:bR F (es.take n) d+bR F (es.take n) e.1*s0 e*0=bR F (es.take n) d:=by grind
   rw [this];exact h1.le Oo
end
def pN(zs:List (Fr × Nat)):Rat:=zs.foldr (λz p=>rv z.1^z.2*p) 1
theorem IA:∀(zs:List (Fr × Nat)) (p:Fr),cV p->(∀z∈zs,cV z.1)->rv (zs.foldl (λp q=>iZ p (uF q.1 q.2)) p)=rv p*pN zs
 | [],p,_,_=>by show rv p=rv p*1;grind
 | z::zs,p,hp,h=>by
  have hz:=h z (aW ..);have hw:=mH hz z.2;rw [List.foldl_cons,IA zs _ (fZ hp hw) λy hy=>h y (aS _ hy),iX hp.pos hw.pos,NY hz];show _=rv p*(rv z.1^z.2*pN zs);grind
theorem sG{fs:List Fr}(h:∀f∈fs,cV f)(c:List Nat):wq fs c=pN (fs.zip c):=by
 unfold wq kR;rw [IA _ _ UX λz hz=>h z.1 (List.of_mem_zip (a:=z.1) (b:=z.2) hz).1];show rv (1,1)*_=_;rw [uA];grind
theorem uD:∀(fs:List Fr) (c:List Nat) (j:Nat),j<fs.length->fs.length=c.length->pN (fs.zip (bP c j))=pN (fs.zip c)*cL fs j
 | [],c,j,h,_=>by simp at h
 | f::fs,[],j,_,h=>by simp at h
 | f::fs,n::c,0,_,_=>by
  show rv f^(n+1)*pN (fs.zip c)=(rv f^n*pN (fs.zip c))*rv f;rw [Rat.pow_succ];grind
 | f::fs,n::c,j+1,hj,hl=>by
  have ih:=uD fs c j (by simpa using hj) (by simpa using hl);have e:bP (n::c) (j+1)=n::bP c j:=by unfold bP;rw [List.set_cons_succ];rfl
  have ev:cL (f::fs) (j+1)=cL fs j:=rfl;rw [e,ev,List.zip_cons_cons,List.zip_cons_cons];show rv f^n*pN (fs.zip (bP c j))=(rv f^n*pN (fs.zip c))*cL fs j;rw [ih];grind
theorem zJ:∀(fs:List Fr) (n:Nat),pN (fs.zip (List.replicate n 0))=1
 | [],n=>by rfl
 | f::fs,0=>by rfl
 | f::fs,n+1=>by
  rw [List.replicate_succ,List.zip_cons_cons];show rv f^0*pN (fs.zip (List.replicate n 0))=1;rw [zJ fs n,Rat.pow_zero];grind
theorem HW(fs:List Fr):rH (fs.map rv)=cD fs.length (cL fs):=by
 unfold cD;congr 1;refine List.ext_getElem? λi=>?_;rw [aN,aN];by_cases hi:i<fs.length
 ·rw [cK hi,aB hi];show some _=some (cL fs i);unfold cL;rw [bM,aB hi];rfl
 ·rw [dF Oo,dF (by rw [bD];omega)];rfl
theorem YB{fs:List Fr}(h:∀f∈fs,cV f)(h1:rH (fs.map rv)=1){c:List Nat}(hc:c.length=fs.length):wq fs c=cD fs.length λf=>wq fs (bP c f):=by
 rw [sG h];rw [cH (g:=λf=>pN (fs.zip c)*cL fs f) λf hf=>by rw [sG h,uD fs c f hf hc.symm]];rw [iF,<-HW,h1];grind
theorem HI{fs:List Fr}(h:∀f∈fs,cV f)(n:Nat):wq fs (List.replicate n 0)=1:=by rw [sG h,zJ]
section
variable{F W M:Nat}{es:List dH}{q:Nat->List Nat->Rat}{mix ps cs:Nat->Rat}
def iK(F:Nat)(es:List dH)(q:List Nat->Rat)(w:Nat):Rat:=eW es λe=>bR F es e.1*q e.1*cL e.2 (1+w)
def jH(F:Nat)(es:List dH)(q:List Nat->Rat)(cs:Nat->Rat):Rat:=eW es λe=>cs e.1.sum*(bR F es e.1*q e.1*s0 e)
def vM(F W:Nat)(es:List dH)(q:Nat->List Nat->Rat)(mix cs:Nat->Rat):Rat:=cD W λw=>mix w*jH F es (q w) cs
def xA(F W:Nat)(es:List dH)(q:Nat->List Nat->Rat)(mix ps cs:Nat->Rat):Rat:=vM F W es q mix cs+cD W λw=>ps w*(1-iK F es (q w) w)
theorem yN.stops(R:yN F es){q:List Nat->Rat}(h0:q (List.replicate F 0)=1)(h1:∀c,c.length=F->q c=cD F λf=>q (bP c f)):eW es (λe=>bR F es e.1*q e.1*(1-s0 e))=1:=by
 have h:=R.all q;rw [h0] at h;have e:eW es (λe=>bR F es e.1*s0 e*cD F λf=>q (bP e.1 f))=eW es λe=>bR F es e.1*q e.1*s0 e:=fH λe he=>by rw [<-h1 e.1 (R.len e he)];grind
 rw [e] at h;have e2:eW es (λe=>bR F es e.1*q e.1*(1-s0 e))+eW es (λe=>bR F es e.1*q e.1*s0 e)=eW es (λx=>bR F es x.1*q x.1):=by
  rw [<-pU];exact fH λe _=>by grind
 grind
theorem CF(W F:Nat)(q:Nat->List Nat->Rat)(mix ps cs:Nat->Rat)(n:Nat)(c:List Nat){v:Nat}(hv:v<W):nG W F q mix ps cs n c<=cD W (λw=>ps w*q w c)-ps v*q v c:=by
 cases n with
 | zero=>exact rC (lA.mpr ⟨v,hv,rfl⟩)
 | succ n=>exact rC (bZ _ (lA.mpr ⟨v,hv,rfl⟩))
theorem RV(W F:Nat)(q:Nat->List Nat->Rat)(mix ps cs:Nat->Rat)(n:Nat)(c:List Nat):nG W F q mix ps cs (n+1) c<=cs c.sum*cD W (λv=>mix v*q v c)+cD F (λj=>nG W F q mix ps cs n (bP c j)):=rC (bI _ (aY.mpr rfl))
end
end Mf
namespace Mf
section
variable{F W:Nat}{es:List dH}{q:Nat->List Nat->Rat}{mix ps cs:Nat->Rat}
theorem CN{n v:Nat}{f:Nat->Rat}(hv:v<n)(h:∀i,i<n->i≠v->f i=0):cD n f=f v:=by
 have h2:=wM (n:=n) f hv;have h3:cD n (λi=>if i=v then 0 else f i)=0:=by
  rw [cH (g:=λ_=>0) λi hi=>?_,nK];by_cases e:i=v
  ·rw [if_pos e]
  ·rw [if_neg e,h i hi e]
 rw [h3] at h2;grind
def RF(F W:Nat)(q:Nat->List Nat->Rat)(mix ps cs:Nat->Rat)(V:List Nat->Rat)(e:dH):Prop :=
 (s0 e=1/\(∀v,v<W->cL e.2 (1+v)=0)/\V e.1=cs e.1.sum*cD W (λv=>mix v*q v e.1)+cD F (λf=>V (bP e.1 f))) \/
 ∃v,v<W/\s0 e=0/\cL e.2 (1+v)=1/\(∀u,u<W->u≠v->cL e.2 (1+u)=0)/\V e.1=cD W (λw=>ps w*q w e.1)-ps v*q v e.1
theorem OL(R:yN F es)(V:List Nat->Rat)(h0:∀w,w<W->q w (List.replicate F 0)=1)(h1:∀w,w<W->∀c,c.length=F->q w c=cD F λf=>q w (bP c f))
  (hb:∀e∈es,RF F W q mix ps cs V e):V (List.replicate F 0)=xA F W es q mix ps cs:=by
 have one:∀e∈es,V e.1=s0 e*(cs e.1.sum*cD W (λv=>mix v*q v e.1))+s0 e*cD F (λf=>V (bP e.1 f))+((1-s0 e)*cD W (λw=>ps w*q w e.1)-cD W λv=>cL e.2 (1+v)*(ps v*q v e.1)):=by
  intro e he;rcases hb e he with ⟨a,b,c⟩ | ⟨v,hv,a,b,d,c⟩
  ·have e0:cD W (λv=>cL e.2 (1+v)*(ps v*q v e.1))=0:=by
    rw [cH (g:=λ_=>0) λi hi=>by rw [b i hi];grind,nK]
   rw [e0,a,c];grind
  ·have e0:cD W (λv=>cL e.2 (1+v)*(ps v*q v e.1))=ps v*q v e.1:=by
    rw [CN hv λi hi hn=>by rw [d i hi hn];grind,b];grind
   rw [e0,a,c];grind
 have all:=R.all V;have sum1:eW es (λx=>bR F es x.1*V x.1)=eW es (λe=>bR F es e.1*(s0 e*(cs e.1.sum*cD W (λv=>mix v*q v e.1))+s0 e*cD F (λf=>V (bP e.1 f))+((1-s0 e)*cD W (λw=>ps w*q w e.1)-cD W λv=>cL e.2 (1+v)*(ps v*q v e.1)))):=fH λe he=>by rw [<-one e he]
 rw [all] at sum1;have split:eW es (λe=>bR F es e.1*(s0 e*(cs e.1.sum*cD W (λv=>mix v*q v e.1))+s0 e*cD F (λf=>V (bP e.1 f))+((1-s0 e)*cD W (λw=>ps w*q w e.1)-cD W λv=>cL e.2 (1+v)*(ps v*q v e.1)))) =
   vM F W es q mix cs+eW es (λe=>bR F es e.1*s0 e*cD F λf=>V (bP e.1 f))+cD W (λw=>ps w*(1-iK F es (q w) w)):=by
  have c1:vM F W es q mix cs=eW es λe=>bR F es e.1*(s0 e*(cs e.1.sum*cD W (λv=>mix v*q v e.1))):=by
   unfold vM jH;rw [cH (g:=λw=>eW es λe=>mix w*(cs e.1.sum*(bR F es e.1*q w e.1*s0 e))) λw _=>(wP _ _ _).symm,<-qV];refine fH λe _=>?_;rw [<-iF,<-iF,<-iF];exact cH λw _=>by grind
  have c2:cD W (λw=>ps w*(1-iK F es (q w) w))=eW es λe=>bR F es e.1*((1-s0 e)*cD W (λw=>ps w*q w e.1)-cD W λv=>cL e.2 (1+v)*(ps v*q v e.1)):=by
   have k:∀w,w<W->ps w*(1-iK F es (q w) w)=eW es λe=>ps w*(bR F es e.1*q w e.1*(1-s0 e)-bR F es e.1*q w e.1*cL e.2 (1+w)):=λw hw=>by
    rw [wP];congr 1;have h:=R.stops (h0 w hw) (h1 w hw);have h2:eW es (λe=>bR F es e.1*q w e.1*(1-s0 e)-bR F es e.1*q w e.1*cL e.2 (1+w))+iK F es (q w) w=eW es (λe=>bR F es e.1*q w e.1*(1-s0 e)):=by
     unfold iK;rw [<-pU];exact fH λe _=>by grind
    grind
   rw [cH k,<-qV];refine fH λe _=>?_;have a1:(1-s0 e)*cD W (λw=>ps w*q w e.1)=cD W λw=>(1-s0 e)*(ps w*q w e.1):=(iF _ _ _).symm;have a2:cD W (λw=>(1-s0 e)*(ps w*q w e.1)-cL e.2 (1+w)*(ps w*q w e.1))+cD W (λv=>cL e.2 (1+v)*(ps v*q v e.1))=cD W λw=>(1-s0 e)*(ps w*q w e.1):=by
    rw [<-wN];exact cH λw _=>by grind
   have a3:(1-s0 e)*cD W (λw=>ps w*q w e.1)-cD W (λv=>cL e.2 (1+v)*(ps v*q v e.1))=cD W (λw=>(1-s0 e)*(ps w*q w e.1)-cL e.2 (1+w)*(ps w*q w e.1)):=by rw [a1];grind
   rw [a3,<-iF];exact cH λw _=>by grind
  rw [c1,c2,<-pU,<-pU];exact fH λe _=>by grind
 rw [split] at sum1;unfold xA;grind
end
end Mf
namespace L2
open PySem PySem.Spec PySem.W PyProof.Rows HT
end L2
namespace L2
open PySem PySem.Spec PyProof.Rows
@[irreducible] def IG:V->List V->Hp->VK->Prop:=λx vs H Q=>∃(l:Addr) (ns:List Int) (m:Int) (j:Nat),x=.ref l/\vs=[.int m]/\H l=some (.lst (ns.map V.int))/\ns[j]?=some m/\(∀i,i<j->ns[i]? ≠ some m)/\ns.length<=1000/\Q (.int (j:Int)) H
theorem aDJ{H:Hp}{l:Addr}{ns:List Int}{m:Int}{j:Nat}{Q:VK}(h:H l=some (.lst (ns.map V.int)))(h1:ns[j]?=some m)(h2:∀i,i<j->ns[i]? ≠ some m)(hz:ns.length<=1000)(q:Q (.int (j:Int)) H):IG (.ref l) [.int m] H Q:=by
 unfold IG;exact ⟨l,ns,m,j,rfl,rfl,h,h1,h2,hz,q⟩
theorem oU:∀{ns:List Int}{us:List Value}{m:Nat},dI (ns.map V.int) us->(hm:m<us.length)->∃s t,ns[m]?=some s/\us[m]=.int s t
 | s::ns,u::us,0,h,_=>by
  cases h with
  | cons r _=>obtain ⟨t,e⟩:=(show ∃t,u=Value.int s t from r);exact ⟨s,t,rfl,e⟩
 | s::ns,u::us,m+1,h,hm=>by
  cases h with
  | cons _ hr =>
   obtain ⟨s',t,h1,h2⟩:=oU hr (m:=m) (by simpa using hm);exact ⟨s',t,h1,h2⟩
 | [],us,m,h,hm=>by cases h;simp at hm
theorem IV(a b:Int):QE (.int a) (.int b)=decide (a=b):=by
 show (a == b)=_;by_cases h:a=b
 ·subst h;simp
 ·simp [h]
theorem xK:∀ns:List Int,(ns.map V.int).all qN=true
 | []=>rfl
 | s::ns=>by show (qN (V.int s)&&(ns.map V.int).all qN)=true;rw [xK ns];rfl
theorem QC{ns:List Int}{m:Int}(h:m∈ns):∃j:Nat,ns[j]?=some m/\∀i,i<j->ns[i]? ≠ some m:=by
 induction ns with
 | nil=>cases h
 | cons a ns ih =>
  by_cases e:a=m
  ·exact ⟨0,by rw [e];rfl,λi hi=>Oo⟩
  ·obtain ⟨j,h1,h2⟩:=ih ((bF.mp h).resolve_left λz=>e z.symm);refine ⟨j+1,h1,λi hi=>?_⟩;cases i with
   | zero=>intro z;exact e (by simpa using z)
   | succ i=>exact h2 i Oo
section
variable{X:Cx}
theorem UV:RP X "list.index" IG:=by
 unfold IG;intro pins s σ H x vs v us Q I rx rv h;obtain ⟨l,ns,m,j,rfl,rfl,hH,h1,h2,hz,q⟩:=h;cases rx;obtain ⟨u,rfl,ru⟩:=mS rv;obtain ⟨t,rfl⟩:=(show ∃t,u=Value.int m t from ru);obtain ⟨z,its,n,r,hl,e⟩:=I.lstM hH;have lj:j<ns.length:=(aI.mp h1).1;have hjl:j<its.toArray.size:=by rw [bC,<-hl,aA];exact lj
 have hit:XI (.int m) its.toArray[j]=true:=by
  obtain ⟨s',t',g1,g2⟩:=oU r (m:=j) (by simpa using hjl);rw [h1] at g1;cases g1;rw [show its.toArray[j]=its[j]'(by simpa using hjl) from rfl,g2];show QE (.int m) (.int m)=true;rw [IV];simp
 have hno:∀i (hm:i<its.toArray.size),i<j->XI (.int m) its.toArray[i]=false:=λi hm hij=>by
  obtain ⟨s',t',g1,g2⟩:=oU r (m:=i) (by simpa using hm);rw [show its.toArray[i]=its[i]'(by simpa using hm) from rfl,g2];show QE (.int s') (.int m)=false;rw [IV];exact cO λz=>h2 i hij (by rw [g1,z])
 refine call_meets F.slot_list_index ⟨_,e,rfl⟩ F.entry_list_index (F.args_list_index_2 _ _) (SeqAt.list_indexAt l its.toArray n none #[] (.int m t) (XI (.int m)) j hjl Oo hit hno) ⟨e,λy hy=>xF (x:=.int m) ⟨t,rfl⟩ rfl r (xK ns) y (by simpa using hy),?_⟩;exact ⟨.int _,H,I.tok _,⟨_,rfl⟩,q⟩
end
end L2
namespace Mf
end Mf
namespace Kw
open PySem L2 Mf
def top(i:Nat):Stmt:=PySem.Challenge.pw_earlystop_k48_whole_no_plain_rule_is_che.main.body.getD i (.Pass ⟨0,0,0,0⟩)
structure Cl where
 ONE:Addr
 NOUGHT:Addr
 Weighing:Addr
 tok_LOOKS_ON:Tok
structure kD(K:PySem.W.Frag)(mg:Str->Option Value)(c:Cl):Prop where
 b_list:mg "list" = none
 b_len:mg "len" = none
 b_abs:mg "abs" = none
 b_range:mg "range" = none
 b_sum:mg "sum" = none
 b_zip:mg "zip" = none
 b_reversed:mg "reversed" = none
 b_tuple:mg "tuple" = none
 b_repr:mg "repr" = none
 b_sorted:mg "sorted" = none
 b_int:mg "int" = none
 b_dict:mg "dict" = none
 b_min:mg "min" = none
 b_isinstance:mg "isinstance" = none
 g_ONE:mg "ONE" = some (.ref c.ONE)
 g_NOUGHT:mg "NOUGHT" = some (.ref c.NOUGHT)
 g_LOOKS_ON:mg "LOOKS_ON" = some (.int 0 c.tok_LOOKS_ON)
 g_Weighing:mg "Weighing" = some (.ref c.Weighing)
 w_Weighing:Own K c.Weighing ["rising","units","weights","cost_unit","costs"]
 o_ONE:sB K c.ONE [1,1]=true
 o_NOUGHT:sB K c.NOUGHT [0,1]=true
abbrev sQ6:Stmt:=(top 55)
theorem cQ6:bS ["_law_script"] ["_law_script"] (aO sQ6):=⟨rfl,rfl,rfl,Kk,rfl,Kk,Kk⟩
abbrev sQ5:Stmt:=(top 56)
theorem cQ5:bS ["_law_feed_here","_law_many","_law_found","_law_at","_law_cells","_law_cell","_law_number"] ["_law_feed_here","_law_many"] (aO sQ5):=⟨rfl,rfl,rfl,Kk,rfl,Kk,Kk⟩
abbrev sQ7:Stmt:=(top 57)
theorem cQ7:bS ["_law_n","_law_d","_law_one","_law_other"] ["_law_n","_law_d"] (aO sQ7):=⟨rfl,rfl,rfl,Kk,rfl,Kk,Kk⟩
abbrev sQ9:Stmt:=(top 62)
theorem XN:bS ["_law_feed_here","_law_many","_law_whole","_law_found","_law_left","_law_k","_law_part","_law_at"] ["_law_feed_here","_law_many"] (aO sQ9):=⟨rfl,rfl,rfl,Kk,rfl,Kk,Kk⟩
theorem PN{b:Bool}{A B:Prop}(h:b=true)(k:A):if b=true then A else B:=by rw [h,if_pos rfl];exact k
theorem PQ{b:Bool}{A B:Prop}(h:b=false)(k:B):if b=true then A else B:=by rw [h,if_neg Dd];exact k
theorem NN{K:PySem.W.Frag}{H H':Hp}{a:Addr}{xs:List V}(s:aU H H')(h:fI K H a xs):fI K H' a xs:=by
 rcases h with (h | ⟨o,h⟩) | h
 ·exact .inl (.inl (s _ _ h))
 ·exact .inl (.inr ⟨o,s _ _ h⟩)
 ·exact .inr h
theorem aT.take{H:Hp}:∀{ds:List PyData}{vs:List V}(n:Nat),aT H ds vs->aT H (ds.take n) (vs.take n)
 | [],_,n,h=>by cases (show _=[] from h);rw [List.take_nil,List.take_nil];exact aT.nil
 | d::ds,_,0,h=>aT.nil
 | d::ds,_,n+1,h=>by
  unfold aT at h;obtain ⟨x,xs,rfl,h1,h2⟩:=h;exact aT.cons h1 (aT.take n h2)
theorem aT.drop{H:Hp}:∀{ds:List PyData}{vs:List V}(n:Nat),aT H ds vs->aT H (ds.drop n) (vs.drop n)
 | [],_,n,h=>by cases (show _=[] from h);rw [List.drop_nil,List.drop_nil];exact aT.nil
 | d::ds,_,0,h=>h
 | d::ds,_,n+1,h=>by
  unfold aT at h;obtain ⟨x,xs,rfl,h1,h2⟩:=h;exact aT.drop n h2
def pQ(n:Nat)(d:PyData):Prop:=PyData.canLay0 d=true/\PyData.depth d<=n
theorem pQ.all{n:Nat}:∀{ds:List PyData},(∀d∈ds,pQ n d)->PyData.canLayAll0 ds=true/\PyData.depthAll ds<=n
 | [],_=>⟨rfl,cG _⟩
 | d::ds,h=>by
  obtain ⟨h1,h2⟩:=h d (aW ..);obtain ⟨h3,h4⟩:=pQ.all λe he=>h e (aS _ he);refine ⟨?_,?_⟩
  ·show (PyData.canLay0 d&&PyData.canLayAll0 ds)=true;rw [h1,h3];rfl
  ·show max (PyData.depth d) (PyData.depthAll ds)<=n;omega
theorem pQ.tup{n:Nat}{ds:List PyData}(h:∀d∈ds,pQ n d):pQ (n+1) (.tuple ds):=⟨(pQ.all h).1,by have:=(pQ.all h).2;show PyData.depthAll ds+1<=n+1;omega⟩
theorem pQ.lst{n:Nat}{ds:List PyData}(h:∀d∈ds,pQ n d):pQ (n+1) (.list ds):=⟨(pQ.all h).1,by have:=(pQ.all h).2;show PyData.depthAll ds+1<=n+1;omega⟩
theorem pQ.int(i:Int):pQ 1 (.int i):=⟨rfl,by simp [PyData.depth]⟩
theorem pQ.ok{n:Nat}{d:PyData}(h:pQ n d)(hn:n<=64:=by decide):SeqAt.shaped d=true:=by
 unfold SeqAt.shaped;rw [h.1,Bool.true_and];exact cP (by have:=h.2;omega)
theorem aA4{z:Int}(h:(10:Int)^Int.toNat 18<=z):0<=z:=Int.le_trans Dd h
abbrev fdD(L:Addr)(t l:Int):List (eO × V):=[(.inr "cells",.ref L),(.inr "at",.int t),(.inr "left",.int l)]
structure dA(H:Hp)(p L:Addr)(n:Nat):Prop where
 ex:∃(ns:List Int) (t l:Int),H p=some (.dK (fdD L t l))/\H L=some (.lst (ns.map V.int))/\ns.length<=63/\0<=l/\0<=t/\t+n<=1000000000000
theorem dA.there{H:Hp}{p L:Addr}{n:Nat}(F:dA H p L n):∃o,H p=some o:=by obtain ⟨ns,t,l,h,_⟩:=F.ex;exact ⟨_,h⟩
theorem dA.ne{H:Hp}{p L q:Addr}{n:Nat}(F:dA H p L n)(hq:H q=none):q≠p:=λe=>by
 subst e;obtain ⟨o,h⟩:=F.there;rw [h] at hq;cases hq
theorem dA.neL{H:Hp}{p L q:Addr}{n:Nat}(F:dA H p L n)(hq:H q=none):q≠L:=λe=>by
 subst e;obtain ⟨ns,t,l,h,h2,_⟩:=F.ex;rw [h2] at hq;cases hq
theorem dA.same{H H':Hp}{p L:Addr}{n:Nat}(F:dA H p L n)(s:aU H H'):dA H' p L n:=by
 obtain ⟨ns,t,l,h1,h2,h3⟩:=F.ex;exact ⟨ns,t,l,s _ _ h1,s _ _ h2,h3⟩
theorem dA.but{H H':Hp}{p L D:Addr}{n:Nat}(F:dA H p L n)(s:aR D H H')(n1:D≠p)(n2:D≠L):dA H' p L n:=by
 obtain ⟨ns,t,l,h1,h2,h3⟩:=F.ex;exact ⟨ns,t,l,s.at (Ne.symm n1) h1,s.at (Ne.symm n2) h2,h3⟩
theorem dA.less{H:Hp}{p L:Addr}{n m:Nat}(F:dA H p L n)(h:m<=n):dA H p L m:=by
 obtain ⟨ns,t,l,e,e2,e3,l0,t0,r⟩:=F.ex;exact ⟨ns,t,l,e,e2,e3,l0,t0,Oo⟩
theorem dA.t{H H':Hp}{p L:Addr}{n:Nat}(F:dA H p L n)(s:aR p H H'):dC H H':=by
 obtain ⟨ns,t,l,h,_⟩:=F.ex;exact s.tD h
theorem dA.like{p L:Addr}(f:Nat->Nat):HA p L (λi H=>dA H p L (f i)) :=
 ⟨λ_ D H1 H2 n1 n2 s F=>F.but s n1 n2,λ_ H1 H2 s F=>F.same s,λ_ H' F=>by obtain ⟨ns,t,l,h,_⟩:=F.ex;exact ⟨_,h⟩,λ_ H' D F h=>⟨F.ne h,F.neL h⟩⟩
@[irreducible] def sN(K:PySem.W.Frag):Sp:=λvs H Q _=>∃(a:Addr) (ns:List Int),vs=[.ref a]/\fI K H a (ns.map V.int)/\ns.length<=63/\∀p L H',dA H' p L 1000000000000->aU H H'->H p=none->H L=none->Q (.ref p) H'
theorem KA{K:PySem.W.Frag}{H:Hp}{Q:VK}{E:XK}{a:Addr}{ns:List Int}(h:fI K H a (ns.map V.int))(hl:ns.length<=63)(k:∀p L H',dA H' p L 1000000000000->aU H H'->H p=none->H L=none->Q (.ref p) H'):sN K [.ref a] H Q E:=by
 unfold sN;exact ⟨a,ns,rfl,h,hl,k⟩
@[irreducible] def lL:Sp:=λvs H Q _=>∃(p L:Addr) (n:Nat) (m:Int),vs=[.ref p,.int m]/\dA H p L (n+1)/\0<m/\bits m<=64/\∀x H',0<=x->x<m->dA H' p L n->aR p H H'->Q (.int x) H'
theorem dQ{H:Hp}{Q:VK}{E:XK}{p L:Addr}{n:Nat}{m:Int}(F:dA H p L (n+1))(h:0<m)(hb:bits m<=64)(k:∀x H',0<=x->x<m->dA H' p L n->aR p H H'->Q (.int x) H'):lL [.ref p,.int m] H Q E:=by
 unfold lL;exact ⟨p,L,n,m,rfl,F,h,hb,k⟩
theorem bitsle{i:Int}{n:Nat}(h:i.natAbs<2^n):bits i<=n:=PySem.intBits_le_iff.mpr h
@[irreducible] def tY(K:PySem.W.Frag):Sp:=λvs H Q _=>∃(a:Addr) (ns:List Int),vs=[.ref a]/\fI K H a (ns.map V.int)/\ns.length<=63/\∀H',Q (.bl true) H'
theorem NQ{K:PySem.W.Frag}{H:Hp}{a:Addr}{ns:List Int}(h:fI K H a (ns.map V.int))(hl:ns.length<=63):tY K [.ref a] H (λv _=>v=.bl true) (λ_ _ _=>False):=by
 unfold tY;exact ⟨a,ns,rfl,h,hl,λ_=>rfl⟩
theorem AD{H:Hp}:∀ns:List Int,aT H (ns.map PyData.int) (ns.map V.int)
 | []=>aT.nil
 | n::ns=>aT.cons (cA.int n) (AD ns)
theorem PU{ns:List Int}:PyData.eqv (.list (ns.map PyData.int)) (.list [])=decide (ns=[]):=by
 cases ns <;> simp [PyData.eqv,PyData.eqvAll]
theorem CZ(ns:List Int):SeqAt.shaped (.list (ns.map PyData.int))=true:=(pQ.lst (n:=1) λd hd=>by
 obtain ⟨i,_,rfl⟩:=aQ.mp hd;exact pQ.int i).ok
section
theorem oQ6(F:iV K "_law_feed" "_law_feed" sQ6 f fd)(T:kD K mg c):dM P w K mg base cS 1 f fd ["_law_script"] (sN K):=by
 refine F.oky cQ6 λvs H Q E h=>?_;unfold sN at h;obtain ⟨a,ns,rfl,hS,hl,k⟩:=h;refine ⟨rfl,λcdv A outer s hr=>?_⟩;refine ⟨_,(aX (cB (RZ (wF gL (kS BS (by rfl) T.b_list Kk (aG (nH HZ (aD 0) qU (qT aM)) aC)) (wF gL aM (wF gL aM RU)))))),?_⟩;intro p hp;have s0:=aU.upd (o:=.dK []) hp;have e0:(upd H p (.dK [])) p=some (.dK []):=bK;generalize upd H p (.dK [])=H0 at s0 e0;refine ⟨_,rfl,_,rfl,a,_,rfl,NN s0 hS,λq1 h1=>?_⟩;refine ⟨q1,_,rfl,.inl (fI.of bK),λq2 h2=>?_⟩;have e1:lC (ns.map V.int) none (some 63)=ns.map V.int:=by
  unfold lC;have:HT.iW (ns.map V.int).length (ns.map V.int).length (some 63)=(ns.map V.int).length:=by
   rw [show ((63:Int))=((63:Nat):Int) from rfl,HT.AS,aA];omega
  rw [this,HT.sR,List.drop_zero,Nat.sub_zero];exact List.take_of_length_le (aL _)
 have s2:=(aU.upd (o:=.lst (lC (ns.map V.int) none (some 63))) h1).trans (aU.upd (o:=.lst (lC (ns.map V.int) none (some 63))) h2);have e2:(upd (upd H0 q1 (.lst (lC (ns.map V.int) none (some 63)))) q2 (.lst (lC (ns.map V.int) none (some 63)))) q2=some (.lst (ns.map V.int)):=by rw [bK,e1]
 have f2:H0 q2=none:=(aU.upd h1).free h2;generalize upd (upd H0 q1 (.lst (lC (ns.map V.int) none (some 63)))) q2 (.lst (lC (ns.map V.int) none (some 63)))=H2 at s2 e2;have n2:q2≠p:=λz=>by rw [z,e0] at f2;cases f2
 refine ⟨s2 _ _ e0,fdD q2 0 0,rfl,by show 3<=15;decide,?_⟩;refine k p q2 _ ⟨ns,0,0,?_,?_,hl,Dd,Dd,Dd⟩ ?_ hp (s0.free f2)
 ·rw [bK];rfl
 ·rw [L2.dB n2];exact e2
 ·intro b o h;have nb:b≠p:=λe=>by subst e;rw [hp] at h;cases h
  rw [L2.dB nb];exact s2 _ _ (s0 _ _ h)
theorem oQ5(F:iV K "_law_draw" "_law_draw" sQ5 f fd)(T:kD K mg c):dM P w K mg base cS 1 f fd ["_law_feed_here","_law_many"] lL:=by
 refine F.oky cQ5 λvs H Q E h=>?_;unfold lL at h;obtain ⟨p,L,n,m,rfl,F,hm,hb,k⟩:=h;refine ⟨rfl,λcdv A outer s hr=>?_⟩;obtain ⟨ns,t,l,hp,hL,hl,h0,h1,h2⟩:=F.ex;refine ⟨_,(aH (lT (gC IK (fU hr.u1 (aD 0) gL) aM (nomark _)) (aH (bJ (i:=2) cQ5.nd rfl (Or.inl rfl) (bV mI (fU hr.u1 (aD 0) gL) (aD 1)))
  (aH (iQ hr.u1 (aD 0) gL (bV fL (fU hr.u1 (aD 0) gL) (aD 1)))
  (aX (cB (aD 2))))) iO)
  (aH (bJ (i:=3) cQ5.nd rfl (Or.inl rfl) (fU hr.u1 (aD 0) gL))
  (aH (iQ hr.u1 (aD 0) gL (bV dY (aD 3) aM))
  (aH (bJ (i:=4) cQ5.nd rfl (Or.inl rfl) (fU hr.u1 (aD 0) gL))
  (aH (MN (bJ (i:=5) cQ5.nd rfl (Or.inl rfl) (CH (gC (GF hr.units) (aD 4) (gM aC) (nomark _)) (bX bO (aD 4) (bV mI (aD 3) (jO nC (by rfl) T.b_len Kk (aG (aD 4) aC))) (λ_ _=>rfl)) (bV dO (aD 3) (aD 3)))))
  (aH (lT (HG (XY (MM (gC aBU (aD 5) (bV aAx aM aM) (nomark _)) (HD (gC xD (aD 3) (jO nC (by rfl) T.b_len Kk (aG (aD 4) aC)) (nomark _)))))) (aH (iQ hr.u1 (aD 0) gL (bV fL (aD 5) (aD 1)))
  (aX (cB (bV mI (aD 5) (aD 1))))) iO)
  (aH (bJ (i:=6) cQ5.nd rfl (Or.inl rfl) (bV mI (bV dO (bV dY (bV mI (aD 5) aM) aM) (bV dY aM (bV dO aM (aD 3)))) aM))
  (aX (cB (bV mI (bV fL (bV mI (bV dY (bV dO (aD 6) aM) (bV dO (bV dO (aD 3) (aD 3)) aM)) aM) aM) (aD 1))))))))))),?_⟩
 refine ⟨_,rfl,?_⟩;refine dgS hp rfl ?_;refine ⟨_,_,rfl,rfl,_,rfl,?_⟩;refine rZ (λe0=>?_) (λe0=>?_)
 ·refine ⟨_,rfl,?_⟩;refine dgS hp rfl ?_;refine ⟨_,rfl,_,_,rfl,rfl,hm,?_⟩;refine ⟨_,rfl,?_⟩;refine dgS hp rfl ?_;refine ⟨_,rfl,_,_,rfl,rfl,⟨hm,aK hb Dd⟩,?_⟩;refine ⟨_,rfl,?_⟩;refine dpS (kvs2:=fdD L t (l/m)) hp (by show 3<=64;decide) rfl λH2 hp2 s2=>?_;have nL:L≠p:=λz=>by rw [z,hp] at hL;cases hL
  refine ⟨_,rfl,?_⟩;exact k _ H2 (Int.emod_nonneg _ Oo) (Int.emod_lt_of_pos _ hm) ⟨ns,t,l/m,hp2,s2.at nL hL,hl,Int.ediv_nonneg h0 Oo,Oo,Oo⟩ s2
 ·have nL:L≠p:=λz=>by rw [z,hp] at hL;cases hL
  refine ⟨_,rfl,?_⟩;refine dgS hp rfl ?_;refine ⟨_,rfl,_,_,rfl,rfl,_,rfl,?_⟩;refine dpS (kvs2:=fdD L (t+1) l) hp (by show 3<=64;decide) rfl λH1 hp1 s1=>?_;have hL1:=s1.at nL hL;refine ⟨_,rfl,?_⟩;refine dgS hp1 rfl ?_;have bt:bits t<=64:=PySem.intBits_le_64 Oo Oo;have bt':bits (7919:Int)<=64:=Kk;have F2:∀{H3:Hp},aU H1 H3->dA H3 p L n:=λs3=>⟨ns,t+1,l,s3 _ _ hp1,s3 _ _ hL1,hl,h0,Oo,Oo⟩;refine ⟨λσ H3=>∃cc:Int,σ=[some (.ref p),some (.int m),none,some (.int t),some (.ref L),some (.int cc),none]/\aU H1 H3,?_,?_⟩
  ·rintro σ H3 ⟨cc,rfl,s3⟩;have e3p:=s3 _ _ hp1;have e3L:=s3 _ _ hL1;refine ⟨λb H4=>H4=H3/\(b=true->0<=cc),?_,?_⟩
   ·refine ⟨_,rfl,_,_,rfl,rfl,⟨Dd,Dd,Dd⟩,_,_,rfl,rfl,_,rfl,?_⟩;refine rZ (λe1=>?_) (λe1=>?_)
    ·refine ⟨_,rfl,_,rfl,?_⟩;refine rlL e3L ?_;exact ⟨_,_,rfl,rfl,_,rfl,rfl,λ_=>aA4 e1⟩
    ·exact ⟨rfl,λh=>by cases h⟩
   ·rintro b H4 ⟨rfl,hcc⟩;cases b with
    | true =>
     have hcc:=hcc rfl;refine PP ?_;refine ⟨_,rfl,_,rfl,_,_,rfl,rfl,⟨hm,aK hb Dd⟩,?_⟩;refine ⟨_,rfl,?_⟩;refine dpS (kvs2:=fdD L (t+1) (cc/m)) e3p (by show 3<=64;decide) rfl λH5 hp5 s5=>?_;refine ⟨_,rfl,_,rfl,_,_,rfl,rfl,hm,?_⟩;exact k _ H5 (Int.emod_nonneg _ Oo) (Int.emod_lt_of_pos _ hm) ⟨ns,t+1,cc/m,hp5,s5.at nL e3L,hl,Int.ediv_nonneg hcc Oo,Oo,Oo⟩ ((s1.trans s3.but).trans s5)
    | false =>
     refine PR ?_;have c0:=Int.emod_nonneg cc (b:=2147483629) Dd;have c1:=Int.emod_lt_of_pos cc (b:=2147483629) Dd;refine ⟨_,rfl,_,_,rfl,rfl,(by show (0:Int)<2147483629;decide),_,_,rfl,rfl,_,rfl,_,_,rfl,rfl,IntMulOk.of_left bt',_,_,rfl,rfl,_,_,rfl,rfl,IntMulOk.of_left (PySem.intBits_le_64 Oo Oo),_,_,rfl,rfl,(by show (0:Int)<2147483647;decide),?_⟩;generalize (cc % 2147483629+1)*(48271+7919*t) % 2147483647=z;refine ⟨_,rfl,_,_,rfl,rfl,IntMulOk.of_right Kk,_,rfl,_,rfl,_,_,rfl,rfl,IntMulOk.of_left bt,_,_,rfl,rfl,IntMulOk.of_right Kk,_,_,rfl,rfl,_,_,rfl,rfl,(by show (0:Int)<2147483399;decide),_,_,rfl,rfl,⟨Dd,Kk⟩,_,rfl,_,_,rfl,rfl,hm,?_⟩;exact k _ H4 (Int.emod_nonneg _ Oo) (Int.emod_lt_of_pos _ hm) (F2 s3) (s1.trans s3.but)
  ·refine ⟨_,rfl,?_⟩;refine AZ (by show 0<=64;decide) λq2 H2 hq2 e2 s2=>?_;refine reD (d:=.list (ns.map PyData.int)) (d':=.list []) (cA.lst (s2 _ _ hL1) (AD ns)) (cA.lst e2 aT.nil) (CZ ns) rfl ?_;rw [PU];refine ⟨_,rfl,?_⟩;by_cases ens:ns=[]
   ·refine PQ (by rw [cP ens];rfl) ?_;refine ⟨_,rfl,_,rfl,_,_,rfl,rfl,IntMulOk.of_left bt,?_⟩;exact ⟨_,rfl,s2⟩
   ·refine PN (by rw [cO ens];rfl) ?_;have lp:0<ns.length:=List.length_pos_iff.mpr ens;refine ⟨_,rfl,_,rfl,_,rfl,?_⟩;refine rlL (s2 _ _ hL1) ?_;rw [aA];refine ⟨_,_,rfl,rfl,Oo,?_⟩;have g0:=Int.emod_nonneg t (b:=(ns.length:Int)) Oo;have g1:=Int.emod_lt_of_pos t (b:=(ns.length:Int)) Oo;have hj:∃z,ns[(t % (ns.length:Int)).toNat]?=some z:=⟨_,aB Oo⟩;obtain ⟨z,hz⟩:=hj;have hat:BV (ns.map V.int) (t % (ns.length:Int))=some (.int z):=by
     have:=dU (xs:=ns.map V.int) (j:=(t % (ns.length:Int)).toNat) (v:=V.int z) (by rw [aN,hz];rfl)
     rwa [Int.toNat_of_nonneg g0] at this
    refine PM (s2 _ _ hL1) hat ?_;exact ⟨_,rfl,s2⟩
end
abbrev fN(f:Fr):PyData:=.tuple [.int f.1,.int f.2]
theorem QB{H:Hp}{f:Fr}{v:V}(h:cA H (fN f) v):∃a,v=.ref a/\H a=some (.tup [.int f.1,.int f.2]):=by
 unfold cA aT aT aT at h;obtain ⟨a,_,rfl,h1,x,_,rfl,r1,y,_,rfl,r2,rfl⟩:=h;cases (show x=V.int f.1 from r1);cases (show y=V.int f.2 from r2);exact ⟨a,rfl,h1⟩
theorem cX{H:Hp}{f:Fr}{a:Addr}(h:H a=some (.tup [.int f.1,.int f.2])):cA H (fN f) (.ref a):=cA.tup h (aT.cons (cA.int _) (aT.cons (cA.int _) aT.nil))
theorem cU(f:Fr):fM (fN f)=true:=rfl
def fP(K:PySem.W.Frag)(H:Hp)(f:Fr)(x:V):Prop:=∃a,x=.ref a/\jM K H a [.int f.1,.int f.2]
theorem fP.of{K:PySem.W.Frag}{H:Hp}{f:Fr}{x:V}(h:cA H (fN f) x):fP K H f x:=by
 obtain ⟨a,e,h⟩:=QB h;exact ⟨a,e,jM.of h⟩
theorem fP.new{K:PySem.W.Frag}{H:Hp}{f:Fr}{a:Addr}(h:H a=some (.tup [.int f.1,.int f.2])):fP K H f (.ref a):=⟨a,rfl,jM.of h⟩
theorem fP.same{K:PySem.W.Frag}{H H':Hp}{f:Fr}{x:V}(s:aU H H')(h:fP K H f x):fP K H' f x:=by
 obtain ⟨a,e,h⟩:=h;exact ⟨a,e,h.keep s⟩
def oP(k:Nat)(f:Fr):Prop:=f.1.natAbs<2^k/\f.2.natAbs<2^k
@[irreducible] def wU:Sp:=λvs H Q _=>∃n d:Int,vs=[.int n,.int d]/\0<d/\Q (.int (Int.gcd n d)) H
theorem sQ{H:Hp}{Q:VK}{E:XK}{n d:Int}(h:0<d)(q:Q (.int (Int.gcd n d)) H):wU [.int n,.int d] H Q E:=by unfold wU;exact ⟨n,d,rfl,h,q⟩
def qR(H:Hp)(Q:VK)(f:Fr):Prop:=∀q H',H q=none->H' q=some (.tup [.int f.1,.int f.2])->aU H H'->Q (.ref q) H'
@[irreducible] def lK(K:PySem.W.Frag):Sp:=λvs H Q _=>∃x y f g,vs=[x,y]/\fP K H f x/\fP K H g y/\cV f/\cV g/\oP 4000 f/\oP 4000 g/\qR H Q (lO f g)
theorem nR{K:PySem.W.Frag}{H:Hp}{Q:VK}{E:XK}{x y:V}{f g:Fr}(h1:fP K H f x)(h2:fP K H g y)(l1:cV f)(l2:cV g)(z1:oP 4000 f)(z2:oP 4000 g)(q:qR H Q (lO f g)):lK K [x,y] H Q E:=by unfold lK;exact ⟨x,y,f,g,rfl,h1,h2,l1,l2,z1,z2,q⟩
@[irreducible] def mV(K:PySem.W.Frag):Sp:=λvs H Q _=>∃x y f g,vs=[x,y]/\fP K H f x/\fP K H g y/\oP 4000 f/\oP 4000 g/\Q (.bl (decide (f.1*g.2<g.1*f.2))) H
theorem yZ{K:PySem.W.Frag}{H:Hp}{Q:VK}{E:XK}{x y:V}{f g:Fr}(h1:fP K H f x)(h2:fP K H g y)(z1:oP 4000 f)(z2:oP 4000 g)(q:Q (.bl (decide (f.1*g.2<g.1*f.2))) H):mV K [x,y] H Q E:=by unfold mV;exact ⟨x,y,f,g,rfl,h1,h2,z1,z2,q⟩
theorem aAO{n d:Int}(h:0<d):(Int.gcd n d:Int)<=d:=Int.le_of_dvd h (Int.gcd_dvd_right n d)
theorem xM{n d:Int}{k:Nat}(h:0<d)(z:d.natAbs<2^k):(Int.gcd n d:Int).natAbs<2^k:=by
 have:=aAO (n:=n) h;have:=jF (n:=n) h;omega
theorem qP{n d:Int}(h:0<d)(z:d.natAbs<2^9000):RE n d:=⟨h,GS z⟩
theorem jW{i:Int}{n m:Nat}(h:i.natAbs<2^n)(k:n<=m:=by decide):i.natAbs<2^m:=aV h (aJ Dd k)
theorem oV{i j:Int}{n:Nat}(h:i.natAbs<2^n)(hj:0<j):(i/j).natAbs<2^n:=bA (by
 have:=Int.natAbs_ediv_le_natAbs i j;exact this) h
theorem AI{i j:Int}{n m:Nat}(h1:i.natAbs<2^n)(h2:j.natAbs<2^m):(i*j).natAbs<2^(n+m):=by
 rw [eX,Nat.pow_add];exact Nat.mul_lt_mul'' h1 h2
abbrev rT(fs:List Fr):PyData:=.tuple (fs.map fN)
theorem mJ:∀fs:List Fr,hJ (fs.map fN)=true
 | []=>rfl
 | f::fs=>by show (fM (fN f)&&hJ (fs.map fN))=true;rw [mJ fs];rfl
theorem kZ(fs:List Fr):fM (rT fs)=true:=mJ fs
@[irreducible] def jY:Sp:=λvs H Q _=>∃n d:Int,vs=[.int n,.int d]/\0<d/\d.natAbs<2^9000/\qR H Q (lw n d)
theorem jI{H:Hp}{Q:VK}{E:XK}{n d:Int}(h:0<d)(z:d.natAbs<2^9000)(q:qR H Q (lw n d)):jY [.int n,.int d] H Q E:=by unfold jY;exact ⟨n,d,rfl,h,z,q⟩
section
theorem oQ7(F:iV K "_law_frac" "_law_frac" sQ7 f fd)(T:kD K mg c):dM P w K mg base cS 1 f fd ["_law_n","_law_d"] jY:=by
 refine F.oky cQ7 λvs H Q E h=>?_;unfold jY at h;obtain ⟨n,d,rfl,hd,hz,q⟩:=h;refine ⟨rfl,λcdv A outer s hr=>?_⟩;refine ⟨_,(aH (bJ (i:=2) cQ7.nd rfl (Or.inl rfl) (jO aAX (by rfl) T.b_abs Kk (aG (aD 0) aC)))
  (aH (bJ (i:=3) cQ7.nd rfl (Or.inl rfl) (aD 1))
  (aH (sE PassesOwn.never (gC IK (aD 3) aM (nomark _)) (aX (XZ (i:=2) (j:=3) rfl cQ7.nd rfl rfl Dd rfl rfl (aG (aD 3) (aG (bV mI (aD 2) (aD 3)) aC)) rfl)))
  (aX (cB (dS (aG (bV fL (aD 0) (aD 2)) (aG (bV fL (aD 1) (aD 2)) aC)))))))),?_⟩
 refine ⟨_,rfl,?_⟩;refine raI ?_;refine ⟨_,rfl,?_⟩;refine vS (λm σ H'=>∃(u v:Int),σ=[some (.int n),some (.int d),some (.int u),some (.int v)]/\0<=v/\Int.gcd u v=Int.gcd n d/\(v=0->0<u)/\H'=H/\m=v.toNat)
  (λσ H'=>σ=[some (.int n),some (.int d),some (.int (Int.gcd n d)),some (.int 0)]/\H'=H)
  _ ⟨(n.natAbs:Int),d,rfl,Oo,by rw [Int.gcd_eq_natAbs_gcd_natAbs,Int.gcd_eq_natAbs_gcd_natAbs,Int.natAbs_natCast],Oo,rfl,rfl⟩ ?_ ?_
 ·rintro m σ H2 ⟨u,v,rfl,hb,hg,h0,rfl,rfl⟩;refine ⟨_,rfl,_,_,rfl,rfl,_,rfl,?_⟩;refine rZ (λe=>?_) (λe=>?_)
  ·refine ⟨_,rfl,_,rfl,_,rfl,_,_,rfl,rfl,e,_,_,rfl,?_⟩;have e1:=Int.emod_lt_of_pos u e;have e2:=Int.emod_nonneg u (b:=v) Oo;exact ⟨_,Oo,v,u % v,rfl,e2,by rw [DZ,hg],λ_=>e,rfl,rfl⟩
  ·have hb0:v=0:=Oo;subst hb0;have hu:=h0 rfl;have e1:=IS hu;rw [hg] at e1;rw [e1];exact ⟨rfl,rfl⟩
 ·rintro σ H2 ⟨rfl,rfl⟩;have hg:=jF (n:=n) hd;have zg:RE n (Int.gcd n d:Int):=qP hg (xM hd hz);refine ⟨_,rfl,_,rfl,_,_,rfl,rfl,zg,?_⟩;refine ⟨_,rfl,_,rfl,_,_,rfl,rfl,zg,?_⟩;refine rK (by show 2<=64;decide) λp H3 hp e3 s3=>?_;exact q p H3 hp e3 s3
end
def fC:Nat:=2512440
structure FA(m:Nat)(fs:List Fr):Prop where
 ex:∃(ps:List Int) (W:Int),ps.length=m/\(∀x∈ps,0<=x/\x<=W)/\ps.sum=W/\0<W/\W<=997/\W.natAbs ∣ fC/\fs=ps.map λx=>lw x W
theorem FA.len{m:Nat}{fs:List Fr}(h:FA m fs):fs.length=m:=by
 obtain ⟨ps,W,h1,_,_,_,_,_,rfl⟩:=h.ex;rw [aA,h1]
theorem FA.at{m:Nat}{fs:List Fr}(h:FA m fs):∀f∈fs,Fn fC 1 f/\0<=f.1:=by
 obtain ⟨ps,W,h1,h2,_,h4,h5,h6,rfl⟩:=h.ex;intro f hf;obtain ⟨x,hx,rfl⟩:=aQ.mp hf;have:=h2 x hx;exact ⟨(Fn.of h4 Oo).dvd h6,Int.ediv_nonneg this.1 (Int.natCast_nonneg _)⟩
theorem FA.bits{m:Nat}{fs:List Fr}(h:FA m fs):∀f∈fs,f.1.natAbs<=997/\f.2.natAbs<=997:=by
 obtain ⟨ps,W,h1,h2,_,h4,h5,h6,rfl⟩:=h.ex;intro f hf;obtain ⟨x,hx,rfl⟩:=aQ.mp hf;have:=h2 x hx;have q:=IM (n:=x) h4;have p:=(jA (n:=x) h4).pos;omega
theorem SL:∀x:Nat,1<=x->x<=10->x ∣ fC:=by
 intro x h1 h2;have:∀x,x<=10->1<=x->x ∣ fC:=by unfold fC;decide
 exact this x h2 h1
theorem KD{W:Int}(h:(1<=W/\W<=10)\/W=997):W.natAbs ∣ fC:=by
 rcases h with h | rfl
 ·exact SL _ Oo Oo
 ·show 997 ∣ 2512440;decide
@[irreducible] def lQ:Sp:=λvs H Q _=>∃(p L:Addr) (n m:Nat),vs=[.ref p,.int (m:Int)]/\dA H p L (n+12)/\0<m/\m<=5/\∀v fs H',dA H' p L n->aR p H H'->cA H' (rT fs) v->FA m fs->Q v H'
theorem vF{H:Hp}{Q:VK}{E:XK}{p L:Addr}{n m:Nat}(F:dA H p L (n+12))(m0:0<m)(m5:m<=5)(k:∀v fs H',dA H' p L n->aR p H H'->cA H' (rT fs) v->FA m fs->Q v H'):lQ [.ref p,.int (m:Int)] H Q E:=by
 unfold lQ;exact ⟨p,L,n,m,rfl,F,m0,m5,k⟩
theorem TF(l:List Int)(a:Nat):(l.drop a++l.take a).sum=l.sum:=by
 rw [List.sum_append,Int.add_comm,<-List.sum_append,List.take_append_drop]
section
theorem oQ9(F:iV K "_law_shares" "_law_shares" sQ9 f fd)(T:kD K mg c)
  (FQ5:eZ cS P w K mg base 1 "_law_draw" ["_law_feed_here","_law_many"] lL) (FQ7:eZ cS P w K mg base 1 "_law_frac" ["_law_n","_law_d"] jY):dM P w K mg base cS 2 f fd ["_law_feed_here","_law_many"] lQ:=by
 refine F.oky XN λvs H Q E h=>?_;unfold lQ at h;obtain ⟨p,L,n,m,rfl,F,m0,m5,k⟩:=h;refine ⟨rfl,λcdv A outer s hr=>?_⟩;refine ⟨_,(aH (bJ (i:=2) XN.nd rfl (Or.inl rfl) (bX bO (gM (aG (bV dY aM (bH FQ5 (hr.mono Dd) (aG (aD 0) (aG aM aC)))) (aG (bV dY aM (bH FQ5 (hr.mono Dd) (aG (aD 0) (aG aM aC)))) (aG (bV dY aM (bH FQ5 (hr.mono Dd) (aG (aD 0) (aG aM aC)))) (aG aM aC))))) (bH FQ5 (hr.mono Dd) (aG (aD 0) (aG aM aC))) (λ_ _=>rfl)))
  (aH (bJ (i:=3) XN.nd rfl (Or.inl rfl) (gM aC))
  (aH (bJ (i:=4) XN.nd rfl (Or.inl rfl) (aD 2))
  (aH (fD PassesOwn.never rfl (dG rfl T.b_range (aG (bV uJ (aD 1) aM) aC)) (cT (i:=5) XN.nd rfl (Or.inl rfl)) (aH (bJ (i:=6) XN.nd rfl (Or.inl rfl) (bH FQ5 (hr.mono Dd) (aG (aD 0) (aG (bV dY (aD 4) aM) aC))))
  (aH (iP (lH PySem.F.plainAttrs_list PySem.F.slot_list_append PySem.F.type_list_append mZ (aD 3) (aG (bH FQ7 (hr.mono Dd) (aG (aD 6) (aG (aD 2) aC))) aC)))
  (aX (bJ (i:=4) XN.nd rfl (Or.inl rfl) (bV uJ (aD 4) (aD 6)))))))
  (aH (iP (lH PySem.F.plainAttrs_list PySem.F.slot_list_append PySem.F.type_list_append mZ (aD 3) (aG (bH FQ7 (hr.mono Dd) (aG (aD 4) (aG (aD 2) aC))) aC)))
  (aH (bJ (i:=7) XN.nd rfl (Or.inl rfl) (bH FQ5 (hr.mono Dd) (aG (aD 0) (aG (aD 1) aC))))
  (aX (cB (kS dP (by rfl) T.b_tuple Kk (aG (bV OU (nH (wX K) (aD 3) (qT (aD 7)) qU) (nH (wX K) (aD 3) qU (qT (aD 7)))) aC)))))))))),?_⟩
 refine ⟨_,rfl,?_⟩;refine dQ (n:=n+11) F Dd Kk λx1 H1 a1 b1 F1 s1=>?_;refine ⟨_,_,rfl,rfl,_,rfl,?_⟩;refine dQ (n:=n+10) F1 Dd Kk λx2 H2 a2 b2 F2 s2=>?_;refine ⟨_,_,rfl,rfl,_,rfl,?_⟩;refine dQ (n:=n+9) F2 Dd Kk λx3 H3 a3 b3 F3 s3=>?_;refine ⟨_,_,rfl,rfl,?_⟩;refine AZ (by show 4<=64;decide) λq4 H4 hq4 e4 s4=>?_;refine ⟨_,rfl,?_⟩;refine dQ (n:=n+8) (F3.same s4) Dd Kk λx5 H5 a5 b5 F5 s5=>?_;have hW:∃W:Int,BV [V.int (1+x1),V.int (2+x2),V.int (2+x3),V.int 997] x5=some (.int W)/\((1<=W/\W<=10)\/W=997):=by
  have:x5=0\/x5=1\/x5=2\/x5=3:=Oo;rcases this with rfl | rfl | rfl | rfl
  ·exact ⟨_,rfl,.inl Oo⟩
  ·exact ⟨_,rfl,.inl Oo⟩
  ·exact ⟨_,rfl,.inl Oo⟩
  ·exact ⟨_,rfl,.inr rfl⟩
 obtain ⟨W,hat,hW⟩:=hW;refine PM (s5.at (F3.ne hq4) e4) hat ?_;have W0:0<W/\W<=997:=Oo;have b5:aR p H H5:=((((s1.trans s2).trans s3).trans s4.but).trans s5);clear s1 s2 s3 s4 s5 e4 hat F1 F2 F3;refine AZ (by show 0<=64;decide) λD H6 hD e6 s6=>?_;have F6:=F5.same s6;have nD:=F5.ne hD;have nDL:=F5.neL hD;have hD0:H D=none:=aR.free b5 F5.there hD;refine ⟨_,rfl,_,rfl,_,_,rfl,rfl,((m-1:Nat):Int),by show [V.int ((m:Int)-1)]=_;rw [show ((m:Int)-1)=((m-1:Nat):Int) by omega],Oo,Oo,?_⟩;rw [Int.toNat_natCast];have wz:W.natAbs<2^9000:=aV (show W.natAbs<2^10 by show W.natAbs<1024;omega) (aJ Dd Dd);refine gI (λi σ H'=>∃(o5 o6 o7:Option V) (ps:List Int) (vs:List V) (left:Int),σ=[some (.ref p),some (.int (m:Int)),some (.int W),some (.ref D),some (.int left),o5,o6,o7]/\dA H' p L (n+8-i)/\aR p H H'/\H' D=some (.lst vs)/\aT H' ((ps.map λx=>lw x W).map fN) vs/\ps.length=i/\(∀x∈ps,0<=x/\x<=W)/\ps.sum+left=W/\0<=left/\left<=W)
  ⟨_,_,_,[],[],W,rfl,F6,b5.trans s6.but,e6,aT.nil,rfl,(λx h=>by cases h),by simp,Oo,Oo⟩ ?_ ?_
 ·rintro i σ H7 hi ⟨o5,o6,o7,ps,vs,left,rfl,F7,b7,e7,r7,l7,hp7,hs7,l0,l1⟩;refine ⟨_,rfl,_,rfl,_,_,rfl,rfl,?_⟩;refine dQ (n:=n+8-(i+1)) (F7.less Oo) Oo (bitsle (bA (show (left+1).natAbs<=998 by omega) Dd)) λx8 H8 a8 b8 F8 s8=>?_;have e8:=s8.at nD e7;refine ⟨_,rfl,FF e8,_,rfl,_,rfl,?_⟩;refine jI W0.1 wz ?_;intro q9 H9 hq9 e9 s9;have e9D:=s9 _ _ e8;have lv:vs.length=i:=by rw [r7.len,aA,aA,l7]
  refine yL e9D Oo λH10 e10 b10=>?_;refine ⟨_,rfl,_,rfl,_,_,rfl,rfl,?_⟩;have t78:=F7.t s8;have t10:=b10.t e9D;refine ⟨_,_,_,ps++[x8],vs++[.ref q9],left-x8,rfl,(F8.same s9).but b10 nD nDL,aR.thru hD0 ((b7.trans s8).trans s9.but) b10,e10,?_,by rw [aP,l7];rfl,?_,?_,Oo,Oo⟩
  ·rw [bE,bE];exact aT.snoc (r7.flat ((t78.trans s9.t).trans t10) (mJ _)) (cA.flat t10 (cU _) (cX e9))
  ·intro x hx;rcases cE.mp hx with hx | hx
   ·exact hp7 x hx
   ·rw [aY.mp hx];omega
  ·rw [List.sum_append,List.sum_singleton];omega
 ·rintro σ H7 ⟨o5,o6,o7,ps,vs,left,rfl,F7,b7,e7,r7,l7,hp7,hs7,l0,l1⟩;refine ⟨_,rfl,FF e7,_,rfl,_,rfl,?_⟩;refine jI W0.1 wz ?_;intro q9 H9 hq9 e9 s9;have e9D:=s9 _ _ e7;have lv:vs.length=m-1:=by rw [r7.len,aA,aA,l7]
  refine yL e9D Oo λH10 e10 b10=>?_;have t10:=b10.t e9D;have F10:=(F7.same s9).but b10 nD nDL;have B10:aR p H H10:=aR.thru hD0 (b7.trans s9.but) b10;have r10:aT H10 (((ps++[left]).map λx=>lw x W).map fN) (vs++[.ref q9]):=by
   rw [bE,bE];exact aT.snoc (r7.flat (s9.t.trans t10) (mJ _)) (cA.flat t10 (cU _) (cX e9))
  have hps:(ps++[left]).length=m/\(∀x∈ps++[left],0<=x/\x<=W)/\(ps++[left]).sum=W:=by
   refine ⟨by rw [aP,l7];show m-1+1=m;omega,λx hx=>?_,by rw [List.sum_append,List.sum_singleton];omega⟩;rcases cE.mp hx with hx | hx
   ·exact hp7 x hx
   ·rw [aY.mp hx];omega
  generalize ps++[left]=qs at r10 hps;generalize vs++[V.ref q9]=us at r10 e10;clear r7 hp7 hs7 l0 l1 l7 e7 e9 e9D b10 t10 F7 b7 s9;have lu:us.length=m:=by rw [r10.len,aA,aA,hps.1]
  refine ⟨_,rfl,_,rfl,?_⟩;refine dQ (n:=n) (F10.less Oo) Oo (bitsle (bA (show ((m:Int)).natAbs<=5 by omega) Dd)) λx H11 a11 b11 F11 s11=>?_;obtain ⟨a,rfl⟩:∃a:Nat,x=(a:Int):=⟨x.toNat,Oo⟩;have e11:=s11.at nD e10;have r11:=r10.flat (F10.t s11) (mJ _);refine ⟨_,rfl,_,rfl,_,rfl,?_⟩;refine slL e11 (ys:=us.drop a) (JC _ _) λq12 H12 hq12 e12 s12=>?_;refine ⟨_,rfl,_,rfl,_,rfl,?_⟩;refine slL (s12 _ _ e11) (ys:=us.take a) (JD _ _) λq13 H13 hq13 e13 s13=>?_;refine aCa (s13 _ _ e12) e13 (by rw [List.length_drop,fA];omega) λq14 H14 hq14 e14 s14=>?_;refine ⟨q14,_,rfl,.inl ⟨fI.of e14,λl hl=>?_⟩⟩;have s15:=aU.upd (o:=.tup (us.drop a++us.take a)) hl;have e15:(upd H14 l (.tup (us.drop a++us.take a))) l=some (.tup (us.drop a++us.take a)):=bK;generalize upd H14 l (.tup (us.drop a++us.take a))=H15 at s15 e15;have S:=((s12.trans s13).trans s14).trans s15;refine k _ ((qs.drop a++qs.take a).map λx=>lw x W) H15 (F11.same S) ((B10.trans s11).trans S.but) (cA.tup e15 ?_) ⟨qs.drop a++qs.take a,W,?_,?_,?_,W0.1,W0.2,KD hW,rfl⟩
  ·have r:=r11.same S;rw [bE,bE];refine aT.append ?_ ?_
   ·rw [List.map_take,List.map_take];exact aT.take a r
   ·rw [List.map_drop,List.map_drop];exact aT.drop a r
  ·rw [aP,List.length_drop,fA];omega
  ·intro x hx;rcases cE.mp hx with hx | hx
   ·exact hps.2.1 x (List.mem_of_mem_drop hx)
   ·exact hps.2.1 x (List.mem_of_mem_take hx)
  ·rw [TF];exact hps.2.2
end
abbrev NW:Stmt:=(top 63)
theorem QT:bS ["_law_feed_here","_law_faces","_law_ways","_law_names","_law_start","_law_told"] ["_law_feed_here","_law_faces","_law_ways"] (aO NW):=⟨rfl,rfl,rfl,Kk,rfl,Kk,Kk⟩
abbrev ZU:Stmt:=(top 64)
theorem aCg:bS ["_law_feed_here","_law_way"] ["_law_feed_here"] (aO ZU):=⟨rfl,rfl,rfl,Kk,rfl,Kk,Kk⟩
abbrev sQ3:Stmt:=(top 65)
theorem cQ3:bS ["_law_feed_here","_law_whole","_law_part"] ["_law_feed_here"] (aO sQ3):=⟨rfl,rfl,rfl,Kk,rfl,Kk,Kk⟩
abbrev sQ1:Stmt:=(top 66)
theorem cQ1:bS ["_law_feed_here","_law_ways","_law_most","_law_bounds","_law_mix"] ["_law_feed_here","_law_ways","_law_most"] (aO sQ1):=⟨rfl,rfl,rfl,Kk,rfl,Kk,Kk⟩
theorem aT.atX{H:Hp}{α:Type}{g:α->PyData}{as:List α}{xs:List V}(r:aT H (as.map g) xs){i:Nat}{a:α}(h:as[i]?=some a):∃x,xs[i]?=some x/\cA H (g a) x:=by
 induction as generalizing xs i with
 | nil=>simp at h
 | cons b as ih =>
  rw [bL] at r;unfold aT at r;obtain ⟨x,xs',rfl,r1,r2⟩:=r;cases i with
  | zero=>cases (show b=a by simpa using h);exact ⟨x,rfl,r1⟩
  | succ i=>exact ih r2 (by simpa using h)
theorem jK{H:Hp}{fs:List Fr}{v:V}(h:cA H (rT fs) v):∃a xs,v=.ref a/\H a=some (.tup xs)/\aT H (fs.map fN) xs:=by
 unfold cA at h;exact h
abbrev wD(w:Str × List Fr):PyData:=.tuple [.str w.1,rT w.2]
abbrev pT(fs:List Str)(ws:List (Str × List Fr)):PyData:=.tuple [.tuple (fs.map .str),.tuple (ws.map wD)]
theorem yW:∀fs:List Str,hJ (fs.map PyData.str)=true
 | []=>rfl
 | f::fs=>by show (fM (.str f)&&hJ (fs.map PyData.str))=true;rw [yW fs];rfl
theorem HM(w:Str × List Fr):fM (wD w)=true:=by
 show (fM (.str w.1)&&(fM (rT w.2)&&true))=true;rw [kZ];rfl
theorem HH:∀ws:List (Str × List Fr),hJ (ws.map wD)=true
 | []=>rfl
 | w::ws=>by show (fM (wD w)&&hJ (ws.map wD))=true;rw [HM w,HH ws];rfl
theorem lV(fs:List Str)(ws:List (Str × List Fr)):fM (pT fs ws)=true:=by
 show (fM (.tuple (fs.map .str))&&(fM (.tuple (ws.map wD))&&true))=true;rw [show fM (.tuple (fs.map PyData.str))=hJ (fs.map PyData.str) from rfl,yW,show fM (.tuple (ws.map wD))=hJ (ws.map wD) from rfl,HH];rfl
theorem AB{H:Hp}:∀fs:List Str,aT H (fs.map PyData.str) (fs.map V.str)
 | []=>aT.nil
 | f::fs=>aT.cons (cA.str f) (AB fs)
theorem kH{H:Hp}{ds:List PyData}{v:V}(h:cA H (.tuple ds) v):∃a xs,v=.ref a/\H a=some (.tup xs)/\aT H ds xs:=by unfold cA at h;exact h
theorem tO{H:Hp}{d e:PyData}{xs:List V}(h:aT H [d,e] xs):∃x y,xs=[x,y]/\cA H d x/\cA H e y:=by
 unfold aT aT aT at h;obtain ⟨x,_,rfl,h1,y,_,rfl,h2,rfl⟩:=h;exact ⟨x,y,rfl,h1,h2⟩
theorem dX{α:Type}{H:Hp}{g:α->PyData}{fs:List α}{vs:List V}(h:aT H (fs.map g) vs){i:Nat}{v:V}(e:vs[i]?=some v):∃f,fs[i]?=some f/\cA H (g f) v:=by
 obtain ⟨d,h1,h2⟩:=h.get e;rw [aN] at h1;cases q:fs[i]? with
 | none=>rw [q] at h1;cases h1
 | some f=>rw [q] at h1;cases h1;exact ⟨f,rfl,h2⟩
theorem fQ{α:Type}{H:Hp}{g:α->PyData}{fs:List α}{vs:List V}(h:aT H (fs.map g) vs){i:Nat}{f:α}(e:fs[i]?=some f):∃v,vs[i]?=some v/\cA H (g f) v :=
 h.get' (by rw [aN,e];rfl)
theorem eY{α:Type}{H:Hp}{g:α->PyData}{fs:List α}{vs:List V}(h:aT H (fs.map g) vs):vs.length=fs.length:=by rw [h.len,aA]
theorem gY{α:Type}{l:List α}{i:Nat}{x:α}(h:l[i]?=some x):l.take (i+1)=l.take i++[x]:=by
 rw [eP,h];rfl
structure TrC(F W:Nat)(fs:List Str)(ws:List (Str × List Fr)):Prop where
 f:fs.length=F
 w:ws.length=W
 sh:∀x∈ws,FA F x.2
 nf:∀s∈fs,(reprText s).length<=20
 nw:∀x∈ws,(reprText x.1).length<=20
theorem UU:∀s∈(["a","ab","b","abc","faced","ways","z","bb"]:List Str),(reprText s).length<=20:=Kk
@[irreducible] def nS:Sp:=λvs H Q _=>∃(p L:Addr) (n F W:Nat),vs=[.ref p,.int (F:Int),.int (W:Int)]/\dA H p L (n+64)/\2<=F/\F<=4/\2<=W/\W<=4/\∀v fs ws H',dA H' p L n->aR p H H'->cA H' (pT fs ws) v->TrC F W fs ws->Q v H'
theorem CU{H:Hp}{Q:VK}{E:XK}{p L:Addr}{n F W:Nat}(T:dA H p L (n+64))(h1:2<=F)(h2:F<=4)(h3:2<=W)(h4:W<=4)(k:∀v fs ws H',dA H' p L n->aR p H H'->cA H' (pT fs ws) v->TrC F W fs ws->Q v H'):nS [.ref p,.int (F:Int),.int (W:Int)] H Q E:=by
 unfold nS;exact ⟨p,L,n,F,W,rfl,T,h1,h2,h3,h4,k⟩
theorem WC{α:Type}{xs:List α}{x:Int}(h:xs.length=8):∃v,BV xs (x % 8)=some v/\v∈xs:=by
 obtain ⟨v,h1,h2,_⟩:=WD (xs:=xs) (x:=x % 8) (Int.emod_nonneg _ Dd) (by have:=Int.emod_lt_of_pos x (b:=8) Dd;omega);exact ⟨v,h1,h2⟩
theorem SI{P:Str->Prop}{ys:List V}(h:∀(i:Nat) (y:V),ys[i]?=some y->∃s,y=.str s/\P s):∃ts:List Str,ys=ts.map V.str/\∀t∈ts,P t:=by
 induction ys with
 | nil=>exact ⟨[],rfl,λt h=>by cases h⟩
 | cons y ys ih =>
  obtain ⟨s,rfl,hs⟩:=h 0 y rfl;obtain ⟨ts,rfl,hts⟩:=ih λi z hz=>h (i+1) z (by simpa using hz);refine ⟨s::ts,rfl,λt ht=>?_⟩;rcases bF.mp ht with rfl | ht
  ·exact hs
  ·exact hts t ht
section
theorem aDx(F:iV K "_law_trial" "_law_trial" NW f fd)(T:kD K mg c)
  (FQ5:eZ cS P w K mg base 1 "_law_draw" ["_law_feed_here","_law_many"] lL) (FQ9:eZ cS P w K mg base 2 "_law_shares" ["_law_feed_here","_law_many"] lQ):dM P w K mg base cS 3 f fd ["_law_feed_here","_law_faces","_law_ways"] nS:=by
 refine F.oky QT λvs H Q E h=>?_;unfold nS at h;obtain ⟨p,L,n,F,W,rfl,T0,f2,f4,w2,w4,k⟩:=h;refine ⟨rfl,λcdv A outer s hr=>?_⟩;refine ⟨_,(aH (bJ (i:=3) QT.nd rfl (Or.inr rfl) (gM (aG gL (aG gL (aG gL (aG gL (aG gL (aG gL (aG gL (aG gL aC))))))))))
  (aH (bJ (i:=4) QT.nd rfl (Or.inr rfl) (bH FQ5 (hr.mono Dd) (aG (aD 0) (aG aM aC))))
  (aH (bJ (i:=5) QT.nd rfl (Or.inl rfl) (kS dP (by rfl) T.b_tuple Kk (aG (fX (dJ.of (psc:=aO NW) (N:=["_law_feed_here","_law_faces","_law_ways","_law_names","_law_start","_law_told"]) (N':=["_law_k","_law_names","_law_start"]) (js:=[3,4]) Kk rfl rfl rfl) (dG rfl T.b_range (aG (aD 1) aC)) (λ_ _ _ _=>cY) (λ_ _ _ _=>(bX (jE K) (aD 1) (bV mI (bV dY (aD 2) (bV dO aM (aD 0))) aM) (λ_ _=>rfl)))) aC)))
  (aH (bJ (i:=4) QT.nd rfl (Or.inr rfl) (bH FQ5 (hr.mono Dd) (aG (aD 0) (aG aM aC))))
  (aX (cB (dS (aG (aD 5) (aG (kS dP (by rfl) T.b_tuple Kk (aG (fX (dJ.of (psc:=aO NW) (N:=["_law_feed_here","_law_faces","_law_ways","_law_names","_law_start","_law_told"]) (N':=["_law_k","_law_feed_here","_law_faces","_law_names","_law_start"]) (js:=[0,1,3,4]) Kk rfl rfl rfl) (dG rfl T.b_range (aG (aD 2) aC)) (λ_ _ _ _=>cY) (λ_ _ _ _=>(dS (aG (bX (jE K) (aD 3) (bV mI (bV dY (aD 4) (bV dO aM (aD 0))) aM) (λ_ _=>rfl)) (aG (bH FQ9 (hr.mono Dd) (aG (aD 1) (aG (aD 2) aC))) aC))))) aC)) aC))))))))),?_⟩
 refine AZ (by show 8<=64;decide) λN1 H1 hN e1 s1=>?_;have e1':H1 N1=some (.lst ((["a","ab","b","abc","faced","ways","z","bb"]:List Str).map V.str)):=e1;have nN:N1≠p:=T0.ne hN;refine ⟨_,rfl,?_⟩;refine dQ (n:=n+63) (T0.same s1) Dd Kk λx2 H2 a2 b2 T2 s2=>?_;have e2:=s2.at nN e1';have hpick:∀x:Int,∃t:Str,(reprText t).length<=20/\BV ((["a","ab","b","abc","faced","ways","z","bb"]:List Str).map V.str) (x % 8)=some (V.str t):=λx=>by
  obtain ⟨v,h1,h2⟩:=WC (xs:=(["a","ab","b","abc","faced","ways","z","bb"]:List Str).map V.str) (x:=x) rfl;obtain ⟨t,ht,rfl⟩:=aQ.mp h2;exact ⟨t,UU t (by assumption),h1⟩
 refine ⟨_,rfl,_,rfl,Oo,Oo,?_⟩;refine jR (λi y H'=>∃s,y=.str s/\(reprText s).length<=20) (λ_ _ _ _ _ h=>h) Oo (λi H' Q' hi s' k'=>?_) (λD ys H3 hD hD3 s3 hy hr3=>?_)
 ·refine ⟨_,rfl,_,rfl,_,rfl,_,_,rfl,rfl,IntMulOk.of_left Kk,_,_,rfl,rfl,_,_,rfl,rfl,(by show (0:Int)<8;decide),?_⟩;obtain ⟨t,ht20,ht⟩:=hpick (x2+3*(0+(i:Nat)));refine PM (s' _ _ e2) ht ?_;exact k' _ H' (aU.refl _) ⟨t,rfl,ht20⟩
 ·obtain ⟨ts,rfl,hts⟩:=SI hr3;rw [aA] at hy;refine ⟨D,_,rfl,.inl ⟨fI.of hD3,λl hl=>?_⟩⟩;have s4:=aU.upd (o:=.tup (ts.map V.str)) hl;have e4:(upd H3 l (.tup (ts.map V.str))) l=some (.tup (ts.map V.str)):=bK;generalize upd H3 l (.tup (ts.map V.str))=H4 at s4 e4;have S4:=s3.trans s4;have T4:=T2.same S4;have B4:aR p H H4:=(s1.but.trans s2).trans S4.but;refine ⟨_,rfl,?_⟩;refine dQ (n:=n+62) T4 Dd Kk λx5 H5 a5 b5 T5 s5=>?_;have e5:=s5.at nN (S4 _ _ e2);have el5:=T4.t s5 _ _ e4;have B5:=B4.trans s5;refine ⟨_,rfl,_,rfl,_,rfl,Oo,Oo,?_⟩;refine tH (dA.like (p:=p) (L:=L) λi=>n+62-12*i) T5 (λi y H'=>∃x:Str × List Fr,cA H' (wD x) y/\FA F x.2/\(reprText x.1).length<=20) (λi y Ha Hb s ⟨x,h1,h2⟩=>⟨x,h1.flat s (HM x),h2⟩) Oo (λi H' Q' hi F' s' k'=>?_) (λD6 zs H6 hD6 e6 T6 s6 hz hr6=>?_)
  ·refine ⟨_,rfl,_,rfl,_,rfl,_,_,rfl,rfl,IntMulOk.of_left Kk,_,_,rfl,rfl,_,_,rfl,rfl,(by show (0:Int)<8;decide),?_⟩;obtain ⟨t,ht20,ht⟩:=hpick (x5+5*(0+(i:Nat)));refine PM (s'.at nN e5) ht ?_;refine ⟨_,rfl,_,rfl,?_⟩;refine vF (n:=n+62-12*(i+1)) (F'.less Oo) Oo Oo λv fs H7 T7 s7 r7 sh7=>?_;refine rK (by show 2<=64;decide) λq8 H8 hq8 e8 s8=>?_;exact k' _ H8 (T7.same s8) (s7.trans s8.but) ⟨(t,fs),cA.tup e8 (aT.cons (cA.str _) (aT.cons (r7.same s8) aT.nil)),sh7,ht20⟩
  ·obtain ⟨ws,lw6,r6,sh6⟩:∃ws:List (Str × List Fr),ws.length=zs.length/\aT H6 (ws.map wD) zs/\∀x∈ws,FA F x.2/\(reprText x.1).length<=20:=by
    clear e6 hz
    induction zs with
    | nil=>exact ⟨[],rfl,aT.nil,λx h=>by cases h⟩
    | cons z zs ih =>
     obtain ⟨x,h1,h2⟩:=hr6 0 z rfl;obtain ⟨ws,g1,g2,g3⟩:=ih λi y hy=>hr6 (i+1) y (by simpa using hy);refine ⟨x::ws,by rw [bQ,bQ,g1],aT.cons h1 g2,λy hy=>?_⟩;rcases bF.mp hy with rfl | hy
     ·exact h2
     ·exact g3 y hy
   refine ⟨D6,_,rfl,.inl ⟨fI.of e6,λl7 hl7=>?_⟩⟩;have s7:=aU.upd (o:=.tup zs) hl7;have e7:(upd H6 l7 (.tup zs)) l7=some (.tup zs):=bK;generalize upd H6 l7 (.tup zs)=H7 at s7 e7;refine rK (by show 2<=64;decide) λq8 H8 hq8 e8 s8=>?_;have el8:=s8 _ _ (s7 _ _ (T5.t s6 _ _ el5));refine k _ ts ws H8 (((T6.same s7).same s8).less Oo) ((B5.trans s6).trans (s7.trans s8).but) ?_ ⟨Oo,Oo,λx hx=>(sh6 x hx).1,hts,λx hx=>(sh6 x hx).2⟩;refine cA.tup e8 (aT.cons (cA.tup el8 (AB ts)) (aT.cons (cA.tup (s8 _ _ e7) ((r6.same s7).same s8)) aT.nil))
end
abbrev pL(M:Nat)(bs mix cs:List Fr):PyData:=.tuple [.int (M:Int),rT bs,rT mix,rT cs]
theorem vA(M:Nat)(bs mix cs:List Fr):fM (pL M bs mix cs)=true:=by
 show (fM (.int (M:Int))&&(fM (rT bs)&&(fM (rT mix)&&(fM (rT cs)&&true))))=true;rw [kZ,kZ,kZ];rfl
def FnP(N B:Nat)(f:Fr):Prop:=Fn N B f/\0<=f.1
@[irreducible] def qG:Sp:=λvs H Q _=>∃(p L:Addr) (n:Nat),vs=[.ref p]/\dA H p L (n+4)/\∀v f H',dA H' p L n->aR p H H'->cA H' (fN f) v->FnP 27720 1 f->Q v H'
theorem FT{H:Hp}{Q:VK}{E:XK}{p L:Addr}{n:Nat}(F:dA H p L (n+4))(k:∀v f H',dA H' p L n->aR p H H'->cA H' (fN f) v->FnP 27720 1 f->Q v H'):qG [.ref p] H Q E:=by
 unfold qG;exact ⟨p,L,n,rfl,F,k⟩
theorem XB{n d:Int}(h:0<=n):0<=(lw n d).1:=Int.ediv_nonneg h (Int.natCast_nonneg _)
theorem smallz{d:Int}(h:d.natAbs<1024):d.natAbs<2^9000:=aV (show d.natAbs<2^10 from h) (aJ Dd Dd)
section
theorem oQ3(F:iV K "_law_bound" "_law_bound" sQ3 f fd)(T:kD K mg c)
  (FQ5:eZ cS P w K mg base 1 "_law_draw" ["_law_feed_here","_law_many"] lL) (FQ7:eZ cS P w K mg base 1 "_law_frac" ["_law_n","_law_d"] jY):dM P w K mg base cS 2 f fd ["_law_feed_here"] qG:=by
 refine F.oky cQ3 λvs H Q E h=>?_;unfold qG at h;obtain ⟨p,L,n,rfl,F,k⟩:=h;refine ⟨rfl,λcdv A outer s hr=>?_⟩;refine ⟨_,(aH (bJ (i:=1) cQ3.nd rfl (Or.inl rfl) (bV dY aM (bH FQ5 (hr.mono Dd) (aG (aD 0) (aG aM aC)))))
  (aH (bJ (i:=2) cQ3.nd rfl (Or.inl rfl) (bX bO (gM (aG (bH FQ5 (hr.mono Dd) (aG (aD 0) (aG (bV dY (aD 1) aM) aC))) (aG (bV fL (bH FQ5 (hr.mono Dd) (aG (aD 0) (aG (bV dY (aD 1) aM) aC))) aM) (aG aM aC)))) (bH FQ5 (hr.mono Dd) (aG (aD 0) (aG aM aC))) (λ_ _=>rfl)))
  (aX (cB (bH FQ7 (hr.mono Dd) (aG (aD 2) (aG (aD 1) aC))))))),?_⟩
 refine ⟨_,rfl,?_⟩;refine dQ (n:=n+3) F Dd Kk λx1 H1 a1 b1 F1 s1=>?_;refine ⟨_,_,rfl,rfl,?_⟩;have bW:bits (1+x1+1)<=64:=bitsle (bA (show (1+x1+1).natAbs<=13 by omega) Dd);refine ⟨_,rfl,_,rfl,_,_,rfl,rfl,?_⟩;refine dQ (n:=n+2) F1 Oo bW λx2 H2 a2 b2 F2 s2=>?_;refine ⟨_,rfl,_,rfl,_,_,rfl,rfl,?_⟩;refine dQ (n:=n+1) F2 Oo bW λx3 H3 a3 b3 F3 s3=>?_;refine ⟨_,_,rfl,rfl,⟨Dd,Kk⟩,?_⟩;refine AZ (by show 3<=64;decide) λq4 H4 hq4 e4 s4=>?_;refine ⟨_,rfl,?_⟩;refine dQ (n:=n) (F3.same s4) Dd Kk λx5 H5 a5 b5 F5 s5=>?_;have hW:∃y:Int,BV [V.int x2,V.int (x3/2),V.int 0] x5=some (.int y)/\0<=y/\y<=1+x1:=by
  have:x5=0\/x5=1\/x5=2:=Oo;rcases this with rfl | rfl | rfl
  ·exact ⟨_,rfl,Oo,Oo⟩
  ·exact ⟨_,rfl,Oo,Oo⟩
  ·exact ⟨_,rfl,Oo,Oo⟩
 obtain ⟨y,hat,y0,y1⟩:=hW;refine PM (s5.at (F3.ne hq4) e4) hat ?_;refine ⟨_,rfl,_,rfl,?_⟩;refine jI Oo (smallz Oo) ?_;intro q6 H6 hq6 e6 s6;have hd:(1+x1).natAbs ∣ 27720:=by
  have:∀z:Nat,z<=12->1<=z->z ∣ 27720:=Dd;exact this _ Oo Oo
 exact k _ _ H6 (F5.same s6) (((((s1.trans s2).trans s3).trans s4.but).trans s5).trans s6.but) (cX e6) ⟨(Fn.of Oo Oo).dvd hd,XB y0⟩
end
theorem BO{H:Hp}{P:Fr->Prop}:∀{ys:List V},(∀(i:Nat) (y:V),ys[i]?=some y->∃f,cA H (fN f) y/\P f)->∃fs:List Fr,fs.length=ys.length/\aT H (fs.map fN) ys/\∀f∈fs,P f
 | [],_=>⟨[],rfl,aT.nil,λf h=>by cases h⟩
 | y::ys,h=>by
  obtain ⟨f,h1,h2⟩:=h 0 y rfl;obtain ⟨fs,g1,g2,g3⟩:=BO (ys:=ys) λi z hz=>h (i+1) z (by simpa using hz);refine ⟨f::fs,by rw [bQ,bQ,g1],aT.cons h1 g2,λy hy=>?_⟩;rcases bF.mp hy with rfl | hy
  ·exact h2
  ·exact g3 y hy
@[irreducible] def qZ:Sp:=λvs H Q _=>∃(p L:Addr) (n:Nat),vs=[.ref p]/\dA H p L (n+3)/\∀v f H',dA H' p L n->aR p H H'->cA H' (fN f) v->EZ f->Q v H'
theorem yY{H:Hp}{Q:VK}{E:XK}{p L:Addr}{n:Nat}(F:dA H p L (n+3))(k:∀v f H',dA H' p L n->aR p H H'->cA H' (fN f) v->EZ f->Q v H'):qZ [.ref p] H Q E:=by
 unfold qZ;exact ⟨p,L,n,rfl,F,k⟩
theorem PC{n d:Int}(n0:0<=n)(n1:n<=999)(d0:0<d)(d1:d<=999):EZ (lw n d):=by
 have h:=jA (n:=n) d0;have q:=IM (n:=n) d0;have a:=XB (n:=n) (d:=d) n0;exact ⟨h,a,Oo,Oo⟩
@[irreducible] def sL:Sp:=λvs H Q _=>∃(p L:Addr) (n W M:Nat),vs=[.ref p,.int (W:Int),.int (M:Int)]/\dA H p L (n+64)/\1<=W/\W<=4/\M<=6/\∀v bs mix cs H',dA H' p L n->aR p H H'->cA H' (pL M bs mix cs) v->bs.length=W->(∀f∈bs,FnP 27720 1 f)->FA W mix->cs.length=M->(∀f∈cs,EZ f)->Q v H'
theorem JZ{H:Hp}{Q:VK}{E:XK}{p L:Addr}{n W M:Nat}(T:dA H p L (n+64))(h1:1<=W)(h2:W<=4)(h3:M<=6)(k:∀v bs mix cs H',dA H' p L n->aR p H H'->cA H' (pL M bs mix cs) v->bs.length=W->(∀f∈bs,FnP 27720 1 f)->FA W mix->cs.length=M->(∀f∈cs,EZ f)->Q v H'):sL [.ref p,.int (W:Int),.int (M:Int)] H Q E:=by
 unfold sL;exact ⟨p,L,n,W,M,rfl,T,h1,h2,h3,k⟩
section
theorem aDB(F:iV K "_law_some" "_law_some" ZU f fd)(T:kD K mg c)
  (FQ5:eZ cS P w K mg base 1 "_law_draw" ["_law_feed_here","_law_many"] lL) (FQ7:eZ cS P w K mg base 1 "_law_frac" ["_law_n","_law_d"] jY):dM P w K mg base cS 2 f fd ["_law_feed_here"] qZ:=by
 refine F.oky aCg λvs H Q E h=>?_;unfold qZ at h;obtain ⟨p,L,n,rfl,F,k⟩:=h;refine ⟨rfl,λcdv A outer s hr=>?_⟩;refine ⟨_,(aH (bJ (i:=1) aCg.nd rfl (Or.inl rfl) (bH FQ5 (hr.mono Dd) (aG (aD 0) (aG aM aC))))
  (aH (lT (gC sV (aD 1) aM (nomark _)) (aX (cB (dS (aG aM (aG aM aC))))) iO)
  (aH (lT (gC sV (aD 1) aM (nomark _)) (aX (cB (bH FQ7 (hr.mono Dd) (aG (bV dY aM (bH FQ5 (hr.mono Dd) (aG (aD 0) (aG aM aC)))) (aG (bV dY aM (bH FQ5 (hr.mono Dd) (aG (aD 0) (aG aM aC)))) aC))))) iO)
  (aX (cB (bH FQ7 (hr.mono Dd) (aG (bV dY aM (bH FQ5 (hr.mono Dd) (aG (aD 0) (aG aM aC)))) (aG (bV dY aM (bH FQ5 (hr.mono Dd) (aG (aD 0) (aG aM aC)))) aC)))))))),?_⟩
 refine ⟨_,rfl,?_⟩;refine dQ (n:=n+2) F Dd Kk λx1 H1 a1 b1 F1 s1=>?_;refine ⟨_,rfl,rfl,_,rfl,?_⟩;refine rZ (λe=>?_) (λe=>?_)
 ·refine rK (by show 2<=64;decide) λq2 H2 hq2 e2 s2=>?_;exact k _ (0,1) H2 ((F1.same s2).less Oo) (s1.trans s2.but) (cX e2) ⟨UW,Dd,Dd,Dd⟩
 refine ⟨_,rfl,rfl,_,rfl,?_⟩;refine rZ (λe=>?_) (λe=>?_)
 ·refine ⟨_,rfl,?_⟩;refine dQ (n:=n+1) F1 Dd Kk λx2 H2 a2 b2 F2 s2=>?_;refine ⟨_,_,rfl,rfl,_,rfl,?_⟩;refine dQ (n:=n) F2 Dd Kk λx3 H3 a3 b3 F3 s3=>?_;refine ⟨_,_,rfl,rfl,?_⟩;refine jI Oo (smallz Oo) ?_;intro q4 H4 hq4 e4 s4;exact k _ _ H4 (F3.same s4) (((s1.trans s2).trans s3).trans s4.but) (cX e4) (PC Oo Oo Oo Oo)
 ·refine ⟨_,rfl,?_⟩;refine dQ (n:=n+1) F1 Dd Kk λx2 H2 a2 b2 F2 s2=>?_;refine ⟨_,_,rfl,rfl,_,rfl,?_⟩;refine dQ (n:=n) F2 Dd Kk λx3 H3 a3 b3 F3 s3=>?_;refine ⟨_,_,rfl,rfl,?_⟩;refine jI Oo (smallz Oo) ?_;intro q4 H4 hq4 e4 s4;exact k _ _ H4 (F3.same s4) (((s1.trans s2).trans s3).trans s4.but) (cX e4) (PC Oo Oo Oo Oo)
theorem oQ1(F:iV K "_law_aim" "_law_aim" sQ1 f fd)(T:kD K mg c)
  (FQ3:eZ cS P w K mg base 2 "_law_bound" ["_law_feed_here"] qG) (FQ9:eZ cS P w K mg base 2 "_law_shares" ["_law_feed_here","_law_many"] lQ) (FQ10:eZ cS P w K mg base 2 "_law_some" ["_law_feed_here"] qZ):dM P w K mg base cS 3 f fd ["_law_feed_here","_law_ways","_law_most"] sL:=by
 refine F.oky cQ1 λvs H Q E h=>?_;unfold sL at h;obtain ⟨p,L,n,W,M,rfl,T0,w1,w4,m6,k⟩:=h;refine ⟨rfl,λcdv A outer s hr=>?_⟩;refine ⟨_,(aH (bJ (i:=3) cQ1.nd rfl (Or.inl rfl) (kS dP (by rfl) T.b_tuple Kk (aG (fX (dJ.of (psc:=aO sQ1) (N:=["_law_feed_here","_law_ways","_law_most","_law_bounds","_law_mix"]) (N':=["_law_k","_law_feed_here"]) (js:=[0]) Kk rfl rfl rfl) (dG rfl T.b_range (aG (aD 1) aC)) (λ_ _ _ _=>cY) (λ_ _ _ _=>(bH FQ3 (hr.mono Dd) (aG (aD 1) aC)))) aC)))
  (aH (bJ (i:=4) cQ1.nd rfl (Or.inl rfl) (bH FQ9 (hr.mono Dd) (aG (aD 0) (aG (aD 1) aC))))
  (aX (cB (dS (aG (aD 2) (aG (aD 3) (aG (aD 4) (aG (kS dP (by rfl) T.b_tuple Kk (aG (fX (dJ.of (psc:=aO sQ1) (N:=["_law_feed_here","_law_ways","_law_most","_law_bounds","_law_mix"]) (N':=["_law_k","_law_feed_here"]) (js:=[0]) Kk rfl rfl rfl) (dG rfl T.b_range (aG (aD 2) aC)) (λ_ _ _ _=>cY) (λ_ _ _ _=>(bH FQ10 (hr.mono Dd) (aG (aD 1) aC)))) aC)) aC))))))))),?_⟩
 refine ⟨_,rfl,_,rfl,Oo,Oo,?_⟩;refine tH (dA.like (p:=p) (L:=L) λi=>n+64-4*i) T0 (λi y H'=>∃f:Fr,cA H' (fN f) y/\FnP 27720 1 f) (λi y Ha Hb s ⟨x,h1,h2⟩=>⟨x,h1.flat s (cU x),h2⟩) Oo (λi H' Q' hi F' s' k'=>?_) (λD ys H1 hD e1 T1 s1 hy hr1=>?_)
 ·refine ⟨_,rfl,?_⟩;refine FT (n:=n+64-4*(i+1)) (F'.less Oo) λv f H2 T2 s2 r2 f2=>?_;exact k' _ H2 T2 s2 ⟨f,r2,f2⟩
 ·obtain ⟨bs,lb,rb,fb⟩:=BO hr1;refine ⟨D,_,rfl,.inl ⟨fI.of e1,λl hl=>?_⟩⟩;have s2:=aU.upd (o:=.tup ys) hl;have e2:(upd H1 l (.tup ys)) l=some (.tup ys):=bK;generalize upd H1 l (.tup ys)=H2 at s2 e2;have T2:=T1.same s2;have r2:cA H2 (rT bs) (.ref l):=cA.tup e2 (rb.same s2);refine ⟨_,rfl,_,rfl,?_⟩;refine vF (n:=n+30) (T2.less Oo) Oo Oo λv3 mix H3 T3 s3 r3 sh3=>?_;have r2':=r2.flat (T2.t s3) (kZ _);have B3:aR p H H3:=(s1.trans s2.but).trans s3;have lb':bs.length=W:=Oo;clear e1 hr1 rb hy s1 s2 e2 T1 r2;refine ⟨_,rfl,_,rfl,_,rfl,_,rfl,_,rfl,Oo,Oo,?_⟩;refine tH (dA.like (p:=p) (L:=L) λi=>n+30-3*i) T3 (λi y H'=>∃f:Fr,cA H' (fN f) y/\EZ f) (λi y Ha Hb s ⟨x,h1,h2⟩=>⟨x,h1.flat s (cU x),h2⟩) Oo (λi H' Q' hi F' s' k'=>?_) (λD zs H4 hD e4 T4 s4 hz hr4=>?_)
  ·refine ⟨_,rfl,?_⟩;refine yY (n:=n+30-3*(i+1)) (F'.less Oo) λv f H2 T2 s2 r2 f2=>?_;exact k' _ H2 T2 s2 ⟨f,r2,f2⟩
  ·obtain ⟨cs,lc,rc,fc⟩:=BO hr4;refine ⟨D,_,rfl,.inl ⟨fI.of e4,λl5 hl5=>?_⟩⟩;have s5:=aU.upd (o:=.tup zs) hl5;have e5:(upd H4 l5 (.tup zs)) l5=some (.tup zs):=bK;generalize upd H4 l5 (.tup zs)=H5 at s5 e5;refine rK (by show 4<=64;decide) λq6 H6 hq6 e6 s6=>?_;have S:=s5.trans s6;have t:=T3.t s4;refine k _ bs mix cs H6 ((T4.same S).less Oo) ((B3.trans s4).trans S.but) ?_ lb' fb sh3 Oo fc;exact cA.tup e6 (aT.cons (cA.int _) (aT.cons ((r2'.flat t (kZ _)).same S) (aT.cons ((r3.flat t (kZ _)).same S) (aT.cons (cA.tup (s6 _ _ e5) (rc.same S)) aT.nil))))
end
abbrev ZO:Stmt:=(top 1)
theorem LW:bS ["number","above_nought","divided","divisor","rest"] ["number","above_nought"] (aO ZO):=⟨rfl,rfl,rfl,Kk,rfl,Kk,Kk⟩
abbrev ZC:Stmt:=(top 3)
theorem LV:bS ["one","other","common","one_part","other_part","upper","left"] ["one","other"] (aO ZC):=⟨rfl,rfl,rfl,Kk,rfl,Kk,Kk⟩
abbrev ZG:Stmt:=(top 4)
theorem aDZ:bS ["one","other"] ["one","other"] (aO ZG):=⟨rfl,rfl,rfl,Kk,rfl,Kk,Kk⟩
abbrev YZ:Stmt:=(top 5)
theorem aAZ:bS ["one","other","first","second"] ["one","other"] (aO YZ):=⟨rfl,rfl,rfl,Kk,rfl,Kk,Kk⟩
abbrev ZI:Stmt:=(top 6)
theorem aD1:bS ["one","other"] ["one","other"] (aO ZI):=⟨rfl,rfl,rfl,Kk,rfl,Kk,Kk⟩
abbrev YX:Stmt:=(top 7)
theorem VQ:bS ["some","whole","one"] ["some"] (aO YX):=⟨rfl,rfl,rfl,Kk,rfl,Kk,Kk⟩
abbrev ZH:Stmt:=(top 8)
theorem VS:bS ["some","place","k"] ["some"] (aO ZH):=⟨rfl,rfl,rfl,Kk,rfl,Kk,Kk⟩
abbrev ZK:Stmt:=(top 12)
theorem aD2:bS ["trial"] ["trial"] (aO ZK):=⟨rfl,rfl,rfl,Kk,rfl,Kk,Kk⟩
abbrev YV:Stmt:=(top 13)
theorem aDO:bS ["trial"] ["trial"] (aO YV):=⟨rfl,rfl,rfl,Kk,rfl,Kk,Kk⟩
abbrev YW:Stmt:=(top 14)
theorem aDP:bS ["trial","way"] ["trial","way"] (aO YW):=⟨rfl,rfl,rfl,Kk,rfl,Kk,Kk⟩
abbrev YU:Stmt:=(top 16)
theorem QS:bS ["trial","way","counts","product","share","count"] ["trial","way","counts"] (aO YU):=⟨rfl,rfl,rfl,Kk,rfl,Kk,Kk⟩
abbrev ZB:Stmt:=(top 17)
theorem LU:bS ["share","count","upper","lower","step"] ["share","count"] (aO ZB):=⟨rfl,rfl,rfl,Kk,rfl,Kk,Kk⟩
abbrev ZQ:Stmt:=(top 18)
theorem aA0:bS ["faces","most","found","many"] ["faces","most"] (aO ZQ):=⟨rfl,rfl,rfl,Kk,rfl,Kk,Kk⟩
abbrev NU:Stmt:=(top 19)
theorem VU:bS ["faces","many","found","first"] ["faces","many"] (aO NU):=⟨rfl,rfl,rfl,Kk,rfl,Kk,Kk⟩
abbrev ZE:Stmt:=(top 21)
theorem aDW:bS ["counts","face"] ["counts","face"] (aO ZE):=⟨rfl,rfl,rfl,Kk,rfl,Kk,Kk⟩
abbrev SW:Stmt:=(top 22)
theorem aDV:bS ["counts"] ["counts"] (aO SW):=⟨rfl,rfl,rfl,Kk,rfl,Kk,Kk⟩
theorem qR.of{H H1:Hp}{Q:VK}{f:Fr}(s:aU H H1)(q:qR H Q f):qR H1 Q f:=λp H' hp e s'=>q p H' (s.free hp) e (s.trans s')
@[irreducible] def fR(K:PySem.W.Frag):Sp:=λvs H Q _=>∃x y f g,vs=[x,y]/\fP K H f x/\fP K H g y/\cV f/\cV g/\oP 4000 f/\oP 4000 g/\qR H Q (iZ f g)
theorem eM{K:PySem.W.Frag}{H:Hp}{Q:VK}{E:XK}{x y:V}{f g:Fr}(h1:fP K H f x)(h2:fP K H g y)(l1:cV f)(l2:cV g)(z1:oP 4000 f)(z2:oP 4000 g)(q:qR H Q (iZ f g)):fR K [x,y] H Q E:=by unfold fR;exact ⟨x,y,f,g,rfl,h1,h2,l1,l2,z1,z2,q⟩
def sX(f:Fr):Fr:=(-f.1,f.2)
theorem sW{f:Fr}(h:cV f):cV (sX f):=⟨h.pos,by show Int.gcd (-f.1) f.2=1;rw [Int.neg_gcd];exact h.low⟩
@[irreducible] def nZ(K:PySem.W.Frag):Sp:=λvs H Q _=>∃x y f g,vs=[x,y]/\fP K H f x/\fP K H g y/\cV f/\cV g/\oP 4000 f/\oP 4000 g/\qR H Q (lO f (sX g))
theorem wT{K:PySem.W.Frag}{H:Hp}{Q:VK}{E:XK}{x y:V}{f g:Fr}(h1:fP K H f x)(h2:fP K H g y)(l1:cV f)(l2:cV g)(z1:oP 4000 f)(z2:oP 4000 g)(q:qR H Q (lO f (sX g))):nZ K [x,y] H Q E:=by unfold nZ;exact ⟨x,y,f,g,rfl,h1,h2,l1,l2,z1,z2,q⟩
section
theorem aDr(F:iV K "common_divisor" "common_divisor" ZO f fd)(T:kD K mg c):dM P w K mg base cS 1 f fd ["number","above_nought"] wU:=by
 refine F.oky LW λvs H Q E h=>?_;unfold wU at h;obtain ⟨n,d,rfl,hd,q⟩:=h;refine ⟨rfl,λcdv A outer s hr=>?_⟩;refine ⟨_,(aH (bJ (i:=2) LW.nd rfl (Or.inl rfl) (aD 0))
  (aH (bJ (i:=3) LW.nd rfl (Or.inl rfl) (aD 1))
  (aH (sE PassesOwn.never (gC aBT (aD 3) aM (nomark _)) (aH (bJ (i:=4) LW.nd rfl (Or.inl rfl) (bV mI (aD 2) (aD 3)))
  (aH (bJ (i:=2) LW.nd rfl (Or.inl rfl) (aD 3))
  (aX (bJ (i:=3) LW.nd rfl (Or.inl rfl) (aD 4))))))
  (aX (cB (aD 2)))))),?_⟩
 refine ⟨_,rfl,_,rfl,?_⟩;refine vS (λm σ H'=>∃(a b:Int) (c:Option V),σ=[some (.int n),some (.int d),some (.int a),some (.int b),c]/\0<=b/\Int.gcd a b=Int.gcd n d/\(b=0->0<a)/\H'=H/\m=b.toNat)
  (λσ H'=>∃(c:Option V),σ=[some (.int n),some (.int d),some (.int (Int.gcd n d)),some (.int 0),c]/\H'=H)
  _ ⟨n,d,none,rfl,Oo,rfl,Oo,rfl,rfl⟩ ?_ ?_
 ·rintro m σ H2 ⟨a,b,c,rfl,hb,hg,h0,rfl,rfl⟩;refine ⟨_,rfl,rfl,_,rfl,?_⟩;refine aB0 (λe=>?_) (λe=>?_)
  ·have hb':0<b:=by
    rcases Int.lt_or_eq_of_le hb with h | h
    ·exact h
    ·exact absurd (congrArg V.int h.symm) e
   refine ⟨_,rfl,_,rfl,_,_,rfl,rfl,hb',_,rfl,_,rfl,?_⟩;have e1:=Int.emod_lt_of_pos a hb';have e2:=Int.emod_nonneg a (b:=b) Oo;exact ⟨_,Oo,b,a % b,_,rfl,e2,by rw [DZ,hg],λ_=>hb',rfl,rfl⟩
  ·have hb0:b=0:=by injection e
   subst hb0;have ha:=h0 rfl;have e1:=IS ha;rw [hg] at e1;rw [e1];exact ⟨c,rfl,rfl⟩
 ·rintro σ H2 ⟨c,rfl,rfl⟩;exact ⟨_,rfl,q⟩
theorem aC8(F:iV K "plus" "plus" ZC f fd)(T:kD K mg c)
  (FQ20:eZ cS P w K mg base 1 "common_divisor" ["number","above_nought"] wU):dM P w K mg base cS 2 f fd ["one","other"] (lK K):=by
 refine F.oky LV λvs H Q E h=>?_;unfold lK at h;obtain ⟨x,y,⟨a,b⟩,⟨c,d⟩,rfl,h1,h2,l1,l2,z1,z2,q⟩:=h;refine ⟨rfl,λcdv A outer s hr=>?_⟩;obtain ⟨p1,rfl,e1⟩:=h1;obtain ⟨p2,rfl,e2⟩:=h2;have pb:0<b:=l1.pos;have pd:0<d:=l2.pos;obtain ⟨za,zb⟩:=z1;obtain ⟨zc,zd⟩:=z2;dsimp only at za zb zc zd e1 e2;have hG:=jF (n:=b) pd;have zG:=xM (n:=b) pd zd;have zb':=oV zb hG;have zd':=oV zd hG;have u1:=AI za zd';have u2:=AI zc zb';have hL:=jF (n:=a*(d/(Int.gcd b d:Int))+c*(b/(Int.gcd b d:Int))) hG;have zL:=xM (n:=a*(d/(Int.gcd b d:Int))+c*(b/(Int.gcd b d:Int))) hG zG;have eq:lO (a,b) (c,d)=_:=UE l1 l2;refine ⟨_,(aH (bJ (i:=2) LV.nd rfl (Or.inl rfl) (bH FQ20 (hr.mono Dd) (aG (bX bO (aD 0) aM (λ_ _=>rfl)) (aG (bX bO (aD 1) aM (λ_ _=>rfl)) aC))))
  (aH (bJ (i:=3) LV.nd rfl (Or.inl rfl) (bV fL (bX bO (aD 0) aM (λ_ _=>rfl)) (aD 2)))
  (aH (bJ (i:=4) LV.nd rfl (Or.inl rfl) (bV fL (bX bO (aD 1) aM (λ_ _=>rfl)) (aD 2)))
  (aH (bJ (i:=5) LV.nd rfl (Or.inl rfl) (bV dY (bV dO (bX bO (aD 0) aM (λ_ _=>rfl)) (aD 4)) (bV dO (bX bO (aD 1) aM (λ_ _=>rfl)) (aD 3))))
  (aH (bJ (i:=6) LV.nd rfl (Or.inl rfl) (bH FQ20 (hr.mono Dd) (aG (aD 5) (aG (aD 2) aC))))
  (aX (cB (dS (aG (bV fL (aD 5) (aD 6)) (aG (bV dO (aD 3) (bV fL (bX bO (aD 1) aM (λ_ _=>rfl)) (aD 6))) aC)))))))))),?_⟩
 refine ⟨_,rfl,?_⟩;refine nF e1 rfl ?_;refine ⟨_,rfl,?_⟩;refine nF e2 rfl ?_;refine sQ pd ?_;refine ⟨_,rfl,?_⟩;refine nF e1 rfl ?_;refine ⟨_,rfl,_,_,rfl,rfl,qP hG (jW zG),?_⟩;refine ⟨_,rfl,?_⟩;refine nF e2 rfl ?_;refine ⟨_,rfl,_,_,rfl,rfl,qP hG (jW zG),?_⟩;refine ⟨_,rfl,?_⟩;refine nF e1 rfl ?_;refine ⟨_,rfl,_,_,rfl,rfl,oE za zd',?_⟩;refine ⟨_,rfl,?_⟩;refine nF e2 rfl ?_;refine ⟨_,rfl,_,_,rfl,rfl,oE zc zb',_,_,rfl,rfl,?_⟩;refine ⟨_,rfl,_,rfl,?_⟩;refine sQ hG ?_;refine ⟨_,rfl,_,rfl,_,_,rfl,rfl,qP hL (jW zL),?_⟩;refine ⟨_,rfl,_,rfl,?_⟩;refine nF e2 rfl ?_;refine ⟨_,rfl,_,_,rfl,rfl,qP hL (jW zL),_,_,rfl,rfl,oE zb' (oV zd hL),?_⟩;refine rK (by show 2<=64;decide) λp H3 hp e3 s3=>?_;refine q p H3 hp ?_ s3;rw [eq];exact e3
theorem aC0(F:iV K "times" "times" YZ f fd)(T:kD K mg c)
  (FQ20:eZ cS P w K mg base 1 "common_divisor" ["number","above_nought"] wU):dM P w K mg base cS 2 f fd ["one","other"] (fR K):=by
 refine F.oky aAZ λvs H Q E h=>?_;unfold fR at h;obtain ⟨x,y,⟨a,b⟩,⟨m,d⟩,rfl,h1,h2,l1,l2,⟨za,zb⟩,⟨zc,zd⟩,q⟩:=h;refine ⟨rfl,λcdv A outer s hr=>?_⟩;obtain ⟨p1,rfl,e1⟩:=h1;obtain ⟨p2,rfl,e2⟩:=h2;have pb:0<b:=l1.pos;have pd:0<d:=l2.pos;dsimp only at za zb zc zd e1 e2;have g1:=jF (n:=a) pd;have g2:=jF (n:=m) pb;have y1:=xM (n:=a) pd zd;have y2:=xM (n:=m) pb zb;have eq:iZ (a,b) (m,d)=_:=ND l1 l2;refine ⟨_,(aH (bJ (i:=2) aAZ.nd rfl (Or.inl rfl) (bH FQ20 (hr.mono Dd) (aG (bX bO (aD 0) aM (λ_ _=>rfl)) (aG (bX bO (aD 1) aM (λ_ _=>rfl)) aC))))
  (aH (bJ (i:=3) aAZ.nd rfl (Or.inl rfl) (bH FQ20 (hr.mono Dd) (aG (bX bO (aD 1) aM (λ_ _=>rfl)) (aG (bX bO (aD 0) aM (λ_ _=>rfl)) aC))))
  (aX (cB (dS (aG (bV dO (bV fL (bX bO (aD 0) aM (λ_ _=>rfl)) (aD 2)) (bV fL (bX bO (aD 1) aM (λ_ _=>rfl)) (aD 3))) (aG (bV dO (bV fL (bX bO (aD 0) aM (λ_ _=>rfl)) (aD 3)) (bV fL (bX bO (aD 1) aM (λ_ _=>rfl)) (aD 2))) aC))))))),?_⟩
 refine ⟨_,rfl,?_⟩;refine nF e1 rfl ?_;refine ⟨_,rfl,?_⟩;refine nF e2 rfl ?_;refine sQ pd ?_;refine ⟨_,rfl,?_⟩;refine nF e2 rfl ?_;refine ⟨_,rfl,?_⟩;refine nF e1 rfl ?_;refine sQ pb ?_;refine ⟨_,rfl,?_⟩;refine nF e1 rfl ?_;refine ⟨_,rfl,_,_,rfl,rfl,qP g1 (jW y1),?_⟩;refine ⟨_,rfl,?_⟩;refine nF e2 rfl ?_;refine ⟨_,rfl,_,_,rfl,rfl,qP g2 (jW y2),_,_,rfl,rfl,oE (oV za g1) (oV zc g2),?_⟩;refine ⟨_,rfl,?_⟩;refine nF e1 rfl ?_;refine ⟨_,rfl,_,_,rfl,rfl,qP g2 (jW y2),?_⟩;refine ⟨_,rfl,?_⟩;refine nF e2 rfl ?_;refine ⟨_,rfl,_,_,rfl,rfl,qP g1 (jW y1),_,_,rfl,rfl,oE (oV zb g2) (oV zd g1),?_⟩;refine rK (by show 2<=64;decide) λp H3 hp e3 s3=>?_;refine q p H3 hp ?_ s3;rw [eq];exact e3
theorem aDg(F:iV K "less" "less" ZG f fd)(T:kD K mg c)
  (FQ39:eZ cS P w K mg base 2 "plus" ["one","other"] (lK K)):dM P w K mg base cS 3 f fd ["one","other"] (nZ K):=by
 refine F.oky aDZ λvs H Q E h=>?_;unfold nZ at h;obtain ⟨x,y,f,g,rfl,h1,h2,l1,l2,z1,z2,q⟩:=h;refine ⟨rfl,λcdv A outer s hr=>?_⟩;obtain ⟨p2,rfl,e2⟩:=h2;refine ⟨_,(aX (cB (bH FQ39 (hr.mono Dd) (aG (aD 0) (aG (dS (aG (HK AE (bX bO (aD 1) aM (λ_ _=>rfl))) (aG (bX bO (aD 1) aM (λ_ _=>rfl)) aC))) aC))))),?_⟩;refine ⟨_,rfl,_,rfl,?_⟩;refine nF e2 rfl ?_;refine ⟨_,rfl,?_⟩;refine ⟨_,rfl,?_⟩;refine nF e2 rfl ?_;refine rK (by show 2<=64;decide) λp H3 hp e3 s3=>?_;refine nR (fP.same s3 h1) (fP.new (f:=sX g) e3) l1 (sW l2) z1 ⟨by show (-g.1).natAbs<_;rw [Int.natAbs_neg];exact z2.1,z2.2⟩ ?_;exact q.of s3
theorem aDj(F:iV K "is_less" "is_less" ZI f fd)(T:kD K mg c):dM P w K mg base cS 1 f fd ["one","other"] (mV K):=by
 refine F.oky aD1 λvs H Q E h=>?_;unfold mV at h;obtain ⟨x,y,⟨a,b⟩,⟨c,d⟩,rfl,h1,h2,⟨za,zb⟩,⟨zc,zd⟩,q⟩:=h;refine ⟨rfl,λcdv A outer s hr=>?_⟩;obtain ⟨p1,rfl,e1⟩:=h1;obtain ⟨p2,rfl,e2⟩:=h2;refine ⟨_,(aX (cB (pS xD (bV dO (bX bO (aD 0) aM (λ_ _=>rfl)) (bX bO (aD 1) aM (λ_ _=>rfl))) (bV dO (bX bO (aD 1) aM (λ_ _=>rfl)) (bX bO (aD 0) aM (λ_ _=>rfl))) (nomark _)))),?_⟩;refine ⟨_,rfl,?_⟩;refine nF e1 rfl ?_;refine ⟨_,rfl,?_⟩;refine nF e2 rfl ?_;refine ⟨_,_,rfl,rfl,oE za zd,?_⟩;refine ⟨_,rfl,?_⟩;refine nF e2 rfl ?_;refine ⟨_,rfl,?_⟩;refine nF e1 rfl ?_;exact ⟨_,_,rfl,rfl,oE zc zb,_,_,rfl,rfl,q⟩
end
theorem qS{N B:Nat}{f:Fr}(h:Fn N B f)(hN:0<N)(hz:N<2^3000)(hB:B<=2^500):oP 4000 f:=by
 obtain ⟨h1,h2⟩:=h.num hN;refine ⟨?_,bA h2 (aV hz (aJ Dd Dd))⟩;have h3:B*N<=2^500*2^3000:=Nat.mul_le_mul hB (Nat.le_of_lt hz);have h4:(2:Nat)^500*2^3000<2^4000:=by rw [<-Nat.pow_add];exact Nat.pow_lt_pow_right Dd Dd
 omega
structure AA(fs:List Fr):Prop where
 low:∀f∈fs,cV f
 sz:∀f∈fs,oP 4000 f
 part:∀i,cV (lW (fs.take i))/\oP 4000 (lW (fs.take i))
theorem mO{N B:Nat}{fs:List Fr}(h:∀f∈fs,Fn N B f)(hN:0<N)(hz:N<2^3000)(hl:fs.length<=64)(hB:B<=2^490):AA fs:=by
 have h5:(2:Nat)^490<=2^500:=aJ Dd Dd;have h6:64*(2:Nat)^490<=2^500:=by rw [show (64:Nat)=2^6 from rfl,<-Nat.pow_add];exact aJ Dd Dd
 refine ⟨λf hf=>(h f hf).low,λf hf=>qS (h f hf) hN hz (aK hB h5),λi=>?_⟩;have t:=Fn.tot (fs.take i) λf hf=>h f (List.mem_of_mem_take hf);have l:(fs.take i).length<=64:=by rw [fA];omega
 have:(fs.take i).length*B<=64*2^490:=Nat.mul_le_mul l hB;exact ⟨t.low,qS t hN hz (aK this h6)⟩
structure pM(K:PySem.W.Frag)(H:Hp)(fs:List Fr)(xs:List V):Prop where
 len:xs.length=fs.length
 at_:∀(i:Nat) (x:V),xs[i]?=some x->∃f,fs[i]?=some f/\fP K H f x
theorem pM.of{K:PySem.W.Frag}{H:Hp}{fs:List Fr}{xs:List V}(r:aT H (fs.map fN) xs):pM K H fs xs:=⟨eY r,λi x e=>by
 obtain ⟨f,h1,h2⟩:=dX r e;exact ⟨f,h1,fP.of h2⟩⟩
@[irreducible] def jB(K:PySem.W.Frag):Sp:=λvs H Q _=>∃a xs fs,vs=[.ref a]/\H a=some (.lst xs)/\pM K H fs xs/\AA fs/\∀v H',aU H H'->cA H' (fN (lW fs)) v->Q v H'
theorem iH{K:PySem.W.Frag}{H:Hp}{Q:VK}{E:XK}{a:Addr}{xs:List V}{fs:List Fr}(h:H a=some (.lst xs))(r:pM K H fs xs)(ok:AA fs)(q:∀v H',aU H H'->cA H' (fN (lW fs)) v->Q v H'):jB K [.ref a] H Q E:=by unfold jB;exact ⟨a,xs,fs,rfl,h,r,ok,q⟩
section
theorem aCY(F:iV K "total" "total" YX f fd)(T:kD K mg c)
  (FQ39:eZ cS P w K mg base 2 "plus" ["one","other"] (lK K)):dM P w K mg base cS 3 f fd ["some"] (jB K):=by
 refine F.oky VQ λvs H Q E h=>?_;unfold jB at h;obtain ⟨a,vs,fs,rfl,ha,hv,ok,q⟩:=h;refine ⟨rfl,λcdv A outer s hr=>?_⟩;have hlen:=hv.len;refine ⟨_,(aH (bJ (i:=1) VQ.nd rfl (Or.inl rfl) (dS (aG aM (aG aM aC))))
  (aH (fD PassesOwn.never rfl (eI (aD 0)) (cT (i:=2) VQ.nd rfl (Or.inl rfl)) (aX (bJ (i:=1) VQ.nd rfl (Or.inl rfl) (bH FQ39 (hr.mono Dd) (aG (aD 1) (aG (aD 2) aC))))))
  (aX (cB (aD 1))))),?_⟩
 refine rK (by show 2<=64;decide) λp0 H0 hp0 e0 s0=>?_;refine ⟨_,rfl,a,rfl,⟨_,fI.of (s0 _ _ ha)⟩,?_⟩;refine kA (xs:=vs) (λi σ H'=>∃w o2,σ=[some (.ref a),some w,o2]/\aU H H'/\cA H' (fN (lW (fs.take i))) w) ⟨_,_,rfl,s0,cX e0⟩ (λi σ H' _ p=>?_) ?_ ?_
 ·obtain ⟨w,o2,rfl,s1,_⟩:=p;exact fI.of (s1 _ _ ha)
 ·rintro i x σ H1 hx ⟨w,o2,rfl,s1,r1⟩;obtain ⟨g,hg,rg⟩:=hv.at_ i x hx;have hm:=aF hg;obtain ⟨t1,t2⟩:=ok.part i;refine ⟨_,rfl,_,rfl,?_⟩;refine nR (fP.of r1) (fP.same s1 rg) t1 (ok.low _ hm) t2 (ok.sz _ hm) ?_;intro p2 H2 hp2 e2 s2;refine ⟨_,_,rfl,s1.trans s2,?_⟩;rw [gY hg,nI];exact cX e2
 ·rintro σ H1 ⟨w,o2,rfl,s1,r1⟩;refine ⟨_,rfl,?_⟩;rw [hlen,cN] at r1;exact q _ H1 s1 r1
end
@[irreducible] def oA:Sp:=λvs H Q _=>∃a fs,vs=[.ref a]/\(∃xs,H a=some (.lst xs)/\aT H (fs.map fN) xs)/\(∀f∈fs,cV f/\oP 4000 f)/\0<fs.length/\fs.length<=64/\∀p y,gS fs fs.length p y->Q (.int (p:Nat)) H
theorem CW{H:Hp}{Q:VK}{E:XK}{a:Addr}{xs:List V}{fs:List Fr}(h:H a=some (.lst xs))(r:aT H (fs.map fN) xs)(ok:∀f∈fs,cV f/\oP 4000 f)(h0:0<fs.length)(h1:fs.length<=64)(q:∀p y,gS fs fs.length p y->Q (.int (p:Nat)) H):oA [.ref a] H Q E:=by unfold oA;exact ⟨a,fs,rfl,⟨xs,h,r⟩,ok,h0,h1,q⟩
theorem gS.min{fs:List Fr}{p:Nat}{y:Fr}(L:gS fs fs.length p y)(ok:∀f∈fs,cV f):rv y=kF (fs.map rv):=by
 have hy:=aF L.at_;refine (BB (aQ.mpr ⟨y,hy,rfl⟩) λx hx=>?_).symm;obtain ⟨f,hf,rfl⟩:=aQ.mp hx;obtain ⟨j,hj⟩:=eT.mp hf;have:=L.no j f (aI.mp hj).1 hj;exact Rat.not_lt.mp λq=>this ((WX (ok f hf).pos (ok y hy).pos).mpr q)
section
theorem aDh(F:iV K "least_place" "least_place" ZH f fd)(T:kD K mg c)
  (FQ28:eZ cS P w K mg base 1 "is_less" ["one","other"] (mV K)):dM P w K mg base cS 2 f fd ["some"] oA:=by
 refine F.oky VS λvs H Q E h=>?_;unfold oA at h;obtain ⟨a,fs,rfl,⟨vs,ha,hv⟩,ok,h0,hl,q⟩:=h;refine ⟨rfl,λcdv A outer s hr=>?_⟩;have hlen:=eY hv;refine ⟨_,(aH (bJ (i:=1) VS.nd rfl (Or.inl rfl) aM)
  (aH (fD PassesOwn.never rfl (yR rfl T.b_range (aG aM (aG (jO nC (by rfl) T.b_len Kk (aG (aD 0) aC)) aC))) (cT (i:=2) VS.nd rfl (Or.inl rfl)) (aX (lT (wE (bH FQ28 (hr.mono Dd) (aG (bX bO (aD 0) (aD 2) (λ_ _=>rfl)) (aG (bX bO (aD 0) (aD 1) (λ_ _=>rfl)) aC)))) (aX (bJ (i:=1) VS.nd rfl (Or.inl rfl) (aD 2))) iO)))
  (aX (cB (aD 1))))),?_⟩
 refine ⟨_,rfl,?_⟩;refine rlL ha ?_;refine ⟨_,_,rfl,⟨Oo,Oo,Oo,Oo⟩,?_⟩;have e0:∃y,fs[0]?=some y:=⟨_,aB h0⟩;obtain ⟨y0,e0⟩:=e0;refine gI (λi σ H'=>∃(p:Nat) (y:Fr) (o2:Option V),σ=[some (.ref a),some (.int (p:Int)),o2]/\H'=H/\gS fs (i+1) p y) ⟨0,y0,_,rfl,rfl,gS.one e0⟩ ?_ ?_
 ·rintro i σ H1 hi ⟨p,y,o2,rfl,rfl,L⟩;have hi1:i+1<fs.length:=Oo;have ez:fs[i+1]?=some fs[i+1]:=aB hi1;generalize fs[i+1]=z at ez;obtain ⟨vz,evz,rz⟩:=fQ hv ez;obtain ⟨vy,evy,ry⟩:=fQ hv L.at_;have ei:(1:Int)+(i:Int)=((i+1:Nat):Int):=Oo;rw [ei];refine ⟨_,rfl,_,rfl,?_⟩;refine PM ha (dU evz) ?_;refine ⟨_,rfl,_,rfl,?_⟩;refine PM ha (dU evy) ?_;refine yZ (fP.of rz) (fP.of ry) (ok _ (aF ez)).2 (ok _ (aF L.at_)).2 ?_;refine ⟨_,rfl,?_⟩;refine rZ (λe=>?_) (λe=>?_)
  ·refine ⟨_,rfl,?_⟩;exact ⟨i+1,z,_,rfl,rfl,L.next (λf hf=>(ok f hf).1) ez e⟩
  ·exact ⟨p,y,_,rfl,rfl,L.stay ez e⟩
 ·rintro σ H1 ⟨p,y,o2,rfl,rfl,L⟩;refine ⟨_,rfl,?_⟩;have:((vs.length:Int)-1).toNat+1=fs.length:=Oo;rw [this] at L;exact q p y L
end
abbrev mL(cs:List Nat):PyData:=.tuple (cs.map λ(n:Nat)=>PyData.int (n:Int))
theorem EH:∀cs:List Nat,hJ (cs.map λ(n:Nat)=>PyData.int (n:Int))=true
 | []=>rfl
 | f::fs=>by show (fM (.int f)&&hJ (fs.map λ(n:Nat)=>PyData.int (n:Int)))=true;rw [EH fs];rfl
theorem mK(cs:List Nat):fM (mL cs)=true:=EH cs
def yF(K:PySem.W.Frag)(H:Hp)(f:Fr)(x:V):Prop:=cA H (fN f) x\/∃a,x=.ref a/\sB K a [f.1,f.2]=true
theorem yF.v{K:PySem.W.Frag}{H:Hp}{f:Fr}{x:V}(h:yF K H f x):fP K H f x:=by
 rcases h with h | ⟨a,e,h⟩
 ·exact fP.of h
 ·exact ⟨a,e,wQ h⟩
theorem yF.t{K:PySem.W.Frag}{H H':Hp}{f:Fr}{x:V}(s:dC H H')(h:yF K H f x):yF K H' f x:=by
 rcases h with h | h
 ·exact .inl (h.flat s (cU f))
 ·exact .inr h
theorem yF.same{K:PySem.W.Frag}{H H':Hp}{f:Fr}{x:V}(s:aU H H')(h:yF K H f x):yF K H' f x:=h.t s.t
theorem HS{H:Hp}{fs:List Str}{ws:List (Str × List Fr)}{v:V}(h:cA H (pT fs ws) v):∃a af aw xf xw,v=.ref a/\H a=some (.tup [.ref af,.ref aw])/\H af=some (.tup xf)/\H aw=some (.tup xw)/\aT H (fs.map .str) xf/\aT H (ws.map wD) xw:=by
 obtain ⟨a,xs,rfl,ha,hr⟩:=kH h;obtain ⟨x,y,rfl,hx,hy⟩:=tO hr;obtain ⟨af,xf,rfl,h1,h2⟩:=kH hx;obtain ⟨aw,xw,rfl,h3,h4⟩:=kH hy;exact ⟨a,af,aw,xf,xw,rfl,ha,h1,h3,h2,h4⟩
@[irreducible] def iR:Sp:=λvs H Q _=>∃v fs ws,vs=[v]/\cA H (pT fs ws) v/\Q (.int (ws.length:Nat)) H
theorem kW{H:Hp}{Q:VK}{E:XK}{v:V}{fs:List Str}{ws:List (Str × List Fr)}(h:cA H (pT fs ws) v)(q:Q (.int (ws.length:Nat)) H):iR [v] H Q E:=by unfold iR;exact ⟨v,fs,ws,rfl,h,q⟩
@[irreducible] def wR:Sp:=λvs H Q _=>∃v fs ws w,∃i:Nat,vs=[v,.int (i:Int)]/\cA H (pT fs ws) v/\ws[i]?=some w/\∀x,cA H (rT w.2) x->Q x H
theorem NO{H:Hp}{Q:VK}{E:XK}{v:V}{fs:List Str}{ws:List (Str × List Fr)}{w:Str × List Fr}{i:Nat}(h:cA H (pT fs ws) v)(hw:ws[i]?=some w)(q:∀x,cA H (rT w.2) x->Q x H):wR [v,.int (i:Int)] H Q E:=by unfold wR;exact ⟨v,fs,ws,w,i,rfl,h,hw,q⟩
structure EW(B:Nat)(fs:List Fr):Prop where
 low:∀f∈fs,cV f
 up:∀f∈fs,f.1.natAbs<=2^B
 dn:∀f∈fs,f.2.natAbs<=2^B
@[irreducible] def pZ(K:PySem.W.Frag):Sp:=λvs H Q _=>∃x f,∃c B:Nat,vs=[x,.int (c:Int)]/\fP K H f x/\f.1.natAbs<=2^B/\f.2.natAbs<=2^B/\B<=4000/\c<=4000/\B*c<=4000/\qR H Q (uF f c)
theorem FP{K:PySem.W.Frag}{H:Hp}{Q:VK}{E:XK}{x:V}{f:Fr}{c B:Nat}(h:fP K H f x)(h1:f.1.natAbs<=2^B)(h2:f.2.natAbs<=2^B)(h3:B<=4000)(h5:c<=4000)(h4:B*c<=4000)(q:qR H Q (uF f c)):pZ K [x,.int (c:Int)] H Q E:=by unfold pZ;exact ⟨x,f,c,B,rfl,h,h1,h2,h3,h5,h4,q⟩
theorem BC{x:Int}{n:Nat}(h:x.natAbs<=2^n)(hn:n<=4000):x.natAbs<2^4001:=bA h (Nat.pow_lt_pow_right Dd Oo)
theorem NL{f:Fr}{n:Nat}(h1:f.1.natAbs<=2^n)(h2:f.2.natAbs<=2^n){k:Nat}(hk:n<k):oP k f:=⟨bA h1 (Nat.pow_lt_pow_right Dd hk),bA h2 (Nat.pow_lt_pow_right Dd hk)⟩
@[irreducible] def jP(K:PySem.W.Frag):Sp:=λvs H Q _=>∃v cv fs ws w cs,∃i:Nat,vs=[v,.int (i:Int),cv]/\cA H (pT fs ws) v/\ws[i]?=some w/\cA H (mL cs) cv/\EW 10 w.2/\cs.sum<=390/\∀x H',aU H H'->yF K H' (kR (w.2.zip cs)) x->Q x H'
theorem mT{K:PySem.W.Frag}{H:Hp}{Q:VK}{E:XK}{v cv:V}{fs:List Str}{ws:List (Str × List Fr)}{w:Str × List Fr}{cs:List Nat}{i:Nat}(h:cA H (pT fs ws) v)(hw:ws[i]?=some w)(hc:cA H (mL cs) cv)(ok:EW 10 w.2)(hs:cs.sum<=390)(q:∀x H',aU H H'->yF K H' (kR (w.2.zip cs)) x->Q x H'):jP K [v,.int (i:Int),cv] H Q E:=by unfold jP;exact ⟨v,cv,fs,ws,w,cs,i,rfl,h,hw,hc,ok,hs,q⟩
theorem RT{α β:Type}{l:List α}{m:List β}{i:Nat}{a:α}{b:β}(h1:l[i]?=some a)(h2:m[i]?=some b):(l.zip m)[i]?=some (a,b):=by rw [List.getElem?_zip_eq_some];exact ⟨h1,h2⟩
theorem RS{α:Type}(l:List α)(m:List Nat)(i:Nat):(((l.zip m).take i).map (·.2)).sum<=m.sum:=by
 induction l generalizing m i with
 | nil=>simp
 | cons a l ih =>
  cases m with
  | nil=>simp
  | cons b m =>
   cases i with
   | zero=>simp
   | succ i =>
    have:=ih m i;simp only [List.zip_cons_cons,List.take_succ_cons,bL,List.sum_cons];omega
theorem pA{α β:Type}{l:List α}{m:List β}{i:Nat}{z:α × β}(h:z∈(l.zip m).take i):z.1∈l:=(List.of_mem_zip (a:=z.1) (b:=z.2) (List.mem_of_mem_take h)).1
theorem SF{m:List Nat}{i c:Nat}(h:m[i]?=some c):c<=m.sum:=by
 induction m generalizing i with
 | nil=>simp at h
 | cons a m ih =>
  rw [List.sum_cons];cases i with
  | zero=>cases (show a=c by simpa using h);omega
  | succ i=>have:=ih (i:=i) (by simpa using h);omega
section
theorem aCW(F:iV K "ways_of" "ways_of" YV f fd)(T:kD K mg c):dM P w K mg base cS 1 f fd ["trial"] iR:=by
 refine F.oky aDO λvs H Q E h=>?_;unfold iR at h;obtain ⟨v,fs,ws,rfl,h,q⟩:=h;refine ⟨rfl,λcdv A outer s hr=>?_⟩;obtain ⟨a,af,aw,xf,xw,rfl,ha,hf,hw,rf,rw'⟩:=HS h;refine ⟨_,(aX (cB (jO nC (by rfl) T.b_len Kk (aG (bX bO (aD 0) aM (λ_ _=>rfl)) aC)))),?_⟩;refine ⟨_,rfl,?_⟩;refine mP ha rfl ?_;refine rlT hw ?_;rw [eY rw'];exact q
theorem aCX(F:iV K "way_shares" "way_shares" YW f fd)(T:kD K mg c):dM P w K mg base cS 1 f fd ["trial","way"] wR:=by
 refine F.oky aDP λvs H Q E h=>?_;unfold wR at h;obtain ⟨v,fs,ws,w,i,rfl,h,hw',q⟩:=h;refine ⟨rfl,λcdv A outer s hr=>?_⟩;obtain ⟨a,af,aw,xf,xw,rfl,ha,hf,hw,rf,rw'⟩:=HS h;obtain ⟨u,hu,ru⟩:=fQ rw' hw';obtain ⟨b,xs,rfl,hb,hr'⟩:=kH ru;obtain ⟨y,z,rfl,hy,hz⟩:=tO hr';refine ⟨_,(aX (cB (bX bO (bX bO (bX bO (aD 0) aM (λ_ _=>rfl)) (aD 1) (λ_ _=>rfl)) aM (λ_ _=>rfl)))),?_⟩;refine ⟨_,rfl,?_⟩;refine mP ha rfl ?_;refine ⟨_,rfl,?_⟩;refine mP hw (dU (j:=i) hu) ?_;refine mP hb rfl ?_;exact q _ hz
theorem aC7(F:iV K "power" "power" ZB f fd)(T:kD K mg c):dM P w K mg base cS 1 f fd ["share","count"] (pZ K):=by
 refine F.oky LU λvs H Q E h=>?_;unfold pZ at h;obtain ⟨x,f,n,B,rfl,⟨a,rfl,ha⟩,h1,h2,h3,h5,h4,q⟩:=h;refine ⟨rfl,λcdv A outer s hr=>?_⟩;refine ⟨_,(aH (bJ (i:=2) LU.nd rfl (Or.inl rfl) aM)
  (aH (bJ (i:=3) LU.nd rfl (Or.inl rfl) aM)
  (aH (fD PassesOwn.never rfl (dG rfl T.b_range (aG (aD 1) aC)) (cT (i:=4) LU.nd rfl (Or.inl rfl)) (aH (bJ (i:=2) LU.nd rfl (Or.inl rfl) (bV dO (aD 2) (bX bO (aD 0) aM (λ_ _=>rfl))))
  (aX (bJ (i:=3) LU.nd rfl (Or.inl rfl) (bV dO (aD 3) (bX bO (aD 0) aM (λ_ _=>rfl)))))))
  (aX (cB (dS (aG (aD 2) (aG (aD 3) aC)))))))),?_⟩
 refine ⟨_,rfl,_,rfl,Oo,Oo,?_⟩;refine gI (λi σ H'=>∃o4,σ=[some (.ref a),some (.int (n:Int)),some (.int (f.1^i)),some (.int (f.2^i)),o4]/\H'=H) ⟨_,by rw [Int.pow_zero,Int.pow_zero];rfl,rfl⟩ ?_ ?_
 ·rintro i σ H1 hi ⟨o4,rfl,rfl⟩;have hB:B*i<=4000:=aK (iU _ Oo) h4;refine ⟨_,rfl,_,rfl,?_⟩;refine nF ha rfl ?_;refine ⟨_,_,rfl,rfl,oE (BC (uE h1 i) hB) (BC h1 h3),?_⟩;refine ⟨_,rfl,_,rfl,?_⟩;refine nF ha rfl ?_;refine ⟨_,_,rfl,rfl,oE (BC (uE h2 i) hB) (BC h2 h3),?_⟩;exact ⟨_,by rw [Int.pow_succ,Int.pow_succ];rfl,rfl⟩
 ·rintro σ H1 ⟨o4,rfl,rfl⟩;refine ⟨_,rfl,_,rfl,?_⟩;refine rK (by show 2<=64;decide) λq3 H3 hq3 e3 s3=>?_;exact q q3 H3 hq3 (by rw [e3];rfl) s3
theorem aCV(F:iV K "weight" "weight" YU f fd)(T:kD K mg c)
  (FQ50:eZ cS P w K mg base 1 "way_shares" ["trial","way"] wR) (FQ47:eZ cS P w K mg base 2 "times" ["one","other"] (fR K)) (FQ40:eZ cS P w K mg base 1 "power" ["share","count"] (pZ K)):dM P w K mg base cS 3 f fd ["trial","way","counts"] (jP K):=by
 refine F.oky QS λvs H Q E h=>?_;unfold jP at h;obtain ⟨v,cv,fs,ws,w,cs,j,rfl,h,hw,hc,ok,hs,q⟩:=h;refine ⟨rfl,λcdv A outer s hr=>?_⟩;refine ⟨_,(aH (bJ (i:=3) QS.nd rfl (Or.inl rfl) (mR (v:=.ref c.ONE) rfl T.g_ONE rfl))
  (aH (fD PassesOwn.never rfl (pR true true rfl T.b_zip (aG (bH FQ50 (hr.mono Dd) (aG (aD 0) (aG (aD 1) aC))) (aG (aD 2) aC))) (rS rfl (fK (cT (i:=4) QS.nd rfl (Or.inl rfl)) (fK (cT (i:=5) QS.nd rfl (Or.inl rfl)) oT))) (aX (bJ (i:=3) QS.nd rfl (Or.inl rfl) (bH FQ47 (hr.mono Dd) (aG (aD 3) (aG (bH FQ40 (hr.mono Dd) (aG (aD 4) (aG (aD 5) aC))) aC))))))
  (aX (cB (aD 3))))),?_⟩
 refine ⟨_,rfl,_,rfl,?_⟩;refine NO h hw λx rx=>?_;obtain ⟨l1,xs,rfl,h1,r1⟩:=kH rx;obtain ⟨l2,ys,rfl,h2,r2⟩:=kH hc;refine ⟨_,rfl,l1,l2,xs,ys,rfl,h1,h2,?_⟩;have hl1:=eY r1;have hl2:=eY r2;have zl:∀i,∀z∈(w.2.zip cs).take i,cV z.1:=λi z hz=>ok.low _ (pA hz);have zb:∀i,∀z∈(w.2.zip cs).take i,z.1.1.natAbs<=2^10/\z.1.2.natAbs<=2^10:=λi z hz=>⟨ok.up _ (pA hz),ok.dn _ (pA hz)⟩;refine BQ (λi σ H'=>∃x o4 o5,σ=[some v,some (.int (j:Int)),some (.ref l2),some x,o4,o5]/\aU H H'/\yF K H' (kR ((w.2.zip cs).take i)) x) ⟨_,_,_,rfl,aU.refl _,.inr ⟨_,rfl,T.o_ONE⟩⟩ (λi σ H' ⟨x,o4,o5,_,s',_⟩=>⟨s' _ _ h1,s' _ _ h2⟩) ?_ ?_
 ·rintro i y z q3 σ H1 H2 hy hz ⟨x,o4,o5,rfl,s1,r⟩ hq3 e3 s3;obtain ⟨g,hg,rg⟩:=dX r1 hy;obtain ⟨n,hn,rn⟩:=dX r2 hz;cases (show z=V.int (n:Int) from rn);have gm:=aF hg;have nn:=SF hn;refine ⟨q3,_,rfl,jM.of e3,rfl,_,_,rfl,_,_,rfl,rfl,?_⟩;refine ⟨_,rfl,_,rfl,_,rfl,?_⟩;refine FP (B:=10) (fP.of (rg.same (s1.trans s3))) (ok.up _ gm) (ok.dn _ gm) Dd Oo Oo ?_;intro q4 H4 hq4 e4 s4;obtain ⟨b1,b2⟩:=RX ((w.2.zip cs).take i) (zl i) (zb i);have zs:=RS w.2 cs i;have c1:=uE (ok.up _ gm) n;have c2:=uE (ok.dn _ gm) n;refine eM (fP.same (s3.trans s4) r.v) (fP.new (f:=uF g n) e4) (sH _ (zl i)) (mH (ok.low _ gm) n) (NL b1 b2 Oo) (NL c1 c2 Oo) ?_;intro q5 H5 hq5 e5 s5;refine ⟨_,_,_,rfl,((s1.trans s3).trans s4).trans s5,?_⟩;rw [gY (RT hg hn),tS];exact .inl (cX e5)
 ·rintro σ H1 ⟨x,o4,o5,rfl,s1,r⟩;refine ⟨_,rfl,?_⟩;refine q _ H1 s1 ?_;have e:(w.2.zip cs).take (min xs.length ys.length)=w.2.zip cs:=List.take_of_length_le (by rw [List.length_zip];omega)
  rwa [e] at r
end
@[irreducible] def jJ:Sp:=λvs H Q _=>∃v fs ws,vs=[v]/\cA H (pT fs ws) v/\Q (.int (fs.length:Nat)) H
theorem oW{H:Hp}{Q:VK}{E:XK}{v:V}{fs:List Str}{ws:List (Str × List Fr)}(h:cA H (pT fs ws) v)(q:Q (.int (fs.length:Nat)) H):jJ [v] H Q E:=by unfold jJ;exact ⟨v,fs,ws,rfl,h,q⟩
section
theorem aDl(F:iV K "faces_of" "faces_of" ZK f fd)(T:kD K mg c):dM P w K mg base cS 1 f fd ["trial"] jJ:=by
 refine F.oky aD2 λvs H Q E h=>?_;unfold jJ at h;obtain ⟨v,fs,ws,rfl,h,q⟩:=h;refine ⟨rfl,λcdv A outer s hr=>?_⟩;obtain ⟨a,af,aw,xf,xw,rfl,ha,hf,hw,rf,rw'⟩:=HS h;refine ⟨_,(aX (cB (jO nC (by rfl) T.b_len Kk (aG (bX bO (aD 0) aM (λ_ _=>rfl)) aC)))),?_⟩;refine ⟨_,rfl,?_⟩;refine mP ha rfl ?_;refine rlT hf ?_;rw [eY rf];exact q
end
def jN(H:Hp)(a:Addr)(cs:List (List Nat)):Prop:=∃vs,H a=some (.lst vs)/\aT H (cs.map mL) vs
theorem kB:∀cs:List (List Nat),hJ (cs.map mL)=true
 | []=>rfl
 | c::cs=>by show (fM (mL c)&&hJ (cs.map mL))=true;rw [kB cs,mK];rfl
theorem jN.same{H H':Hp}{a:Addr}{cs:List (List Nat)}(h:jN H a cs)(s:aU H H'):jN H' a cs:=by
 obtain ⟨vs,h1,h2⟩:=h;exact ⟨vs,s _ _ h1,h2.same s⟩
theorem jN.len{H:Hp}{a:Addr}{cs:List (List Nat)}(h:jN H a cs):∃vs,H a=some (.lst vs)/\aT H (cs.map mL) vs/\vs.length=cs.length:=by
 obtain ⟨vs,h1,h2⟩:=h;exact ⟨vs,h1,h2,eY h2⟩
theorem aT.app{H:Hp}:∀{ds es:List PyData}{xs ys:List V},aT H ds xs->aT H es ys->aT H (ds++es) (xs++ys)
 | [],es,xs,ys,h1,h2=>by
  have:xs=[]:=h1;subst this;exact h2
 | d::ds,es,xs,ys,h1,h2=>by
  unfold aT at h1;obtain ⟨x,xs',rfl,hx,hr⟩:=(show ∃x xs',xs=x::xs'/\cA H d x/\aT H ds xs' from h1);exact aT.cons hx (aT.app hr h2)
theorem oI{α:Type}(g:Nat->List α)(i:Nat):(List.range (i+1)).flatMap g=(List.range i).flatMap g++g i:=by
 rw [List.range_succ,List.flatMap_append];simp
@[irreducible] def mF(n:Nat):Sp:=λvs H Q _=>∃F m:Nat,vs=[.int (F:Int),.int (m:Int)]/\1<=F/\F<=n/\F<=4/\m<=5/\∀a H',aU H H'->H a=none->jN H' a (cta F m)->Q (.ref a) H'
theorem NR{n:Nat}{H:Hp}{Q:VK}{E:XK}{F m:Nat}(h1:1<=F)(h2:F<=n)(h4:F<=4)(h3:m<=5)(q:∀a H',aU H H'->H a=none->jN H' a (cta F m)->Q (.ref a) H'):mF n [.int (F:Int),.int (m:Int)] H Q E:=by unfold mF;exact ⟨F,m,rfl,h1,h2,h4,h3,q⟩
theorem CY{n:Nat}{H:Hp}{Q:VK}{E:XK}{F m:Nat}{x y:Int}(ex:x=(F:Int))(ey:y=(m:Int))(h1:1<=F)(h2:F<=n)(h4:F<=4)(h3:m<=5)(q:∀a H',aU H H'->H a=none->jN H' a (cta F m)->Q (.ref a) H'):mF n [.int x,.int y] H Q E:=by
 subst ex ey;exact NR h1 h2 h4 h3 q
@[irreducible] def rA:Sp:=λvs H Q _=>∃F m:Nat,vs=[.int (F:Int),.int (m:Int)]/\1<=F/\F<=4/\m<=5/\∀a H',aU H H'->H a=none->jN H' a ((List.range (m+1)).flatMap (cta F))->Q (.ref a) H'
theorem zH{H:Hp}{Q:VK}{E:XK}{F m:Nat}(h1:1<=F)(h4:F<=4)(h3:m<=5)(q:∀a H',aU H H'->H a=none->jN H' a ((List.range (m+1)).flatMap (cta F))->Q (.ref a) H'):rA [.int (F:Int),.int (m:Int)] H Q E:=by unfold rA;exact ⟨F,m,rfl,h1,h4,h3,q⟩
theorem uQ:∀F,F<=4->∀m,m<=5->(cta F m).length<=56:=Kk
theorem GE:∀F,F<=3->∀m,m<=5->∀i,i<=6->((List.range i).flatMap λk=>(cta F (m-k)).map λc=>k::c).length<=400:=Kk
theorem uX:∀F,F<=4->∀i,i<=6->((List.range i).flatMap (cta F)).length<=400:=Kk
theorem QL{F m:Nat}{c:List Nat}(h:c∈cta F m):c.length=F:=(hV h).1
section
theorem aCC(F:iV K "counts_that_are" "counts_that_are" NU f fd)(T:kD K mg c):dM P w K mg base cS 1 f fd ["faces","many"] (mF 0):=by
 refine F.okw VU (λvs H Q E h=>?_) (λcdv A outer s H vs Q E hr h=>?_)
 ·unfold mF at h;obtain ⟨F,m,_,h1,h2,_⟩:=h;omega
 ·unfold mF at h;obtain ⟨F,m,_,h1,h2,_⟩:=h;omega
theorem aDm(n:Nat)(F:iV K "counts_that_are" "counts_that_are" NU f fd)(T:kD K mg c)(FQ25:eZ cS P w K mg base (1+n) "counts_that_are" ["faces","many"] (mF n)) :
  dM P w K mg base cS (1+n+1) f fd ["faces","many"] (mF (n+1)):=by
 refine F.oky VU λvs H Q E h=>?_;unfold mF at h;obtain ⟨F,m,rfl,h1,h2,h4,hm,q⟩:=h;refine ⟨rfl,λcdv A outer s hr=>?_⟩;refine ⟨_,(aH (lT (gC sV (aD 0) aM (nomark _)) (aX (cB (gM (aG (dS (aG (aD 1) aC)) aC)))) iO)
  (aH (bJ (i:=2) VU.nd rfl (Or.inl rfl) (gM aC))
  (aH (fD PassesOwn.never rfl (dG rfl T.b_range (aG (bV dY (aD 1) aM) aC)) (cT (i:=3) VU.nd rfl (Or.inr rfl)) (aX (iP (lH PySem.F.plainAttrs_list PySem.F.slot_list_extend PySem.F.type_list_extend GG (aD 2) (aG (fX (dJ.of (psc:=aO NU) (N:=["faces","many","found","first"]) (N':=["rest","first"]) (js:=[3]) Kk rfl rfl rfl) (eI (bH FQ25 (hr.mono Oo) (aG (bV uJ (aD 0) aM) (aG (bV uJ (aD 1) (aD 3)) aC)))) (λ_ _ _ _=>cY) (λ_ _ _ _=>(bV (vW K) (dS (aG (aD 1) aC)) (aD 0)))) aC)))))
  (aX (cB (aD 2)))))),?_⟩
 refine ⟨_,rfl,rfl,_,rfl,?_⟩;refine rZ (λe=>?_) (λe=>?_)
 ·have eF:F=1:=by injection e with e;omega
  subst eF;refine ⟨_,rfl,?_⟩;refine rK (by show 1<=64;decide) λp0 H0 hp0 e0 s0=>?_;refine AZ (by show 1<=64;decide) λp1 H1 hp1 e1 s1=>?_;refine q p1 H1 (s0.trans s1) (s0.free hp1) ⟨_,e1,?_⟩;exact aT.cons (cA.tup (s1 _ _ e0) (aT.cons (cA.int _) aT.nil)) aT.nil
 ·have eF:F≠1:=λz=>e (by rw [z];rfl);obtain ⟨G,rfl⟩:∃G,F=G+2:=⟨F-2,Oo⟩;refine AZ (by show 0<=64;decide) λL H1 hL e1 s1=>?_;refine ⟨_,rfl,_,_,rfl,rfl,_,rfl,Oo,Oo,?_⟩;rw [show ((m:Int)+1).toNat=m+1 by omega];refine gI (λi σ H'=>∃o3,σ=[some (.int ((G+2:Nat):Int)),some (.int (m:Int)),some (.ref L),o3]/\aU H H'/\jN H' L ((List.range i).flatMap λk=>(cta (G+1) (m-k)).map λc=>k::c)) ⟨_,rfl,s1,[],e1,aT.nil⟩ ?_ ?_
  ·rintro i σ H2 hi ⟨o3,rfl,s2,vs,e2,r2⟩;have lv:=eY r2;have sml:=GE (G+1) Oo m hm i Oo;refine ⟨_,rfl,FF e2,?_⟩;refine ⟨_,rfl,_,_,rfl,rfl,?_⟩;refine ⟨_,rfl,_,rfl,_,_,rfl,rfl,?_⟩;refine CY (F:=G+1) (m:=m-i) Oo Oo Oo Oo Oo Oo λb H3 s3 hb l3=>?_;obtain ⟨ws,e3,r3,lw3⟩:=l3.len;have sm2:=uQ (G+1) Oo (m-i) Oo;refine ⟨b,rfl,⟨_,fI.of e3⟩,?_⟩;refine gJ (λj y H'=>∃c,(cta (G+1) (m-i))[j]?=some c/\cA H' (mL (i::c)) y) (λj y H1 H2 s ⟨c,h1,h2⟩=>⟨c,h1,h2.flat s (mK _)⟩) Oo e3 (λj x H' Q' hx s' k'=>?_) (λD ys H4 hD hD4 s4 hy hr4=>?_)
   ·obtain ⟨c,hc,rc⟩:=dX r3 hx;obtain ⟨ac,xc,rfl,hac,rxc⟩:=kH (rc.same s');have lc:=eY rxc;have lc2:=QL (aF hc);refine ⟨_,rfl,?_⟩;refine rK (by show 1<=64;decide) λp4 H5 hp4 e4 s5=>?_;refine ⟨_,rfl,?_⟩;refine VP e4 (s5 _ _ hac) (by simp only [bQ,List.length_nil];omega) λp5 H6 s6 e6=>?_;refine k' _ H6 (s5.trans s6) ⟨c,hc,cA.tup e6 ?_⟩;rw [show (0:Int)+(i:Int)=(i:Int) by omega];exact aT.cons (cA.int _) (rxc.same (s5.trans s6))
   ·have S4:=s3.trans s4;have nLD:D≠L:=λz=>by subst z;rw [s3 _ _ e2] at hD;cases hD
    refine aAS (S4 _ _ e2) hD4 Oo λH5 e5 s5=>?_;have t5:=s5.t (S4 _ _ e2);refine ⟨_,rfl,aU.thru hL (s2.trans S4) s5,vs++ys,e5,?_⟩;rw [oI,bE];refine aT.app (aT.flat t5 (kB _) (r2.same S4)) (aT.flat t5 (kB _) ?_);refine aT.ofIdx (by rw [hy,aA,aA];omega) λj y hj=>?_;obtain ⟨c,hc,rc⟩:=hr4 j y hj;exact ⟨_,by rw [aN,aN,hc];rfl,rc⟩
  ·rintro σ H2 ⟨o3,rfl,s2,l2⟩;refine ⟨_,rfl,?_⟩;exact q L H2 s2 hL l2
theorem aDw(F:iV K "all_counts" "all_counts" ZQ f fd)(T:kD K mg c)(FQ25:eZ cS P w K mg base 5 "counts_that_are" ["faces","many"] (mF 4)) :
  dM P w K mg base cS 6 f fd ["faces","most"] rA:=by
 refine F.oky aA0 λvs H Q E h=>?_;unfold rA at h;obtain ⟨F,m,rfl,h1,h4,hm,q⟩:=h;refine ⟨rfl,λcdv A outer s hr=>?_⟩;refine ⟨_,(aH (bJ (i:=2) aA0.nd rfl (Or.inl rfl) (gM aC))
  (aH (fD PassesOwn.never rfl (dG rfl T.b_range (aG (bV dY (aD 1) aM) aC)) (cT (i:=3) aA0.nd rfl (Or.inl rfl)) (aX (iP (lH PySem.F.plainAttrs_list PySem.F.slot_list_extend PySem.F.type_list_extend GG (aD 2) (aG (bH FQ25 (hr.mono Dd) (aG (aD 0) (aG (aD 3) aC))) aC)))))
  (aX (cB (aD 2))))),?_⟩
 refine AZ (by show 0<=64;decide) λL H1 hL e1 s1=>?_;refine ⟨_,rfl,_,_,rfl,rfl,_,rfl,Oo,Oo,?_⟩;rw [show ((m:Int)+1).toNat=m+1 by omega];refine gI (λi σ H'=>∃o3,σ=[some (.int (F:Int)),some (.int (m:Int)),some (.ref L),o3]/\aU H H'/\jN H' L ((List.range i).flatMap (cta F))) ⟨_,rfl,s1,[],e1,aT.nil⟩ ?_ ?_
 ·rintro i σ H2 hi ⟨o3,rfl,s2,vs,e2,r2⟩;have lv:=eY r2;have sml:=uX F h4 i Oo;refine ⟨_,rfl,FF e2,?_⟩;refine ⟨_,rfl,_,rfl,?_⟩;refine CY (F:=F) (m:=i) rfl Oo h1 h4 h4 Oo λb H3 s3 hb l3=>?_;obtain ⟨ws,e3,r3,lw3⟩:=l3.len;have sm2:=uQ F h4 i Oo;refine aAS (s3 _ _ e2) e3 Oo λH5 e5 s5=>?_;have t5:=s5.t (s3 _ _ e2);refine ⟨_,rfl,aU.thru hL (s2.trans s3) s5,vs++ws,e5,?_⟩;rw [oI,bE];exact aT.app (aT.flat t5 (kB _) (r2.same s3)) (aT.flat t5 (kB _) r3)
 ·rintro σ H2 ⟨o3,rfl,s2,l2⟩;refine ⟨_,rfl,?_⟩;exact q L H2 s2 hL l2
end
abbrev EY(n:Nat):V:=.int (n:Int)
theorem EL{H:Hp}:∀cs:List Nat,aT H (cs.map λ(n:Nat)=>PyData.int (n:Int)) (cs.map EY)
 | []=>aT.nil
 | n::cs=>aT.cons (cA.int _) (EL cs)
theorem AC{H:Hp}:∀{cs:List Nat}{xs:List V},aT H (cs.map λ(n:Nat)=>PyData.int (n:Int)) xs->xs=cs.map EY
 | [],xs,h=>h
 | n::cs,xs,h=>by
  unfold aT at h;obtain ⟨x,xs',rfl,hx,hr⟩:=(show ∃x xs',xs=x::xs'/\cA H (PyData.int (n:Int)) x/\aT H (cs.map λ(n:Nat)=>PyData.int (n:Int)) xs' from h);rw [AC hr];cases (show x=V.int (n:Int) from hx)
  rfl
theorem gK{H:Hp}{cs:List Nat}{v:V}(h:cA H (mL cs) v):∃a,v=.ref a/\H a=some (.tup (cs.map EY)):=by
 obtain ⟨a,xs,rfl,ha,hr⟩:=kH h;rw [AC hr] at ha;exact ⟨a,rfl,ha⟩
theorem pJ{H:Hp}{cs:List Nat}{a:Addr}(h:H a=some (.tup (cs.map EY))):cA H (mL cs) (.ref a):=cA.tup h (EL cs)
theorem QU{cs:List Nat}{i:Nat}(h:i<cs.length):bP cs i=cs.take i++[cs.getD i 0+1]++cs.drop (i+1):=by
 unfold bP;rw [List.set_eq_take_append_cons_drop,if_pos h,List.append_assoc]
 rfl
theorem SJ{K:PySem.W.Frag}{H:Hp}{a:Addr}{xs:List V}{k:Nat}{z:Int}{Q:VK}(hz:z=(k:Int))(h:H a=some (.tup xs))(q:∀c H',aU H H'->H' c=some (.tup (xs.drop k))->Q (.ref c) H'):GA K (.ref a) (some z) none H Q:=by
 subst hz;exact YQ h q
@[irreducible] def kX:Sp:=λvs H Q _=>∃(x:V) (cs:List Nat) (i:Nat),vs=[x,.int (i:Int)]/\cA H (mL cs) x/\i<cs.length/\cs.length<=64/\∀v H',aU H H'->cA H' (mL (bP cs i)) v->Q v H'
theorem yH{H:Hp}{Q:VK}{E:XK}{x:V}{cs:List Nat}{i:Nat}(h1:cA H (mL cs) x)(h2:i<cs.length)(h3:cs.length<=64)(k:∀v H',aU H H'->cA H' (mL (bP cs i)) v->Q v H'):kX [x,.int (i:Int)] H Q E:=by
 unfold kX;exact ⟨x,cs,i,rfl,h1,h2,h3,k⟩
@[irreducible] def fY:Sp:=λvs H Q _=>∃(x:V) (cs:List Nat),vs=[x]/\cA H (mL cs) x/\cs.length<=64/\∀D ys H',H D=none->H' D=some (.lst ys)->aT H' (((List.range cs.length).map (bP cs)).map mL) ys->aU H H'->Q (.ref D) H'
theorem jX{H:Hp}{Q:VK}{E:XK}{x:V}{cs:List Nat}(h1:cA H (mL cs) x)(h3:cs.length<=64)(k:∀D ys H',H D=none->H' D=some (.lst ys)->aT H' (((List.range cs.length).map (bP cs)).map mL) ys->aU H H'->Q (.ref D) H'):fY [x] H Q E:=by
 unfold fY;exact ⟨x,cs,rfl,h1,h3,k⟩
section
theorem aDc(F:iV K "one_more" "one_more" ZE f fd)(T:kD K mg c):dM P w K mg base cS 1 f fd ["counts","face"] kX:=by
 refine F.oky aDW λvs H Q E h=>?_;unfold kX at h;obtain ⟨x,cs,i,rfl,rx,hi,hl,k⟩:=h;refine ⟨rfl,λcdv A outer s hr=>?_⟩;obtain ⟨a,rfl,ha⟩:=gK rx;refine ⟨_,(aX (cB (bV (vW K) (bV (vW K) (nH (HY K) (aD 0) qU (qT (aD 1))) (dS (aG (bV dY (bX bO (aD 0) (aD 1) (λ_ _=>rfl)) aM) aC))) (nH (HY K) (aD 0) (qT (bV dY (aD 1) aM)) qU)))),?_⟩;refine ⟨_,rfl,_,rfl,_,rfl,?_⟩;refine YR ha λc2 H2 s2 e2=>?_;refine ⟨_,rfl,_,rfl,?_⟩;have hat:BV (cs.map EY) (i:Int)=some (EY (cs.getD i 0)):=dU (by rw [aN,bM,aB hi];rfl);refine mP (s2 _ _ ha) hat ?_;refine ⟨_,_,rfl,rfl,?_⟩;refine rK (by show 1<=64;decide) λc3 H3 hc3 e3 s3=>?_;refine VP (s3 _ _ e2) e3 (by rw [fA,aA];show min i cs.length+1<=1000;omega) λc4 H4 s4 e4=>?_;refine ⟨_,rfl,_,rfl,_,_,rfl,rfl,?_⟩;refine ⟨_,rfl,?_⟩;refine SJ (k:=i+1) Oo (s4 _ _ (s3 _ _ (s2 _ _ ha))) λc5 H5 s5 e5=>?_;refine VP (s5 _ _ e4) e5 (by rw [aP,fA,List.length_drop,aA];show min i cs.length+1+(cs.length-(i+1))<=1000;omega) λc6 H6 s6 e6=>?_;refine k _ H6 ((((s2.trans s3).trans s4).trans s5).trans s6) (pJ ?_);rw [e6,QU hi,bE,bE,List.map_take,List.map_drop]
 rfl
theorem aDb(F:iV K "ones_more" "ones_more" SW f fd)(T:kD K mg c)(FQ35:eZ cS P w K mg base 1 "one_more" ["counts","face"] kX):dM P w K mg base cS 2 f fd ["counts"] fY:=by
 refine F.oky aDV λvs H Q E h=>?_;unfold fY at h;obtain ⟨x,cs,rfl,rx,hl,k⟩:=h;refine ⟨rfl,λcdv A outer s hr=>?_⟩;obtain ⟨a,rfl,ha⟩:=gK rx;refine ⟨_,(aX (cB (fX (dJ.of (psc:=aO SW) (N:=["counts"]) (N':=["face","counts"]) (js:=[0]) Kk rfl rfl rfl) (dG rfl T.b_range (aG (jO nC (by rfl) T.b_len Kk (aG (aD 0) aC)) aC)) (λ_ _ _ _=>cY) (λ_ _ _ _=>(bH FQ35 (hr.mono Dd) (aG (aD 1) (aG (aD 0) aC))))))),?_⟩;refine ⟨_,rfl,?_⟩;refine rlT ha ?_;rw [aA];refine ⟨_,rfl,Oo,Oo,?_⟩;refine jR (λi y H'=>i<cs.length/\cA H' (mL (bP cs i)) y) (λi y H1 H2 s ⟨h1,h2⟩=>⟨h1,h2.flat s (mK _)⟩) Oo (λi H' Q' hi s' k'=>?_) (λD ys H4 hD hD4 s4 hy4 hr4=>?_)
 ·rw [Int.zero_add];refine ⟨_,rfl,_,rfl,?_⟩;refine yH (rx.same s') Oo hl λv H5 s5 r5=>?_;exact k' _ H5 s5 ⟨Oo,r5⟩
 ·refine k D ys H4 hD hD4 ?_ s4;refine aT.ofIdx (by rw [hy4,aA,aA,bD];omega) λi y hi=>?_;obtain ⟨h1,h2⟩:=hr4 i y hi;exact ⟨mL (bP cs i),by rw [aN,aN,cK h1];rfl,h2⟩
end
abbrev SN:Stmt:=(top 40)
theorem QR:bS ["trial","aim","prices","rising","worth_of","counts","sums"] ["trial","aim","prices"] (aO SN):=⟨rfl,rfl,rfl,Kk,rfl,Kk,Kk⟩
abbrev DA:Stmt:=(top 41)
theorem EQ:bS ["trial","aim","prices","counts","worth_of","weights","dues","all_dues","sums","looks","met","worths_behind"] ["trial","aim","prices","counts","worth_of"] (aO DA):=⟨rfl,rfl,rfl,Kk,rfl,Kk,Kk⟩
abbrev fW(ws:List (Str × List Fr)):List (List Fr):=ws.map λx=>x.2
def ci(c:List Nat):List Int:=c.map λ(n:Nat)=>(n:Int)
theorem eK(c:List Nat):(ci c).map V.int=c.map EY:=by unfold ci;rw [List.map_map];rfl
theorem BR(c:List Nat):(ci c).sum=(c.sum:Nat):=by
 induction c with
 | nil=>rfl
 | cons a c ih =>
  have e:ci (a::c)=(a:Int)::ci c:=rfl;rw [e,List.sum_cons,List.sum_cons,ih];omega
theorem kO:∀{a b:List Nat},ci a=ci b->a=b
 | [],[],_=>rfl
 | [],b::bs,h=>by cases h
 | a::as,[],h=>by cases h
 | a::as,b::bs,h=>by
  have h:(a:Int)::ci as=(b:Int)::ci bs:=h;injection h with h1 h2;rw [kO h2,show a=b by omega]
structure DW(H:Hp)(kvs:List (List eO × V))(S:List (List Nat))(val:List Nat->Fr):Prop where
 yes:∀c∈S,∃v,fG kvs (kT (ci c))=some v/\cA H (fN (val c)) v
 len:kvs.length<=S.length
theorem DW.t{H H':Hp}{kvs:List (List eO × V)}{S:List (List Nat)}{val:List Nat->Fr}(s:dC H H')(h:DW H kvs S val):DW H' kvs S val :=
 ⟨λc hc=>by obtain ⟨v,h1,h2⟩:=h.yes c hc;exact ⟨v,h1,h2.flat s (cU _)⟩,h.len⟩
theorem DW.put{H:Hp}{kvs:List (List eO × V)}{S:List (List Nat)}{val:List Nat->Fr}(h:DW H kvs S val){c:List Nat}{v:V}(r:cA H (fN (val c)) v):DW H (iY kvs (kT (ci c)) v) (c::S) val:=by
 refine ⟨λd hd=>?_,by have:=h.len;have:=eQ kvs (kT (ci c)) v;rw [bQ];omega⟩;rw [iC];by_cases e:d=c
 ·subst e;rw [if_pos rfl];exact ⟨v,rfl,r⟩
 ·rw [if_neg λq=>e (kO (kM q))];rcases bF.mp hd with hd | hd
  ·exact absurd hd e
  ·exact h.yes d hd
theorem aR.tT{H H':Hp}{p:Addr}(s:aR p H H'){kvs:List (List eO × V)}(hp:H p=some (.dT kvs)):dC H H':=λb ys h=>s.at (oC h hp (by intro z;cases z)) h
def smQ(W F:Nat)(q:Nat->List Nat->Rat)(mix ps cs:Nat->Rat):Nat->List Nat->List Rat
 | 0,c=>kE W λv=>ps v*q v c
 | n+1,c=>kE W (λv=>ps v*q v c)++[cs c.sum*cD W (λv=>mix v*q v c)+cD F (λj=>nG W F q mix ps cs n (bP c j))]
theorem MQ{W F:Nat}{q:Nat->List Nat->Rat}{mix ps cs:Nat->Rat}(n:Nat)(c:List Nat):nG W F q mix ps cs n c=kF (smQ W F q mix ps cs n c):=by cases n <;> rfl
abbrev lJ(M Ns Nm Np Nc:Nat):Nat:=Np*Nc*Nm*Ns^M
section
variable{F W M:Nat}{ss:List (List Fr)}{mix ps cs:List Fr}{Ns Nm Np Nc B:Nat}
theorem fV(I:iN F W M ss mix ps cs Ns Nm Np Nc B){C:Nat}{f:Fr}(h:Fn (lJ M Ns Nm Np Nc) C f)(hC:C<=2^490):oP 4000 f:=qS h I.pos I.sz (aK hC (aJ Dd Dd))
theorem yA(I:iN F W M ss mix ps cs Ns Nm Np Nc B){C:Nat}{fs:List Fr}(h:∀f∈fs,Fn (lJ M Ns Nm Np Nc) C f)(hl:fs.length<=64)(hC:C<=2^490):AA fs:=mO h I.pos I.sz hl hC
theorem gR:1000000000000<=2^490:=aK (show 1000000000000<=2^40 by decide) (aJ Dd Dd)
theorem JN(I:iN F W M ss mix ps cs Ns Nm Np Nc B){n:Nat}(hn:n<=5):8^(n+1)*B<=1000000000000:=by
 have h1:8^(n+1)<=8^6:=aJ Dd Oo;have:=Nat.mul_le_mul h1 I.b;have e:8^6*1000000=262144000000:=Dd;omega
def iS(ss:List (List Fr))(ps:List Fr)(c:List Nat)(i:Nat):Fr:=iZ (ps.getD i (0,1)) (kR ((ss.getD i []).zip c))
theorem rF(I:iN F W M ss mix ps cs Ns Nm Np Nc B){i:Nat}(hi:i<W)(c:List Nat):cV (kR ((ss.getD i []).zip c)) :=
 sH _ λz hz=>((I.sh _ (eG (by rw [I.sl];exact hi))).2 z.1 (List.of_mem_zip (a:=z.1) (b:=z.2) hz).1).low
theorem wC(I:iN F W M ss mix ps cs Ns Nm Np Nc B){i:Nat}(hi:i<W){c:List Nat}(hc:c.sum<=M):Fn (lJ M Ns Nm Np Nc) 1 (kR ((ss.getD i []).zip c)) :=
 Qn.f (rF I hi c) ((I.qn hi hc).dvd ⟨Np*Nc*Nm,by unfold lJ;ac_rfl⟩)
theorem BY(I:iN F W M ss mix ps cs Ns Nm Np Nc B){i:Nat}(hi:i<W):Fn (lJ M Ns Nm Np Nc) B (ps.getD i (0,1)) :=
 (I.pr _ (eG (by rw [I.pl];exact hi))).dvd ⟨Nc*Nm*Ns^M,by unfold lJ;ac_rfl⟩
theorem BZ(I:iN F W M ss mix ps cs Ns Nm Np Nc B){i:Nat}(hi:i<W):Fn (lJ M Ns Nm Np Nc) 1 (mix.getD i (0,1)) :=
 (I.mx _ (eG (by rw [I.ml];exact hi))).dvd ⟨Np*Nc*Ns^M,by unfold lJ;ac_rfl⟩
theorem JM(I:iN F W M ss mix ps cs Ns Nm Np Nc B){i:Nat}(hi:i<M):Fn (lJ M Ns Nm Np Nc) B (cs.getD i (0,1)) :=
 (I.co _ (eG (by rw [I.cl];exact hi))).dvd ⟨Np*Nm*Ns^M,by unfold lJ;ac_rfl⟩
theorem oO(I:iN F W M ss mix ps cs Ns Nm Np Nc B){i:Nat}(hi:i<W)(c:List Nat):cV (iS ss ps c i)/\rv (iS ss ps c i)=cL ps i*jL ss i c:=by
 have h1:=(BY I hi).low;have h2:=rF I hi c;exact ⟨fZ h1 h2,iX h1.pos h2.pos⟩
theorem CA(I:iN F W M ss mix ps cs Ns Nm Np Nc B){i:Nat}(hi:i<W){c:List Nat}(hc:c.sum<=M):Fn (lJ M Ns Nm Np Nc) B (iS ss ps c i) :=
 Qn.f (oO I hi c).1 (by rw [(oO I hi c).2];exact I.due hi hc)
theorem oN(I:iN F W M ss mix ps cs Ns Nm Np Nc B){i:Nat}(hi:i<W)(c:List Nat):cV (iS ss mix c i)/\rv (iS ss mix c i)=cL mix i*jL ss i c:=by
 have h1:=(BZ I hi).low;have h2:=rF I hi c;exact ⟨fZ h1 h2,iX h1.pos h2.pos⟩
theorem ET(I:iN F W M ss mix ps cs Ns Nm Np Nc B){i:Nat}(hi:i<W){c:List Nat}(hc:c.sum<=M):Fn (lJ M Ns Nm Np Nc) 1 (iS ss mix c i) :=
 Qn.f (oN I hi c).1 (by rw [(oN I hi c).2];exact (I.met hi hc).dvd ⟨Np*Nc,by unfold lJ;ac_rfl⟩)
end
theorem vV{n:Nat}{g:Nat->Fr}(h:∀i,i<n->cV (g i)):cV (lW ((List.range n).map g))/\rv (lW ((List.range n).map g))=cD n λi=>rv (g i):=by
 have hl:∀f∈(List.range n).map g,cV f:=λf hf=>by
  obtain ⟨i,hi,rfl⟩:=aQ.mp hf;exact h i (bU.mp hi)
 refine ⟨wJ _ hl,?_⟩;rw [NX _ hl,List.map_map];rfl
abbrev woD(rs:List (List Nat))(val:List Nat->Fr):PyData:=.tuple (rs.map λc=>.tuple [mL c,fN (val c)])
abbrev HE(F W M:Nat)(ss:List (List Fr))(mix ps cs:List Fr)(c:List Nat):Fr:=eS (wor F W M ss mix ps cs c)
structure aA7(N:Nat)(qs:List Rat)(gs:List Fr):Prop where
 v:gs.map rv=qs
 n:∀g∈gs,Fn N 1000000000000 g
 l0:0<gs.length
 l1:gs.length<=5
@[irreducible] def sJ:Sp:=λvs H Q _=>∃(tv av pv cv:V) (p:Addr) (fs:List Str) (ws:List (Str × List Fr)) (bs mix ps cs:List Fr) (c:List Nat) (kvs:List (List eO × V)) (F W M Ns Nm Np Nc B:Nat),vs=[tv,av,pv,cv,.ref p]/\cA H (pT fs ws) tv/\cA H (pL M bs mix cs) av/\cA H (rT ps) pv/\cA H (mL c) cv/\H p=some (.dT kvs) /\
 iN F W M (fW ws) mix ps cs Ns Nm Np Nc B/\(∀x∈ws,EW 10 x.2)/\c.length=F/\c.sum<=M/\(c.sum<M->∀j,j<F->∃v,fG kvs (kT (ci (bP c j)))=some v/\cA H (fN (HE F W M (fW ws) mix ps cs (bP c j))) v) /\
 ∀D xs gs H',aU H H'->H D=none->H' D=some (.lst xs)->aT H' (gs.map fN) xs->aA7 (lJ M Ns Nm Np Nc) (smQ W F (jL (fW ws)) (cL mix) (cL ps) (cL cs) (M-c.sum) c) gs->Q (.ref D) H'
theorem JY{H:Hp}{Q:VK}{E:XK}{tv av pv cv:V}{p:Addr}{fs:List Str}{ws:List (Str × List Fr)}{bs mix ps cs:List Fr}{c:List Nat}{kvs:List (List eO × V)}{F W M Ns Nm Np Nc B:Nat}(h1:cA H (pT fs ws) tv)(h2:cA H (pL M bs mix cs) av)(h3:cA H (rT ps) pv)(h4:cA H (mL c) cv)(h5:H p=some (.dT kvs))
  (I:iN F W M (fW ws) mix ps cs Ns Nm Np Nc B) (b:∀x∈ws,EW 10 x.2) (cl:c.length=F) (cm:c.sum<=M) (kn:c.sum<M->∀j,j<F->∃v,fG kvs (kT (ci (bP c j)))=some v/\cA H (fN (HE F W M (fW ws) mix ps cs (bP c j))) v)
  (k:∀D xs gs H',aU H H'->H D=none->H' D=some (.lst xs)->aT H' (gs.map fN) xs->aA7 (lJ M Ns Nm Np Nc) (smQ W F (jL (fW ws)) (cL mix) (cL ps) (cL cs) (M-c.sum) c) gs->Q (.ref D) H'):sJ [tv,av,pv,cv,.ref p] H Q E:=by
 unfold sJ;exact ⟨tv,av,pv,cv,p,fs,ws,bs,mix,ps,cs,c,kvs,F,W,M,Ns,Nm,Np,Nc,B,rfl,h1,h2,h3,h4,h5,I,b,cl,cm,kn,k⟩
theorem aT.ofRange{H:Hp}{n:Nat}{g:Nat->Fr}{ys:List V}(hl:ys.length=n)(h:∀(i:Nat) (y:V),ys[i]?=some y->i<n/\cA H (fN (g i)) y):aT H (((List.range n).map g).map fN) ys:=by
 refine aT.ofIdx (by rw [aA,aA,bD,hl]) λi y hi=>?_;obtain ⟨h1,h2⟩:=h i y hi;exact ⟨_,by rw [aN,aN,cK h1];rfl,h2⟩
theorem uZ{H:Hp}{M:Nat}{bs mix cs:List Fr}{v:V}(h:cA H (pL M bs mix cs) v):∃a x1 x2 x3,v=.ref a/\H a=some (.tup [.int (M:Int),x1,x2,x3])/\cA H (rT bs) x1/\cA H (rT mix) x2/\cA H (rT cs) x3:=by
 obtain ⟨a,xs,rfl,ha,hr⟩:=kH h;unfold aT aT aT aT aT at hr;obtain ⟨x0,_,rfl,r0,x1,_,rfl,r1,x2,_,rfl,r2,x3,_,rfl,r3,rfl⟩:=hr;cases (show x0=V.int (M:Int) from r0);exact ⟨a,x1,x2,x3,rfl,ha,r1,r2,r3⟩
theorem gQ{α:Type}{l:List α}{i:Nat}{a d:α}(h:l[i]?=some a):l.getD i d=a:=by rw [bM,h];rfl
section
theorem aC1(F:iV K "sums_at" "sums_at" DA f fd)(T:kD K mg c)
  (FQ52:eZ cS P w K mg base 3 "weight" ["trial","way","counts"] (jP K)) (FQ51:eZ cS P w K mg base 1 "ways_of" ["trial"] iR) (FQ47:eZ cS P w K mg base 2 "times" ["one","other"] (fR K)) (FQ49:eZ cS P w K mg base 3 "total" ["some"] (jB K))
  (FQ31:eZ cS P w K mg base 3 "less" ["one","other"] (nZ K)) (FQ36:eZ cS P w K mg base 2 "ones_more" ["counts"] fY) (FQ39:eZ cS P w K mg base 2 "plus" ["one","other"] (lK K)):dM P w K mg base cS 4 f fd ["trial","aim","prices","counts","worth_of"] sJ:=by
 refine F.oky EQ λvs H Q E h=>?_;unfold sJ at h;obtain ⟨tv,av,pv,cv,p,fs,ws,bs,mix,ps,cs,c,kvs,F,W,M,Ns,Nm,Np,Nc,B,rfl,rt,ra,rp,rc,hp,I,hb,hcl,hcm,kn,k⟩:=h;refine ⟨rfl,λcdv A outer s hr=>?_⟩;generalize hss:fW ws=ss at I kn k;have lws:ws.length=W:=by have:=I.sl;rw [<-hss,aA] at this;exact this
 have hbB:=I.b;have w4:=I.w4;have w1:=I.w1;have b40:B<=2^490:=aK Oo gR;obtain ⟨ap,vp,rfl,hap,rvp⟩:=jK rp;obtain ⟨ac,rfl,hac⟩:=gK rc;obtain ⟨aa,xb,xm,xc,rfl,haa,rxb,rxm,rxc⟩:=uZ ra;obtain ⟨am,vm,rfl,ham,rvm⟩:=jK rxm;obtain ⟨ak,vk,rfl,hak,rvk⟩:=jK rxc;have lvp:vp.length=W:=by rw [eY rvp,I.pl]
 have lvm:vm.length=W:=by rw [eY rvm,I.ml]
 refine ⟨_,(aH (iB (i:=5) (dJ.of (psc:=aO DA) (N:=["trial","aim","prices","counts","worth_of","weights","dues","all_dues","sums","looks","met","worths_behind"]) (N':=["way","trial","counts"]) (js:=[0,3]) Kk rfl rfl rfl) EQ.nd rfl rfl (dG rfl T.b_range (aG (bH FQ51 (hr.mono Dd) (aG (aD 0) aC)) aC)) (λ_ _ _ _=>cY) (λ_ _ _ _=>(bH FQ52 (hr.mono Dd) (aG (aD 1) (aG (aD 0) (aG (aD 2) aC))))))
  (aH (oS (i:=6) (eJ.of (psc:=aO DA) (N:=["trial","aim","prices","counts","worth_of","weights","dues","all_dues","sums","looks","met","worths_behind"]) (xs:=["price","one"]) (N':=["price","one"]) (js:=[]) Kk rfl rfl rfl) EQ.nd rfl rfl (pR true false rfl T.b_zip (aG (aD 2) (aG (aD 5) aC))) (λ_ _ _ _=>cY) (λ_ _ _ _=>(bH FQ47 (hr.mono Dd) (aG (aD 0) (aG (aD 1) aC)))))
  (aH (bJ (i:=7) EQ.nd rfl (Or.inr rfl) (bH FQ49 (hr.mono Dd) (aG (aD 6) aC)))
  (aH (iB (i:=8) (dJ.of (psc:=aO DA) (N:=["trial","aim","prices","counts","worth_of","weights","dues","all_dues","sums","looks","met","worths_behind"]) (N':=["due","all_dues"]) (js:=[7]) Kk rfl rfl rfl) EQ.nd rfl rfl (eI (aD 6)) (λ_ _ _ _=>cY) (λ_ _ _ _=>(bH FQ31 (hr.mono Dd) (aG (aD 1) (aG (aD 0) aC)))))
  (aH (bJ (i:=9) EQ.nd rfl (Or.inl rfl) (jO (wA K rfl) (by rfl) T.b_sum Kk (aG (aD 3) aC)))
  (aH (MN (lT (gC xD (aD 9) (bX bO (aD 1) aM (λ_ _=>rfl)) (nomark _)) (aH (bJ (i:=10) EQ.nd rfl (Or.inl rfl) (bH FQ49 (hr.mono Dd) (aG (tU (eJ.of (psc:=aO DA) (N:=["trial","aim","prices","counts","worth_of","weights","dues","all_dues","sums","looks","met","worths_behind"]) (xs:=["share","one"]) (N':=["share","one"]) (js:=[]) Kk rfl rfl rfl) (pR true false rfl T.b_zip (aG (bX bO (aD 1) aM (λ_ _=>rfl)) (aG (aD 5) aC))) (λ_ _ _ _=>cY) (λ_ _ _ _=>(bH FQ47 (hr.mono Dd) (aG (aD 0) (aG (aD 1) aC))))) aC)))
  (aH (bJ (i:=11) EQ.nd rfl (Or.inl rfl) (bH FQ49 (hr.mono Dd) (aG (fX (dJ.of (psc:=aO DA) (N:=["trial","aim","prices","counts","worth_of","weights","dues","all_dues","sums","looks","met","worths_behind"]) (N':=["more","worth_of"]) (js:=[4]) Kk rfl rfl rfl) (eI (bH FQ36 (hr.mono Dd) (aG (aD 3) aC))) (λ_ _ _ _=>cY) (λ_ _ _ _=>(fU hr.u1 (aD 1) (aD 0)))) aC)))
  (aX (iP (lH PySem.F.plainAttrs_list PySem.F.slot_list_append PySem.F.type_list_append mZ (aD 8) (aG (bH FQ39 (hr.mono Dd) (aG (bH FQ47 (hr.mono Dd) (aG (bX bO (bX bO (aD 1) aM (λ_ _=>rfl)) (aD 9) (λ_ _=>rfl)) (aG (aD 10) aC))) (aG (aD 11) aC))) aC)))))) iO))
  (aX (cB (aD 8))))))))),?_⟩
 refine ⟨_,rfl,?_⟩;refine kW rt ?_;rw [lws];refine ⟨_,rfl,Oo,Oo,?_⟩;refine jR (λi y H'=>i<W/\yF K H' (kR ((ss.getD i []).zip c)) y) (λi y H1 H2 s ⟨h1,h2⟩=>⟨h1,h2.t s⟩) Oo (λi H' Q' hi s' k'=>?_) (λD5 zs H5 hD5 e5 s5 hz5 hr5=>?_)
 ·rw [Int.zero_add];have hi:i<W:=Oo;obtain ⟨x,hx⟩:∃x,ws[i]?=some x:=⟨_,aB Oo⟩;refine ⟨_,rfl,_,rfl,_,rfl,?_⟩;refine mT (rt.same s') hx (rc.same s') (hb x (aF hx)) (by have:=I.m5;omega) λy H6 s6 r6=>?_;refine k' _ H6 s6 ⟨hi,?_⟩;have e:ss.getD i []=x.2:=gQ (by rw [<-hss,aN,hx];rfl);rw [e];exact r6
 have lz:zs.length=W:=Oo;refine ⟨_,rfl,_,rfl,ap,D5,vp,zs,rfl,s5 _ _ hap,e5,?_⟩;refine oJ (xs:=vp) (ys:=zs) (λi y H'=>i<W/\cA H' (fN (iS ss ps c i)) y) (λi y H1 H2 s ⟨h1,h2⟩=>⟨h1,h2.flat s (cU _)⟩) Oo (s5 _ _ hap) e5 Oo (λi x y H' Q' hx hy s' k'=>?_) (λD6 us H6 hD6 e6 s6 hu6 hr6=>?_)
 ·obtain ⟨f1,hf1,rf1⟩:=rvp.atI hx;obtain ⟨hi,fy⟩:=hr5 i y hy;have e1:ps.getD i (0,1)=f1:=gQ hf1;refine ⟨_,rfl,_,rfl,?_⟩;have n1:=BY I hi;rw [e1] at n1;refine eM (fP.of (rf1.same (s5.trans s'))) (fy.same s').v n1.low (rF I hi c) (fV I n1 b40) (fV I (wC I hi hcm) (aK Dd gR)) ?_;intro q7 H7 hq7 e7 s7;refine k' _ H7 s7 ⟨hi,cX ?_⟩;rw [e7];unfold iS;rw [e1]
 have r6:aT H6 (((List.range W).map (iS ss ps c)).map fN) us:=aT.ofRange Oo hr6;have S6:=s5.trans s6;obtain ⟨tl,tvq⟩:=vV (n:=W) (g:=iS ss ps c) λi hi=>(oO I hi c).1;have dn:∀g∈(List.range W).map (iS ss ps c),Fn (lJ M Ns Nm Np Nc) B g:=λg hg=>by
  obtain ⟨i,hi,rfl⟩:=aQ.mp hg;exact CA I (bU.mp hi) hcm
 refine ⟨_,rfl,?_⟩;refine iH e6 (pM.of r6) (yA I dn (by rw [aA,bD];omega) b40) λv7 H7 s7 r7=>?_;have tn:=Fn.tot _ dn;rw [aA,bD] at tn;have wB:W*B<=4*B:=bT _ w4;generalize htot:lW ((List.range W).map (iS ss ps c))=tot at r7 tl tvq tn;refine ⟨_,rfl,D6,rfl,⟨_,fI.of (s7 _ _ e6)⟩,?_⟩;refine gJ (λi y H'=>i<W/\cA H' (fN (lO tot (sX (iS ss ps c i)))) y) (λi y H1 H2 s ⟨h1,h2⟩=>⟨h1,h2.flat s (cU _)⟩) Oo (s7 _ _ e6) (λi x H' Q' hx s' k'=>?_) (λD8 ys H8 hD8 e8 s8 hy8 hr8=>?_)
 ·obtain ⟨hi,rx⟩:=hr6 i x hx;refine ⟨_,rfl,_,rfl,?_⟩;refine wT (fP.of (r7.same s')) (fP.of (rx.same (s7.trans s'))) tl (oO I hi c).1 (fV I tn (aK Oo gR)) (fV I (CA I hi hcm) b40) ?_;intro q9 H9 hq9 e9 s9;exact k' _ H9 s9 ⟨hi,cX e9⟩
 have r8:aT H8 (((List.range W).map λi=>lO tot (sX (iS ss ps c i))).map fN) ys:=aT.ofRange Oo hr8;have sv:((List.range W).map λi=>lO tot (sX (iS ss ps c i))).map rv=kE W λv=>cL ps v*jL ss v c:=by
  unfold kE;rw [List.map_map];refine gD λi hi=>?_;have hi:=bU.mp hi;obtain ⟨d1,d2⟩:=oO I hi c;show rv (lO tot (sX (iS ss ps c i)))=_;rw [rV tl.pos (sW d1).pos,show sX (iS ss ps c i)=(-(iS ss ps c i).1,(iS ss ps c i).2) from rfl,FY,tvq,d2,<-Rat.sub_eq_add_neg];congr 1;exact cH λj hj=>(oO I hj c).2
 have sn:∀g∈(List.range W).map (λi=>lO tot (sX (iS ss ps c i))),Fn (lJ M Ns Nm Np Nc) (W*B+B) g:=λg hg=>by
  obtain ⟨i,hi,rfl⟩:=aQ.mp hg;exact tn.add (CA I (bU.mp hi) hcm).neg
 have S8:=(S6.trans s7).trans s8;have hD8':H D8=none:=(S6.trans s7).free hD8;refine ⟨_,rfl,?_⟩;refine rsT (ns:=ci c) (by rw [eK];exact jM.of (S8 _ _ hac)) ?_;rw [BR];refine ⟨λσ H'=>∃(o10 o11:Option V) (xs:List V) (gs:List Fr),σ=[some tv,some (.ref aa),some (.ref ap),some (.ref ac),some (.ref p),some (.ref D5),some (.ref D6),some v7,some (.ref D8),some (.int ((c.sum:Nat):Int)),o10,o11]/\aU H H'/\H' D8=some (.lst xs)/\aT H' (gs.map fN) xs/\aA7 (lJ M Ns Nm Np Nc) (smQ W F (jL ss) (cL mix) (cL ps) (cL cs) (M-c.sum) c) gs,?_,?_⟩
 ·rintro σ H9 ⟨o10,o11,xs,gs,rfl,S9,e9,r9,ok9⟩;exact ⟨_,rfl,k D8 xs gs H9 S9 hD8' e9 r9 ok9⟩
 refine ⟨_,rfl,_,rfl,?_⟩;refine mP (S8 _ _ haa) rfl ?_;refine ⟨_,_,rfl,rfl,_,rfl,?_⟩;refine rZ (λon=>?_) (λon=>?_)
 ·have hlt:c.sum<M:=Oo;have S86:aU H5 H8:=(s6.trans s7).trans s8;refine ⟨_,rfl,?_⟩;refine mP (S8 _ _ haa) rfl ?_;refine ⟨_,rfl,am,D5,vm,zs,rfl,S8 _ _ ham,S86 _ _ e5,?_⟩;refine oJ (xs:=vm) (ys:=zs) (λi y H'=>i<W/\cA H' (fN (iS ss mix c i)) y) (λi y H1 H2 s ⟨h1,h2⟩=>⟨h1,h2.flat s (cU _)⟩) Oo (S8 _ _ ham) (S86 _ _ e5) Oo (λi x y H' Q' hx hy s' k'=>?_) (λD9 us9 H9 hD9 e9 s9 hu9 hr9=>?_)
  ·obtain ⟨f1,hf1,rf1⟩:=rvm.atI hx;obtain ⟨hi,fy⟩:=hr5 i y hy;have e1:mix.getD i (0,1)=f1:=gQ hf1;refine ⟨_,rfl,_,rfl,?_⟩;have n1:=BZ I hi;rw [e1] at n1;refine eM (fP.of (rf1.same (S8.trans s'))) (fy.same (S86.trans s')).v n1.low (rF I hi c) (fV I n1 (aK Dd gR)) (fV I (wC I hi hcm) (aK Dd gR)) ?_;intro q7 H7 hq7 e7 s7;refine k' _ H7 s7 ⟨hi,cX ?_⟩;rw [e7];unfold iS;rw [e1]
  have r9:aT H9 (((List.range W).map (iS ss mix c)).map fN) us9:=aT.ofRange Oo hr9;have S9:=S8.trans s9;obtain ⟨ml,mv⟩:=vV (n:=W) (g:=iS ss mix c) λi hi=>(oN I hi c).1;have mn:∀g∈(List.range W).map (iS ss mix c),Fn (lJ M Ns Nm Np Nc) 1 g:=λg hg=>by
   obtain ⟨i,hi,rfl⟩:=aQ.mp hg;exact ET I (bU.mp hi) hcm
  refine iH e9 (pM.of r9) (yA I mn (by rw [aA,bD];omega) (aK Dd gR)) λv10 H10 s10 r10=>?_;have mtn:=Fn.tot _ mn;rw [aA,bD] at mtn;generalize hmet:lW ((List.range W).map (iS ss mix c))=met at r10 ml mv mtn;have S10:=S9.trans s10;refine ⟨_,rfl,?_⟩;refine jX (rc.same S10) (by have:=I.f4;omega) λD11 ms H11 hD11 e11 r11 s11=>?_;have S11:=S10.trans s11;have lms:ms.length=F:=by rw [r11.len,aA,aA,bD,hcl]
  refine ⟨D11,rfl,⟨_,fI.of e11⟩,?_⟩;refine gJ (λi y H'=>i<F/\cA H' (fN (HE F W M ss mix ps cs (bP c i))) y) (λi y H1 H2 s ⟨h1,h2⟩=>⟨h1,h2.flat s (cU _)⟩) (by have:=I.f4;omega) e11 (λi x H' Q' hx s' k'=>?_) (λD12 us H12 hD12 e12 s12 hy12 hr12=>?_)
  ·obtain ⟨d,hd,rd⟩:=dX r11 hx;have hi:i<F:=by rw [<-lms];exact (aI.mp hx).1
   have ed:d=bP c i:=by
    rw [aN,cK Oo] at hd;simpa using hd.symm
   subst ed;obtain ⟨ad,rfl,had⟩:=gK (rd.same s');obtain ⟨v,hv,rvv⟩:=kn hlt i hi;refine ⟨_,rfl,_,rfl,?_⟩;refine LL ((S11.trans s') _ _ hp) (by rw [eK];exact had) hv ?_;exact k' _ H' (aU.refl _) ⟨hi,rvv.same (S11.trans s')⟩
  have r12:aT H12 (((List.range F).map λi=>HE F W M ss mix ps cs (bP c i)).map fN) us:=aT.ofRange Oo hr12;have S12:=S11.trans s12;have wn:∀g∈(List.range F).map (λi=>HE F W M ss mix ps cs (bP c i)),Fn (lJ M Ns Nm Np Nc) (8^(M-c.sum)*B) g:=λg hg=>by
   obtain ⟨i,hi,rfl⟩:=aQ.mp hg;have hi:=bU.mp hi;refine Qn.fq ?_;have bs:=gB (c:=c) (j:=i) Oo;have:=I.worn (M-(bP c i).sum) (bP c i) (by rw [lD];exact hcl) Oo;rw [show M-(bP c i).sum+1=M-c.sum by omega] at this;exact this
  have b8:8^(M-c.sum)*B<=1000000000000:=by
   have:=JN I (n:=M-c.sum-1) (by have:=I.m5;omega)
   rwa [show M-c.sum-1+1=M-c.sum by omega] at this
  obtain ⟨wl,wv⟩:=vV (n:=F) (g:=λi=>HE F W M ss mix ps cs (bP c i)) λi hi=>bG _;refine iH e12 (pM.of r12) (yA I wn (by rw [aA,bD];have:=I.f4;omega) (aK b8 gR)) λv13 H13 s13 r13=>?_;have wtn:=Fn.tot _ wn;rw [aA,bD] at wtn;generalize htw:lW ((List.range F).map λi=>HE F W M ss mix ps cs (bP c i))=tw at r13 wl wv wtn;have S13:=S12.trans s13;have S8_13:aU H8 H13:=((((s9.trans s10).trans s11).trans s12).trans s13);obtain ⟨vkk,hvk,rvkk⟩:=fQ rvk (i:=c.sum) (f:=cs.getD c.sum (0,1)) (by rw [bM,aB (by rw [I.cl];exact hlt)];rfl);have cn:=JM I hlt;refine ⟨_,rfl,FF (S8_13 _ _ e8),_,rfl,?_⟩;refine mP (S13 _ _ haa) rfl ?_;refine ⟨_,rfl,?_⟩;refine mP (S13 _ _ hak) (dU hvk) ?_;refine ⟨_,rfl,?_⟩;have hp14:=I.paid hlt;have em:rv met=cD W λv=>cL mix v*jL ss v c:=by rw [mv];exact cH λj hj=>(oN I hj c).2
  have vpd:rv (iZ (cs.getD c.sum (0,1)) met)=cL cs c.sum*cD W λv=>cL mix v*jL ss v c:=by rw [iX cn.low.pos ml.pos,em];rfl
  have pdn:Fn (lJ M Ns Nm Np Nc) (4*B) (iZ (cs.getD c.sum (0,1)) met):=Qn.f (fZ cn.low ml) (by rw [vpd];exact hp14);refine eM (fP.of (rvkk.same S13)) (fP.of (((r10.same s11).same s12).same s13)) cn.low ml (fV I cn b40) (fV I mtn (aK Oo gR)) ?_;intro q14 H14 hq14 e14 s14;refine ⟨_,rfl,?_⟩;have f4:=I.f4;have fB:F*(8^(M-c.sum)*B)<=4*(8^(M-c.sum)*B):=bT _ f4;refine nR (fP.new (f:=iZ (cs.getD c.sum (0,1)) met) e14) (fP.of (r13.same s14)) pdn.low wl (fV I pdn (aK Oo gR)) (fV I wtn (aK (show _<=4000000000000 by omega) (aK (show 4000000000000<=2^50 by decide) (aJ Dd Dd)))) ?_;intro q15 H15 hq15 e15 s15;have e15D:=s15 _ _ (s14 _ _ (S8_13 _ _ e8));refine yL e15D Oo λH16 e16 b16=>?_;have t16:=b16.t e15D;have S15:=(S13.trans s14).trans s15;refine ⟨_,_,_,((List.range W).map λi=>lO tot (sX (iS ss ps c i)))++[lO (iZ (cs.getD c.sum (0,1)) met) tw],rfl,aU.thru hD8' S15 b16,e16,?_,?_,?_,?_,?_⟩
  ·rw [bE];exact aT.snoc (r8.flat (((S8_13.trans s14).trans s15).t.trans t16) (mJ _)) (cA.flat t16 (cU _) (cX e15))
  ·obtain ⟨n,hn⟩:∃n,M-c.sum=n+1:=⟨M-c.sum-1,Oo⟩;rw [bE,sv,hn];show _=kE W (λv=>cL ps v*jL ss v c)++[_];congr 1;rw [bL,List.map_nil];congr 1;rw [rV pdn.low.pos wl.pos,vpd,wv];congr 1;refine cH λj hj=>?_;rw [cW];unfold wor;rw [gB Oo,show M-(c.sum+1)=n by omega]
  ·intro g hg;rcases cE.mp hg with hg | hg
   ·exact (sn g hg).le Oo
   ·rw [aY.mp hg];refine (pdn.add wtn).le ?_;have b9:=JN I (n:=M-c.sum) (by have:=I.m5;omega);rw [Nat.pow_succ,Nat.mul_comm (8^_) 8,Nat.mul_assoc] at b9;have h1:1<=8^(M-c.sum):=Nat.one_le_pow _ _ Dd;have hB:B<=8^(M-c.sum)*B:=Nat.le_mul_of_pos_left _ h1;omega
  ·simp
  ·rw [aP,aA,bD];show W+1<=5;omega
 ·have e0:M-c.sum=0:=Oo;refine ⟨_,_,_,_,rfl,S8,e8,r8,?_,λg hg=>(sn g hg).le Oo,by rw [aA,bD];omega,by rw [aA,bD];omega⟩;rw [e0,sv];rfl
end
@[irreducible] def nO:Sp:=λvs H Q _=>∃(tv av pv:V) (fs:List Str) (ws:List (Str × List Fr)) (bs mix ps cs:List Fr) (F W M Ns Nm Np Nc B:Nat),vs=[tv,av,pv]/\cA H (pT fs ws) tv/\fs.length=F/\cA H (pL M bs mix cs) av/\cA H (rT ps) pv /\
 iN F W M (fW ws) mix ps cs Ns Nm Np Nc B/\(∀x∈ws,EW 10 x.2)/\∀v H',aU H H'->cA H' (woD (rise F M) (HE F W M (fW ws) mix ps cs)) v->Q v H'
theorem CQ{H:Hp}{Q:VK}{E:XK}{tv av pv:V}{fs:List Str}{ws:List (Str × List Fr)}{bs mix ps cs:List Fr}{F W M Ns Nm Np Nc B:Nat}(h1:cA H (pT fs ws) tv)(h0:fs.length=F)(h2:cA H (pL M bs mix cs) av)(h3:cA H (rT ps) pv)
  (I:iN F W M (fW ws) mix ps cs Ns Nm Np Nc B) (b:∀x∈ws,EW 10 x.2) (k:∀v H',aU H H'->cA H' (woD (rise F M) (HE F W M (fW ws) mix ps cs)) v->Q v H'):nO [tv,av,pv] H Q E:=by
 unfold nO;exact ⟨tv,av,pv,fs,ws,bs,mix,ps,cs,F,W,M,Ns,Nm,Np,Nc,B,rfl,h1,h0,h2,h3,I,b,k⟩
theorem rW:∀F,F<=4->∀M,M<=5->(rise F M).length<=400:=λF hF M hM=>uX F hF (M+1) Oo
section
theorem aCT(F:iV K "worths" "worths" SN f fd)(T:kD K mg c)
  (FQ15:eZ cS P w K mg base 6 "all_counts" ["faces","most"] rA) (FQ26:eZ cS P w K mg base 1 "faces_of" ["trial"] jJ) (FQ46:eZ cS P w K mg base 4 "sums_at" ["trial","aim","prices","counts","worth_of"] sJ) (FQ30:eZ cS P w K mg base 2 "least_place" ["some"] oA):dM P w K mg base cS 7 f fd ["trial","aim","prices"] nO:=by
 refine F.oky QR λvs H Q E h=>?_;unfold nO at h;obtain ⟨tv,av,pv,fs,ws,bs,mix,ps,cs,F,W,M,Ns,Nm,Np,Nc,B,rfl,rt,hF,ra,rp,I,hb,k⟩:=h;refine ⟨rfl,λcdv A outer s hr=>?_⟩;have f1:=I.f1;have f4:=I.f4;have m5:=I.m5;obtain ⟨aa,xb,xm,xc,rfl,haa,rxb,rxm,rxc⟩:=uZ ra;refine ⟨_,(aH (bJ (i:=3) QR.nd rfl (Or.inl rfl) (bH FQ15 (hr.mono Dd) (aG (bH FQ26 (hr.mono Dd) (aG (aD 0) aC)) (aG (bX bO (aD 1) aM (λ_ _=>rfl)) aC))))
  (aH (bJ (i:=4) QR.nd rfl (Or.inr rfl) lU)
  (aH (fD PassesOwn.never rfl (MS rfl T.b_reversed (aG (aD 3) aC)) (cT (i:=5) QR.nd rfl (Or.inl rfl)) (aH (bJ (i:=6) QR.nd rfl (Or.inl rfl) (bH FQ46 (hr.mono Dd) (aG (aD 0) (aG (aD 1) (aG (aD 2) (aG (aD 5) (aG (aD 4) aC)))))))
  (aX (iQ hr.u1 (aD 4) (aD 5) (bX bO (aD 6) (bH FQ30 (hr.mono Dd) (aG (aD 6) aC)) (λ_ _=>rfl))))))
  (aX (cB (kS dP (by rfl) T.b_tuple Kk (aG (fX (dJ.of (psc:=aO SN) (N:=["trial","aim","prices","rising","worth_of","counts","sums"]) (N':=["counts","worth_of"]) (js:=[4]) Kk rfl rfl rfl) (eI (aD 3)) (λ_ _ _ _=>cY) (λ_ _ _ _=>(dS (aG (aD 0) (aG (fU hr.u1 (aD 1) (aD 0)) aC))))) aC))))))),?_⟩
 refine ⟨_,rfl,?_⟩;refine oW rt ?_;rw [hF];refine ⟨_,rfl,?_⟩;refine mP haa rfl ?_;refine zH f1 f4 m5 λR H1 s1 hR LR=>?_;obtain ⟨vs,eR,rR,lR⟩:=LR.len;have eR:H1 R=some (.lst vs):=eR;have rR:aT H1 ((rise F M).map mL) vs:=rR;have lR:vs.length=(rise F M).length:=lR;have small:=rW F f4 M m5;intro p hp;have s2:=aU.upd (o:=.dT []) hp;have e2:(upd H1 p (.dT [])) p=some (.dT []):=bK;generalize upd H1 p (.dT [])=H2 at s2 e2;have S2:=s1.trans s2;have hp0:H p=none:=s1.free hp;have nRp:R≠p:=λz=>by rw [<-z,eR] at hp;cases hp
 refine ⟨_,rfl,R,vs,rfl,fI.of (s2 _ _ eR),?_⟩;refine IU (xs:=vs) (λi σ H'=>∃(o5 o6:Option V) (kvs:List (List eO × V)),σ=[some tv,some (.ref aa),some pv,some (.ref R),some (.ref p),o5,o6]/\aU H H'/\H' R=some (.lst vs)/\aT H' ((rise F M).map mL) vs/\H' p=some (.dT kvs)/\DW H' kvs ((rise F M).drop (vs.length-i)) (HE F W M (fW ws) mix ps cs)) ⟨_,_,[],rfl,S2,s2 _ _ eR,rR.same s2,e2,?_⟩ (λi σ H' _ q=>?_) ?_ ?_
 ·rw [Nat.sub_zero,lR,List.drop_length];exact ⟨λc hc=>(by cases hc),by simp⟩
 ·obtain ⟨_,_,_,_,_,h,_⟩:=q;exact fI.of h
 ·rintro i x σ H3 hi hx ⟨o5,o6,kvs,rfl,S3,eR3,rR3,e3,D3⟩;obtain ⟨c,hc,rc⟩:=dX rR3 hx;have hcm:=(iL f1).mp (aF hc);have dl:=D3.len;rw [List.length_drop] at dl;refine ⟨_,rfl,_,rfl,_,rfl,_,rfl,_,rfl,?_⟩;refine JY (rt.same S3) (ra.same S3) (rp.same S3) rc e3 I hb hcm.1 hcm.2 (λhlt j hj=>?_) λD xs gs H4 s4 hD e4 r4 ok4=>?_
  ·have bs:=gB (c:=c) (j:=j) Oo;have hin:bP c j∈rise F M:=(iL f1).mpr ⟨by rw [lD];exact hcm.1,Oo⟩;have:=vG hc hin Oo;rw [show vs.length-1-i+1=vs.length-i by omega] at this;exact D3.yes _ this
  have lg:∀g∈gs,cV g/\oP 4000 g:=λg hg=>⟨(ok4.n g hg).low,fV I (ok4.n g hg) gR⟩;refine ⟨_,rfl,_,rfl,?_⟩;refine CW e4 r4 lg ok4.l0 (by have:=ok4.l1;omega) λpl y L=>?_;obtain ⟨vy,hvy,ry⟩:=fQ r4 L.at_;refine PM e4 (dU hvy) ?_;have ey:y=HE F W M (fW ws) mix ps cs c:=by
   have e:=gS.min L λg hg=>(lg g hg).1;rw [ok4.v,<-MQ] at e;rw [<-QA (lg y (aF L.at_)).1,e];rfl
  obtain ⟨ac,rfl,hac⟩:=gK (rc.same s4);refine ⟨_,rfl,_,rfl,?_⟩;have e4p:=s4 _ _ e3;refine RK e4p (c:=ci c) (by rw [eK];exact hac) Oo λH5 e5 b5=>?_;have t5:=aR.tT b5 e4p;refine ⟨_,_,_,rfl,aU.thru hp0 (S3.trans s4) b5,b5.at nRp (s4 _ _ eR3),aT.flat t5 (kB _) (rR3.same s4),e5,?_⟩;have hd:(rise F M).drop (vs.length-(i+1))=c::(rise F M).drop (vs.length-i):=by
   have hc':=aI.mp hc;obtain ⟨hc1,hc2⟩:=hc';rw [show vs.length-(i+1)=vs.length-1-i by omega,List.drop_eq_getElem_cons hc1,hc2,show vs.length-1-i+1=vs.length-i by omega]
  rw [hd];refine DW.t t5 (DW.put (DW.t s4.t D3) ?_);rw [<-ey];exact ry
 ·rintro σ H3 ⟨o5,o6,kvs,rfl,S3,eR3,rR3,e3,D3⟩;rw [Nat.sub_self,List.drop_zero] at D3;refine ⟨_,rfl,R,rfl,⟨_,fI.of eR3⟩,?_⟩;refine gJ (λi y H'=>∃c,(rise F M)[i]?=some c/\cA H' (.tuple [mL c,fN (HE F W M (fW ws) mix ps cs c)]) y) (λi y Ha Hb s ⟨c,h1,h2⟩=>⟨c,h1,h2.flat s (by show (fM (mL c)&&(fM (fN _)&&true))=true;rw [mK];rfl)⟩) Oo eR3 (λi x H' Q' hx s' k'=>?_) (λD ys H4 hD e4 s4 hy4 hr4=>?_)
  ·obtain ⟨c,hc,rc⟩:=dX rR3 hx;obtain ⟨v,hv,rvv⟩:=D3.yes c (aF hc);have rc':=rc.same s';obtain ⟨ac,rfl,hac⟩:=gK rc';refine ⟨_,rfl,_,rfl,_,rfl,?_⟩;refine LL (s' _ _ e3) (c:=ci c) (by rw [eK];exact hac) hv ?_;refine rK (by show 2<=64;decide) λq5 H5 hq5 e5 s5=>?_;exact k' _ H5 s5 ⟨c,hc,cA.tup e5 (aT.cons (rc'.same s5) (aT.cons ((rvv.same s').same s5) aT.nil))⟩
  ·refine ⟨D,ys,rfl,.inl ⟨fI.of e4,λl hl=>?_⟩⟩;have sl:=aU.upd (o:=.tup ys) hl;have el:(upd H4 l (.tup ys)) l=some (.tup ys):=bK;generalize upd H4 l (.tup ys)=H5 at sl el;refine k _ H5 ((S3.trans s4).trans sl) (cA.tup el (aT.ofIdx (by rw [hy4,aA,lR]) λi y hi=>?_));obtain ⟨c,h1,h2⟩:=hr4 i y hi;exact ⟨_,by rw [aN,h1];rfl,h2.same sl⟩
end
abbrev sQ8:Stmt:=(top 58)
theorem cQ8:bS ["_law_one","_law_other"] ["_law_one","_law_other"] (aO sQ8):=⟨rfl,rfl,rfl,Kk,rfl,Kk,Kk⟩
abbrev ZS:Stmt:=(top 59)
theorem aD3:bS ["_law_one","_law_other"] ["_law_one","_law_other"] (aO ZS):=⟨rfl,rfl,rfl,Kk,rfl,Kk,Kk⟩
abbrev sQ2:Stmt:=(top 60)
theorem cQ2:bS ["_law_one","_law_other"] ["_law_one","_law_other"] (aO sQ2):=⟨rfl,rfl,rfl,Kk,rfl,Kk,Kk⟩
abbrev ZR:Stmt:=(top 61)
theorem WA:bS ["_law_some_here","_law_found","_law_one"] ["_law_some_here"] (aO ZR):=⟨rfl,rfl,rfl,Kk,rfl,Kk,Kk⟩
@[irreducible] def nV(K:PySem.W.Frag):Sp:=λvs H Q _=>∃x y f g,vs=[x,y]/\fP K H f x/\fP K H g y/\cV f/\cV g/\oP 4000 f/\oP 4000 g/\qR H Q (lO f g)
theorem mC{K:PySem.W.Frag}{H:Hp}{Q:VK}{E:XK}{x y:V}{f g:Fr}(h1:fP K H f x)(h2:fP K H g y)(l1:cV f)(l2:cV g)(z1:oP 4000 f)(z2:oP 4000 g)(q:qR H Q (lO f g)):nV K [x,y] H Q E:=by unfold nV;exact ⟨x,y,f,g,rfl,h1,h2,l1,l2,z1,z2,q⟩
@[irreducible] def nU(K:PySem.W.Frag):Sp:=λvs H Q _=>∃x y f g,vs=[x,y]/\fP K H f x/\fP K H g y/\cV f/\cV g/\oP 4000 f/\oP 4000 g/\qR H Q (iZ f g)
theorem mU{K:PySem.W.Frag}{H:Hp}{Q:VK}{E:XK}{x y:V}{f g:Fr}(h1:fP K H f x)(h2:fP K H g y)(l1:cV f)(l2:cV g)(z1:oP 4000 f)(z2:oP 4000 g)(q:qR H Q (iZ f g)):nU K [x,y] H Q E:=by unfold nU;exact ⟨x,y,f,g,rfl,h1,h2,l1,l2,z1,z2,q⟩
section
theorem oQ8(F:iV K "_law_plus" "_law_plus" sQ8 f fd)(T:kD K mg c)(FQ7:eZ cS P w K mg base 1 "_law_frac" ["_law_n","_law_d"] jY):dM P w K mg base cS 2 f fd ["_law_one","_law_other"] (nV K):=by
 refine F.oky cQ8 λvs H Q E h=>?_;unfold nV at h;obtain ⟨x,y,f,g,rfl,h1,h2,l1,l2,z1,z2,q⟩:=h;refine ⟨rfl,λcdv A outer s hr=>?_⟩;obtain ⟨p1,rfl,e1⟩:=h1;obtain ⟨p2,rfl,e2⟩:=h2;refine ⟨_,(aX (cB (bH FQ7 (hr.mono Dd) (aG (bV dY (bV dO (bX bO (aD 0) aM (λ_ _=>rfl)) (bX bO (aD 1) aM (λ_ _=>rfl))) (bV dO (bX bO (aD 1) aM (λ_ _=>rfl)) (bX bO (aD 0) aM (λ_ _=>rfl)))) (aG (bV dO (bX bO (aD 0) aM (λ_ _=>rfl)) (bX bO (aD 1) aM (λ_ _=>rfl))) aC))))),?_⟩;refine ⟨_,rfl,?_⟩;refine nF e1 rfl ?_;refine ⟨_,rfl,?_⟩;refine nF e2 rfl ?_;refine ⟨_,_,rfl,rfl,oE z1.1 z2.2,?_⟩;refine ⟨_,rfl,?_⟩;refine nF e2 rfl ?_;refine ⟨_,rfl,?_⟩;refine nF e1 rfl ?_;refine ⟨_,_,rfl,rfl,oE z2.1 z1.2,_,_,rfl,rfl,?_⟩;refine ⟨_,rfl,?_⟩;refine nF e1 rfl ?_;refine ⟨_,rfl,?_⟩;refine nF e2 rfl ?_;refine ⟨_,_,rfl,rfl,oE z1.2 z2.2,?_⟩;refine jI (Int.mul_pos l1.pos l2.pos) (jW (AI z1.2 z2.2)) ?_;exact q
theorem aDz(F:iV K "_law_times" "_law_times" ZS f fd)(T:kD K mg c)(FQ7:eZ cS P w K mg base 1 "_law_frac" ["_law_n","_law_d"] jY):dM P w K mg base cS 2 f fd ["_law_one","_law_other"] (nU K):=by
 refine F.oky aD3 λvs H Q E h=>?_;unfold nU at h;obtain ⟨x,y,f,g,rfl,h1,h2,l1,l2,z1,z2,q⟩:=h;refine ⟨rfl,λcdv A outer s hr=>?_⟩;obtain ⟨p1,rfl,e1⟩:=h1;obtain ⟨p2,rfl,e2⟩:=h2;refine ⟨_,(aX (cB (bH FQ7 (hr.mono Dd) (aG (bV dO (bX bO (aD 0) aM (λ_ _=>rfl)) (bX bO (aD 1) aM (λ_ _=>rfl))) (aG (bV dO (bX bO (aD 0) aM (λ_ _=>rfl)) (bX bO (aD 1) aM (λ_ _=>rfl))) aC))))),?_⟩;refine ⟨_,rfl,?_⟩;refine nF e1 rfl ?_;refine ⟨_,rfl,?_⟩;refine nF e2 rfl ?_;refine ⟨_,_,rfl,rfl,oE z1.1 z2.1,?_⟩;refine ⟨_,rfl,?_⟩;refine nF e1 rfl ?_;refine ⟨_,rfl,?_⟩;refine nF e2 rfl ?_;refine ⟨_,_,rfl,rfl,oE z1.2 z2.2,?_⟩;refine jI (Int.mul_pos l1.pos l2.pos) (jW (AI z1.2 z2.2)) ?_;exact q
end
@[irreducible] def nT(K:PySem.W.Frag):Sp:=λvs H Q _=>∃a xs fs,vs=[.ref a]/\H a=some (.lst xs)/\pM K H fs xs/\AA fs/\∀v H',aU H H'->cA H' (fN (lW fs)) v->Q v H'
theorem CV{K:PySem.W.Frag}{H:Hp}{Q:VK}{E:XK}{a:Addr}{xs:List V}{fs:List Fr}(h:H a=some (.lst xs))(r:pM K H fs xs)(ok:AA fs)(q:∀v H',aU H H'->cA H' (fN (lW fs)) v->Q v H'):nT K [.ref a] H Q E:=by unfold nT;exact ⟨a,xs,fs,rfl,h,r,ok,q⟩
section
theorem aDy(F:iV K "_law_total" "_law_total" ZR f fd)(T:kD K mg c)
  (FQ8:eZ cS P w K mg base 2 "_law_plus" ["_law_one","_law_other"] (nV K)):dM P w K mg base cS 3 f fd ["_law_some_here"] (nT K):=by
 refine F.oky WA λvs H Q E h=>?_;unfold nT at h;obtain ⟨a,vs,fs,rfl,ha,hv,ok,q⟩:=h;refine ⟨rfl,λcdv A outer s hr=>?_⟩;have hlen:=hv.len;refine ⟨_,(aH (bJ (i:=1) WA.nd rfl (Or.inl rfl) (dS (aG aM (aG aM aC))))
  (aH (fD PassesOwn.never rfl (eI (aD 0)) (cT (i:=2) WA.nd rfl (Or.inl rfl)) (aX (bJ (i:=1) WA.nd rfl (Or.inl rfl) (bH FQ8 (hr.mono Dd) (aG (aD 1) (aG (aD 2) aC))))))
  (aX (cB (aD 1))))),?_⟩
 refine rK (by show 2<=64;decide) λp0 H0 hp0 e0 s0=>?_;refine ⟨_,rfl,a,rfl,⟨_,fI.of (s0 _ _ ha)⟩,?_⟩;refine kA (xs:=vs) (λi σ H'=>∃w o2,σ=[some (.ref a),some w,o2]/\aU H H'/\cA H' (fN (lW (fs.take i))) w) ⟨_,_,rfl,s0,cX e0⟩ (λi σ H' _ p=>?_) ?_ ?_
 ·obtain ⟨w,o2,rfl,s1,_⟩:=p;exact fI.of (s1 _ _ ha)
 ·rintro i x σ H1 hx ⟨w,o2,rfl,s1,r1⟩;obtain ⟨g,hg,rg⟩:=hv.at_ i x hx;have hm:=aF hg;obtain ⟨t1,t2⟩:=ok.part i;refine ⟨_,rfl,_,rfl,?_⟩;refine mC (fP.of r1) (fP.same s1 rg) t1 (ok.low _ hm) t2 (ok.sz _ hm) ?_;intro p2 H2 hp2 e2 s2;refine ⟨_,_,rfl,s1.trans s2,?_⟩;rw [gY hg,nI];exact cX e2
 ·rintro σ H1 ⟨w,o2,rfl,s1,r1⟩;refine ⟨_,rfl,?_⟩;rw [hlen,cN] at r1;exact q _ H1 s1 r1
end
section
theorem oQ2(F:iV K "_law_below" "_law_below" sQ2 f fd)(T:kD K mg c):dM P w K mg base cS 1 f fd ["_law_one","_law_other"] (mV K):=by
 refine F.oky cQ2 λvs H Q E h=>?_;unfold mV at h;obtain ⟨x,y,f,g,rfl,⟨p1,rfl,e1⟩,⟨p2,rfl,e2⟩,z1,z2,q⟩:=h;refine ⟨rfl,λcdv A outer s hr=>?_⟩;refine ⟨_,(aX (cB (pS xD (bV dO (bX bO (aD 0) aM (λ_ _=>rfl)) (bX bO (aD 1) aM (λ_ _=>rfl))) (bV dO (bX bO (aD 1) aM (λ_ _=>rfl)) (bX bO (aD 0) aM (λ_ _=>rfl))) (nomark _)))),?_⟩;refine ⟨_,rfl,?_⟩;refine nF e1 rfl ?_;refine ⟨_,rfl,?_⟩;refine nF e2 rfl ?_;refine ⟨_,_,rfl,rfl,oE z1.1 z2.2,?_⟩;refine ⟨_,rfl,?_⟩;refine nF e2 rfl ?_;refine ⟨_,rfl,?_⟩;refine nF e1 rfl ?_;refine ⟨_,_,rfl,rfl,oE z2.1 z1.2,_,_,rfl,rfl,?_⟩;exact q
end
abbrev ZN:Stmt:=(top 45)
theorem VY:bS ["some","lower","one"] ["some"] (aO ZN):=⟨rfl,rfl,rfl,Kk,rfl,Kk,Kk⟩
abbrev YY:Stmt:=(top 46)
theorem aDQ:bS ["one","unit"] ["one","unit"] (aO YY):=⟨rfl,rfl,rfl,Kk,rfl,Kk,Kk⟩
@[irreducible] def lS(K:PySem.W.Frag):Sp:=λvs H Q _=>∃(a:Addr) (xs:List V) (fs:List Fr) (N:Nat),vs=[.ref a]/\H a=some (.lst xs)/\pM K H fs xs/\0<N/\N<2^3000/\(∀f∈fs,cV f/\f.2.natAbs ∣ N)/\∀L:Nat,0<L->L ∣ N->(∀f∈fs,f.2.natAbs ∣ L)->Q (.int (L:Int)) H
theorem qD{K:PySem.W.Frag}{H:Hp}{Q:VK}{E:XK}{a:Addr}{xs:List V}{fs:List Fr}{N:Nat}(h1:H a=some (.lst xs))(h2:pM K H fs xs)(h3:0<N)(h4:N<2^3000)(h5:∀f∈fs,cV f/\f.2.natAbs ∣ N)(k:∀L:Nat,0<L->L ∣ N->(∀f∈fs,f.2.natAbs ∣ L)->Q (.int (L:Int)) H):lS K [.ref a] H Q E:=by
 unfold lS;exact ⟨a,xs,fs,N,rfl,h1,h2,h3,h4,h5,k⟩
section
theorem aDq(F:iV K "common_lower" "common_lower" ZN f fd)(T:kD K mg c)(FQ20:eZ cS P w K mg base 1 "common_divisor" ["number","above_nought"] wU):dM P w K mg base cS 2 f fd ["some"] (lS K):=by
 refine F.oky VY λvs H Q E h=>?_;unfold lS at h;obtain ⟨a,xs,fs,N,rfl,ha,rx,n0,nz,hf,k⟩:=h;refine ⟨rfl,λcdv A outer s hr=>?_⟩;refine ⟨_,(aH (bJ (i:=1) VY.nd rfl (Or.inl rfl) aM)
  (aH (fD PassesOwn.never rfl (eI (aD 0)) (cT (i:=2) VY.nd rfl (Or.inl rfl)) (aX (bJ (i:=1) VY.nd rfl (Or.inl rfl) (bV dO (aD 1) (bV fL (bX bO (aD 2) aM (λ_ _=>rfl)) (bH FQ20 (hr.mono Dd) (aG (aD 1) (aG (bX bO (aD 2) aM (λ_ _=>rfl)) aC))))))))
  (aX (cB (aD 1))))),?_⟩
 refine ⟨_,rfl,a,rfl,⟨_,fI.of ha⟩,?_⟩;refine kA (xs:=xs) (λi σ H'=>∃(L:Nat) (o2:Option V),σ=[some (.ref a),some (.int (L:Int)),o2]/\H'=H/\0<L/\L ∣ N/\∀f∈fs.take i,f.2.natAbs ∣ L) ⟨1,_,rfl,rfl,Dd,Nat.one_dvd _,λf hf=>by simp at hf⟩ (λi σ H' _ q=>?_) ?_ ?_
 ·obtain ⟨_,_,_,rfl,_⟩:=q;exact fI.of ha
 ·rintro i x σ H2 hx ⟨L,o2,rfl,rfl,l0,lN,lf⟩;obtain ⟨g,hg,p1,rfl,e1⟩:=rx.at_ i x hx;obtain ⟨lg,gN⟩:=hf g (aF hg);have gp:=lg.pos;obtain ⟨d,hd⟩:∃d:Nat,g.2=(d:Int):=⟨g.2.toNat,Oo⟩;have hd':g.2.natAbs=d:=Oo;have d0:0<d:=Oo;rw [hd'] at gN;have lZ:L<2^3000:=bA (jU n0 lN) nz;have dZ:d<2^3000:=bA (jU n0 gN) nz;have eg:Int.gcd (L:Int) g.2=Nat.gcd L d:=by rw [hd];rfl
  have g0:0<Nat.gcd L d:=Nat.gcd_pos_of_pos_left _ l0;have gl:Nat.gcd L d<=d:=Nat.gcd_le_right _ d0;refine ⟨_,rfl,_,rfl,?_⟩;refine nF e1 rfl ?_;refine ⟨_,rfl,_,rfl,?_⟩;refine nF e1 rfl ?_;refine sQ gp ?_;rw [eg];have z3:(2:Nat)^3000<=2^4000:=aJ Dd Dd;have z9:(2:Nat)^3000<=2^9000:=aJ Dd Dd;have zq:(g.2/((Nat.gcd L d:Nat):Int)).natAbs<2^4000:=oV (by rw [hd'];exact aV dZ z3) Oo;refine ⟨_,_,rfl,rfl,qP Oo (by show (Nat.gcd L d)<_;exact bA gl (aV dZ z9)),_,_,rfl,rfl,oE (show (L:Int).natAbs<2^4000 from aV lZ z3) zq,?_⟩;have el:(L:Int)*(g.2/((Nat.gcd L d:Nat):Int))=((Nat.lcm L d:Nat):Int):=by
   rw [hd,<-Int.natCast_ediv,<-Int.natCast_mul];congr 1;unfold Nat.lcm;rw [Nat.mul_div_assoc _ (Nat.gcd_dvd_right L d)]
  refine ⟨Nat.lcm L d,_,by rw [<-el];rfl,rfl,Nat.lcm_pos l0 d0,Nat.lcm_dvd lN gN,λf' hf'=>?_⟩;rw [gY hg] at hf';rcases cE.mp hf' with h | h
  ·exact cC (lf f' h) (Nat.dvd_lcm_left _ _)
  ·rw [aY.mp h,hd'];exact Nat.dvd_lcm_right _ _
 ·rintro σ H2 ⟨L,o2,rfl,rfl,l0,lN,lf⟩;have lx:xs.length=fs.length:=rx.len;rw [lx,cN] at lf;exact ⟨_,rfl,k L l0 lN lf⟩
end
@[irreducible] def lP(K:PySem.W.Frag):Sp:=λvs H Q _=>∃(x:V) (f:Fr) (U:Nat),vs=[x,.int (U:Int)]/\fP K H f x/\cV f/\oP 4000 f/\U<2^3000/\f.2.natAbs ∣ U/\∀n:Int,(n:Rat)=rv f*(U:Rat)->Q (.int n) H
theorem vE{K:PySem.W.Frag}{H:Hp}{Q:VK}{E:XK}{x:V}{f:Fr}{U:Nat}(h1:fP K H f x)(h2:cV f)(h3:oP 4000 f)(h4:U<2^3000)(h5:f.2.natAbs ∣ U)(k:∀n:Int,(n:Rat)=rv f*(U:Rat)->Q (.int n) H):lP K [x,.int (U:Int)] H Q E:=by
 unfold lP;exact ⟨x,f,U,rfl,h1,h2,h3,h4,h5,k⟩
section
theorem aCZ(F:iV K "times_whole" "times_whole" YY f fd)(T:kD K mg c):dM P w K mg base cS 1 f fd ["one","unit"] (lP K):=by
 refine F.oky aDQ λvs H Q E h=>?_;unfold lP at h;obtain ⟨x,f,U,rfl,⟨p1,rfl,e1⟩,lf,zf,uz,hd,k⟩:=h;refine ⟨rfl,λcdv A outer s hr=>?_⟩;have fp:=lf.pos;obtain ⟨r,hr'⟩:=hd;have z3:(2:Nat)^3000<=2^4000:=aJ Dd Dd;have eU:(U:Int)=f.2*(r:Int):=by
  rw [hr',Int.natCast_mul];congr 1;omega
 refine ⟨_,(aX (cB (bV dO (bX bO (aD 0) aM (λ_ _=>rfl)) (bV fL (aD 1) (bX bO (aD 0) aM (λ_ _=>rfl)))))),?_⟩;refine ⟨_,rfl,?_⟩;refine nF e1 rfl ?_;refine ⟨_,rfl,_,rfl,?_⟩;refine nF e1 rfl ?_;refine ⟨_,_,rfl,rfl,qP fp (jW zf.2),_,_,rfl,rfl,oE zf.1 (oV (show (U:Int).natAbs<2^4000 from aV uz z3) fp),?_⟩;refine k _ ?_;rw [eU,Int.mul_ediv_cancel_left _ Oo];have h1:=sS fp;have h2:=kG fp;have h3:(U:Rat)=(f.2:Rat)*((r:Int):Rat):=by
  rw [<-Rat.intCast_mul,<-eU];rfl
 rw [h3,Rat.intCast_mul];grind
end
abbrev ZJ:Stmt:=(top 47)
theorem VT:bS ["rising","some","unit","table","counts","one"] ["rising","some","unit"] (aO ZJ):=⟨rfl,rfl,rfl,Kk,rfl,Kk,Kk⟩
structure vC(K:PySem.W.Frag)(H:Hp)(fs:List Fr)(xs:List V):Prop where
 len:xs.length=fs.length
 at_:∀(i:Nat) (x:V),xs[i]?=some x->∃f,fs[i]?=some f/\yF K H f x
theorem vC.t{K:PySem.W.Frag}{H H':Hp}{fs:List Fr}{xs:List V}(s:dC H H')(h:vC K H fs xs):vC K H' fs xs:=⟨h.len,λi x e=>by
 obtain ⟨f,h1,h2⟩:=h.at_ i x e;exact ⟨f,h1,h2.t s⟩⟩
theorem vC.v{K:PySem.W.Frag}{H:Hp}{fs:List Fr}{xs:List V}(h:vC K H fs xs):pM K H fs xs:=⟨h.len,λi x e=>by
 obtain ⟨f,h1,h2⟩:=h.at_ i x e;exact ⟨f,h1,h2.v⟩⟩
structure DI(kvs:List (List eO × V))(rs:List (List Nat))(h:List Nat->Rat):Prop where
 yes:∀c∈rs,∃n:Int,fG kvs (kT (ci c))=some (.int n)/\(n:Rat)=h c
 no:∀c,c ∉ rs->fG kvs (kT (ci c))=none
 len:kvs.length<=rs.length
theorem DI.put{kvs:List (List eO × V)}{rs:List (List Nat)}{h:List Nat->Rat}(D:DI kvs rs h){c:List Nat}{n:Int}(e:(n:Rat)=h c):DI (iY kvs (kT (ci c)) (.int n)) (rs++[c]) h:=by
 refine ⟨λd hd=>?_,λd hd=>?_,?_⟩
 ·rw [iC];by_cases q:d=c
  ·subst q;rw [if_pos rfl];exact ⟨n,rfl,e⟩
  ·rw [if_neg λz=>q (kO (kM z))];rcases cE.mp hd with hd | hd
   ·exact D.yes d hd
   ·exact absurd (aY.mp hd) q
 ·rw [iC,if_neg λz=>hd (bI _ (aY.mpr (kO (kM z))))];exact D.no d λz=>hd (bZ _ z)
 ·have:=eQ kvs (kT (ci c)) (V.int n);have:=D.len;rw [aP,List.length_singleton];omega
@[irreducible] def mE(K:PySem.W.Frag):Sp:=λvs H Q _=>∃(a b:Addr) (rs:List (List Nat)) (ys:List V) (g:List Nat->Fr) (U:Nat),vs=[.ref a,.ref b,.int (U:Int)]/\jN H a rs/\H b=some (.lst ys)/\vC K H (rs.map g) ys/\rs.length<=400/\U<2^3000/\(∀c∈rs,cV (g c)/\oP 4000 (g c)/\(g c).2.natAbs ∣ U)/\∀p kvs H',aU H H'->H p=none->H' p=some (.dT kvs)->DI kvs rs (λc=>rv (g c)*(U:Rat))->Q (.ref p) H'
theorem sM{K:PySem.W.Frag}{H:Hp}{Q:VK}{E:XK}{a b:Addr}{rs:List (List Nat)}{ys:List V}{g:List Nat->Fr}{U:Nat}(h1:jN H a rs)(h2:H b=some (.lst ys))(h3:vC K H (rs.map g) ys)(h4:rs.length<=400)(h5:U<2^3000)(h6:∀c∈rs,cV (g c)/\oP 4000 (g c)/\(g c).2.natAbs ∣ U)
  (k:∀p kvs H',aU H H'->H p=none->H' p=some (.dT kvs)->DI kvs rs (λc=>rv (g c)*(U:Rat))->Q (.ref p) H'):mE K [.ref a,.ref b,.int (U:Int)] H Q E:=by
 unfold mE;exact ⟨a,b,rs,ys,g,U,rfl,h1,h2,h3,h4,h5,h6,k⟩
section
theorem aDk(F:iV K "in_units" "in_units" ZJ f fd)(T:kD K mg c)(FQ48:eZ cS P w K mg base 1 "times_whole" ["one","unit"] (lP K)):dM P w K mg base cS 2 f fd ["rising","some","unit"] (mE K):=by
 refine F.oky VT λvs H Q E h=>?_;unfold mE at h;obtain ⟨a,b,rs,ys,g,U,rfl,LS,hb,rb,l4,uz,hg,k⟩:=h;refine ⟨rfl,λcdv A outer s hr=>?_⟩;obtain ⟨xs,ha,rx,lx⟩:=LS.len;refine ⟨_,(aH (bJ (i:=3) VT.nd rfl (Or.inl rfl) lU)
  (aH (fD PassesOwn.never rfl (pR false false rfl T.b_zip (aG (aD 0) (aG (aD 1) aC))) (rS rfl (fK (cT (i:=4) VT.nd rfl (Or.inl rfl)) (fK (cT (i:=5) VT.nd rfl (Or.inl rfl)) oT))) (aX (iQ hr.u1 (aD 3) (aD 4) (bH FQ48 (hr.mono Dd) (aG (aD 5) (aG (aD 2) aC))))))
  (aX (cB (aD 3))))),?_⟩
 intro p hp;have s1:=aU.upd (o:=.dT []) hp;have e1:(upd H p (.dT [])) p=some (.dT []):=bK;generalize upd H p (.dT [])=H1 at s1 e1;have nap:a≠p:=λz=>by rw [z,hp] at ha;cases ha
 have nbp:b≠p:=λz=>by rw [z,hp] at hb;cases hb
 refine ⟨_,rfl,_,rfl,?_⟩;refine ⟨a,b,xs,ys,rfl,s1 _ _ ha,s1 _ _ hb,?_⟩;refine BQ (xs:=xs) (ys:=ys) (λi σ H'=>∃(o4 o5:Option V) (kvs:List (List eO × V)),σ=[some (.ref a),some (.ref b),some (.int (U:Int)),some (.ref p),o4,o5]/\aR p H1 H'/\H' p=some (.dT kvs)/\DI kvs (rs.take i) (λc=>rv (g c)*(U:Rat))) ⟨_,_,[],rfl,(aU.refl _).but,e1,⟨λc hc=>by simp at hc,λc _=>rfl,cG _⟩⟩ (λi σ H' ⟨_,_,_,_,b',_⟩=>?_) ?_ ?_
 ·exact ⟨b'.at nap (s1 _ _ ha),b'.at nbp (s1 _ _ hb)⟩
 ·rintro i y z q3 σ H3 H4 hy hz ⟨o4,o5,kvs,rfl,b3,e3,D3⟩ hq3 e4 s4;obtain ⟨cc,hc,rc⟩:=dX rx hy;obtain ⟨f',hf',fw⟩:=rb.at_ i z hz;have ef:f'=g cc:=by rw [aN,hc] at hf';simpa using hf'.symm
  subst ef;obtain ⟨lg,zg,dg⟩:=hg cc (aF hc);have t3:dC H1 H3:=aR.tT b3 e1;have t04:dC H H4:=(s1.t.trans t3).trans s4.t;obtain ⟨ac,rfl,hac⟩:=gK (rc.flat t04 (mK _));refine ⟨q3,_,rfl,jM.of e4,rfl,_,_,rfl,_,_,rfl,rfl,?_⟩;refine ⟨_,rfl,_,rfl,?_⟩;refine vE (fw.t t04).v lg zg uz dg λn hn=>?_;refine ⟨_,rfl,_,rfl,?_⟩;have l3:=D3.len;rw [fA] at l3;refine RK (s4 _ _ e3) (c:=ci cc) (by rw [eK];exact hac) Oo λH5 e5 b5=>?_;refine ⟨_,_,_,rfl,(b3.trans s4.but).trans b5,e5,?_⟩;rw [gY hc];exact D3.put hn
 ·rintro σ H3 ⟨o4,o5,kvs,rfl,b3,e3,D3⟩;have ly:ys.length=rs.length:=by rw [rb.len,aA]
  rw [show min xs.length ys.length=rs.length by omega,cN] at D3;exact ⟨_,rfl,k p kvs H3 (aU.thru hp s1 b3) hp e3 D3⟩
end
abbrev SY:Stmt:=(top 48)
theorem aCe:bS ["trial","aim","counts","met"] ["trial","aim","counts"] (aO SY):=⟨rfl,rfl,rfl,Kk,rfl,Kk,Kk⟩
def GJ(W:Nat)(ss:List (List Fr))(mix cs:List Fr)(c:List Nat):Rat:=cL cs c.sum*cD W λw=>cL mix w*jL ss w c
theorem JL{F W M:Nat}{ss:List (List Fr)}{mix ps cs:List Fr}{Ns Nm Np Nc B:Nat}(I:iN F W M ss mix ps cs Ns Nm Np Nc B){c:List Nat}(hc:c.sum<M):Fn (lJ M Ns Nm Np Nc) (B*4) (eS (GJ W ss mix cs c)):=by
 have h1:=(I.co _ (eG (a:=(0,1)) (show c.sum<cs.length by rw [I.cl];exact hc))).q;have h2:=Qn.sumR (n:=W) λw hw=>I.met hw (Nat.le_of_lt hc);have h3:=(h1.mul h2).le (iU B (show W*1<=4 by have:=I.w4;omega));exact (h3.dvd ⟨Np,by unfold lJ;ac_rfl⟩).fq
@[irreducible] def kY:Sp:=λvs H Q _=>∃(tv av cv:V) (fs:List Str) (ws:List (Str × List Fr)) (bs mix ps cs:List Fr) (c:List Nat) (F W M Ns Nm Np Nc B:Nat),vs=[tv,av,cv]/\cA H (pT fs ws) tv/\cA H (pL M bs mix cs) av/\cA H (mL c) cv/\iN F W M (fW ws) mix ps cs Ns Nm Np Nc B/\(∀x∈ws,EW 10 x.2)/\c.sum<M/\∀v H',aU H H'->cA H' (fN (eS (GJ W (fW ws) mix cs c))) v->Q v H'
theorem yI{H:Hp}{Q:VK}{E:XK}{tv av cv:V}{fs:List Str}{ws:List (Str × List Fr)}{bs mix ps cs:List Fr}{c:List Nat}{F W M Ns Nm Np Nc B:Nat}(h1:cA H (pT fs ws) tv)(h2:cA H (pL M bs mix cs) av)(h3:cA H (mL c) cv)(I:iN F W M (fW ws) mix ps cs Ns Nm Np Nc B)(b:∀x∈ws,EW 10 x.2)(hc:c.sum<M)(k:∀v H',aU H H'->cA H' (fN (eS (GJ W (fW ws) mix cs c))) v->Q v H'):kY [tv,av,cv] H Q E:=by
 unfold kY;exact ⟨tv,av,cv,fs,ws,bs,mix,ps,cs,c,F,W,M,Ns,Nm,Np,Nc,B,rfl,h1,h2,h3,I,b,hc,k⟩
section
theorem aDf(F:iV K "look_cost" "look_cost" SY f fd)(T:kD K mg c)(FQ47:eZ cS P w K mg base 2 "times" ["one","other"] (fR K))(FQ52:eZ cS P w K mg base 3 "weight" ["trial","way","counts"] (jP K))(FQ51:eZ cS P w K mg base 1 "ways_of" ["trial"] iR)(FQ49:eZ cS P w K mg base 3 "total" ["some"] (jB K)):dM P w K mg base cS 4 f fd ["trial","aim","counts"] kY:=by
 refine F.oky aCe λvs H Q E h=>?_;unfold kY at h;obtain ⟨tv,av,cv,fs,ws,bs,mix,ps,cs,cc,F,W,M,Ns,Nm,Np,Nc,B,rfl,rt,ra,rc,I,hbo,hc,k⟩:=h;refine ⟨rfl,λcdv A outer s hr=>?_⟩;obtain ⟨aa,xb,xm,xc,rfl,haa,rxb,rxm,rxc⟩:=uZ ra;obtain ⟨am,vm,rfl,ham,rvm⟩:=jK rxm;obtain ⟨ac,vc,rfl,hac,rvc⟩:=jK rxc;obtain ⟨cu,rfl,hcu⟩:=gK rc;have wl:ws.length=W:=by have:=I.sl;rw [aA] at this;exact this
 have w4:=I.w4;have m5:=I.m5;refine ⟨_,(aH (iB (i:=3) (dJ.of (psc:=aO SY) (N:=["trial","aim","counts","met"]) (N':=["way","trial","aim","counts"]) (js:=[0,1,2]) Kk rfl rfl rfl) aCe.nd rfl rfl (dG rfl T.b_range (aG (bH FQ51 (hr.mono Dd) (aG (aD 0) aC)) aC)) (λ_ _ _ _=>cY) (λ_ _ _ _=>(bH FQ47 (hr.mono Dd) (aG (bX (jE K) (bX (jE K) (aD 2) aM (λ_ _=>rfl)) (aD 0) (λ_ _=>rfl)) (aG (bH FQ52 (hr.mono Dd) (aG (aD 1) (aG (aD 0) (aG (aD 3) aC)))) aC)))))
  (aX (cB (bH FQ47 (hr.mono Dd) (aG (bX bO (bX bO (aD 1) aM (λ_ _=>rfl)) (jO (wA K rfl) (by rfl) T.b_sum Kk (aG (aD 2) aC)) (λ_ _=>rfl)) (aG (bH FQ49 (hr.mono Dd) (aG (aD 3) aC)) aC)))))),?_⟩
 refine ⟨_,rfl,?_⟩;refine kW rt ?_;rw [wl];refine ⟨_,rfl,Oo,Oo,?_⟩;refine jR (λi y H'=>i<W/\cA H' (fN (iS (fW ws) mix cc i)) y) (λi y H1 H2 s ⟨h1,h2⟩=>⟨h1,h2.flat s (cU _)⟩) Oo (λi H' Q' hi s' k'=>?_) (λD ys H1 hD e1 s1 hy hr1=>?_)
 ·have hi:i<W:=Oo;obtain ⟨x,hx⟩:∃x,ws[i]?=some x:=⟨_,aB (by rw [wl];exact hi)⟩;have hxm:=aF hx;obtain ⟨g,hg⟩:∃g,mix[i]?=some g:=⟨_,aB (by rw [I.ml];exact hi)⟩;obtain ⟨vg,hvg,rvg⟩:=fQ rvm hg;rw [Int.zero_add];refine ⟨_,rfl,?_⟩;refine mP (s' _ _ haa) rfl ?_;refine ⟨_,rfl,?_⟩;refine mP (s' _ _ ham) (dU hvg) ?_;refine ⟨_,rfl,_,rfl,_,rfl,?_⟩;refine mT (rt.same s') hx (rc.same s') (hbo x hxm) Oo λxw H2 s2 fw=>?_;have eg:mix.getD i (0,1)=g:=gQ hg;have ex:(fW ws).getD i []=x.2:=gQ (by rw [aN,hx];rfl);have n1:=BZ I hi;have n2:=wC I hi (Nat.le_of_lt hc);rw [eg] at n1;rw [ex] at n2;refine eM (fP.of ((rvg.same s').same s2)) fw.v n1.low n2.low (fV I n1 (aK (show 1<=1000000000000 by decide) gR)) (fV I n2 (aK (show 1<=1000000000000 by decide) gR)) λq3 H3 hq3 e3 s3=>?_;refine k' _ H3 (s2.trans s3) ⟨hi,cX ?_⟩;unfold iS;rw [e3,eg,ex]
 have r1:aT H1 (((List.range W).map (iS (fW ws) mix cc)).map fN) ys:=aT.ofRange Oo hr1;have fl:∀f∈(List.range W).map (iS (fW ws) mix cc),Fn (lJ M Ns Nm Np Nc) 1 f:=λf hf=>by
  obtain ⟨i,hi,rfl⟩:=aQ.mp hf;exact ET I (bU.mp hi) (Nat.le_of_lt hc)
 obtain ⟨tl,tvq⟩:=vV (n:=W) (g:=iS (fW ws) mix cc) λi hi=>(oN I hi cc).1;have tn:Fn (lJ M Ns Nm Np Nc) 4 (lW ((List.range W).map (iS (fW ws) mix cc))):=by
  have:=Fn.tot _ fl;rw [aA,bD] at this;exact this.le Oo
 obtain ⟨gc,hgc⟩:∃g,cs[cc.sum]?=some g:=⟨_,aB (by rw [I.cl];exact hc)⟩;obtain ⟨vgc,hvgc,rvgc⟩:=fQ rvc hgc;have egc:cs.getD cc.sum (0,1)=gc:=gQ hgc;have n5:=JM I hc;rw [egc] at n5;refine ⟨_,rfl,?_⟩;refine mP (s1 _ _ haa) rfl ?_;refine ⟨_,rfl,?_⟩;refine rsT (ns:=ci cc) (by rw [eK];exact jM.of (s1 _ _ hcu)) ?_;rw [BR];refine mP (s1 _ _ hac) (dU hvgc) ?_;refine ⟨_,rfl,?_⟩;refine iH e1 (pM.of r1) (mO fl I.pos I.sz (by rw [aA,bD];omega) (aK (show 1<=1000000000000 by decide) gR)) λv2 H2 s2 r2=>?_;have hB:=I.b;refine eM (fP.of ((rvgc.same s1).same s2)) (fP.of r2) n5.low tl (fV I n5 (aK (show B<=1000000000000 by omega) gR)) (fV I tn (aK (show 4<=1000000000000 by decide) gR)) λq3 H3 hq3 e3 s3=>?_;refine k _ H3 ((s1.trans s2).trans s3) (cX ?_);rw [e3];have em:iZ gc (lW ((List.range W).map (iS (fW ws) mix cc)))=eS (GJ W (fW ws) mix cs cc):=gZ (fZ n5.low tl) (bG _) (by
  rw [iX n5.low.pos tl.pos,cW,tvq];unfold GJ;rw [show cL cs cc.sum=rv gc by unfold cL;rw [egc]];congr 1;exact cH λi hi=>(oN I hi cc).2)
 rw [em]
end
theorem IT{H:Hp}:∀{P:Nat->Fr->Prop}{ys:List V},(∀(i:Nat) (y:V),ys[i]?=some y->∃f,cA H (fN f) y/\P i f)->∃fs:List Fr,fs.length=ys.length/\aT H (fs.map fN) ys/\∀(i:Nat) (f:Fr),fs[i]?=some f->P i f
 | P,[],_=>⟨[],rfl,aT.nil,λi f h=>by simp at h⟩
 | P,y::ys,h=>by
  obtain ⟨f,h1,h2⟩:=h 0 y rfl;obtain ⟨fs,g1,g2,g3⟩:=IT (P:=λi=>P (i+1)) (ys:=ys) λi z hz=>h (i+1) z (by simpa using hz);refine ⟨f::fs,by rw [bQ,bQ,g1],aT.cons h1 g2,λi g hg=>?_⟩;cases i with
  | zero=>cases (show f=g by simpa using hg);exact h2
  | succ i=>exact g3 i g (by simpa using hg)
theorem wH{fs:List Fr}{i:Nat}{f:Fr}(h:fs[i]?=some f):cL fs i=rv f:=by unfold cL;rw [gQ h]
theorem SA{fs:List Fr}{i:Nat}(h:fs.length<=i):cL fs i=0:=by
 unfold cL;rw [bM,dF h];exact oX
theorem TrC.b{F W:Nat}{fs:List Str}{ws:List (Str × List Fr)}(T:TrC F W fs ws):∀x∈ws,EW 10 x.2:=λx hx =>
 ⟨λf hf=>((T.sh x hx).at f hf).1.low,λf hf=>by have:=(T.sh x hx).bits f hf;show f.1.natAbs<=1024;omega,λf hf=>by have:=(T.sh x hx).bits f hf;show f.2.natAbs<=1024;omega⟩
theorem xQ{α:Type}(l:List α):l.filter (λ_=>true)=l:=List.filter_eq_self.mpr λ_ _=>rfl
theorem xC{H:Hp}{α:Type}{g:α->Fr}{as:List α}{ys:List V}(pr:Paired (λa y=>cA H (fN (g a)) y) as ys):aT H ((as.map g).map fN) ys:=by
 rw [List.map_map];exact Paired.toRepL pr
theorem n45{M Np Nc:Nat}(hM:M<=5)(p1:0<Np)(p2:Np<=1000000000000000)(c1:0<Nc)(c2:Nc<=1000000000000000):0<lJ M fC fC Np Nc/\lJ M fC fC Np Nc<2^300:=by
 refine ⟨mQ (mQ (mQ p1 c1) Dd) (Nat.pow_pos Dd),?_⟩;have h1:fC^M<=fC^5:=aJ Dd hM;have h2:lJ M fC fC Np Nc<=1000000000000000*1000000000000000*fC*fC^5:=Nat.mul_le_mul (bT _ (Nat.mul_le_mul p2 c2)) h1;have h3:1000000000000000*1000000000000000*fC*fC^5<2^300:=Kk;omega
structure jT(H:Hp)(tv av pv:V)(fs:List Str)(ws:List (Str × List Fr))(bs mix ps cs:List Fr)(F W M:Nat):Prop where
 rt:cA H (pT fs ws) tv
 ra:cA H (pL M bs mix cs) av
 rp:cA H (rT ps) pv
 T:TrC F W fs ws
 f:2<=F/\F<=4
 w:2<=W/\W<=4
 m:M<=5/\(rise F M).length<=20
 bl:bs.length=W
 b:∀f∈bs,FnP 27720 1 f
 mx:FA W mix
 pl:ps.length=W
 p:∀f∈ps,EZ f
 cl:cs.length=M
 c:∀f∈cs,EZ f
section
variable{H H':Hp}{tv av pv:V}{fs:List Str}{ws:List (Str × List Fr)}{bs mix ps cs:List Fr}{F W M:Nat}
theorem jT.t(s:dC H H')(I:jT H tv av pv fs ws bs mix ps cs F W M):jT H' tv av pv fs ws bs mix ps cs F W M :=
 ⟨I.rt.flat s (lV _ _),I.ra.flat s (vA _ _ _ _),I.rp.flat s (kZ _),I.T,I.f,I.w,I.m,I.bl,I.b,I.mx,I.pl,I.p,I.cl,I.c⟩
theorem jT.n(I:jT H tv av pv fs ws bs mix ps cs F W M):0<lJ M fC fC (dens ps) (dens cs)/\lJ M fC fC (dens ps) (dens cs)<2^300 :=
 n45 I.m.1 (qQ I.p) (tF I.p (by have:=I.pl;have:=I.w;omega)) (qQ I.c) (tF I.c (by have:=I.cl;have:=I.m;omega))
theorem jT.wo(I:jT H tv av pv fs ws bs mix ps cs F W M):iN F W M (fW ws) mix ps cs fC fC (dens ps) (dens cs) 999 where
 f1:=by have:=I.f;omega
 f4:=I.f.2
 w1:=by have:=I.w;omega
 w4:=I.w.2
 m5:=I.m.1
 sl:=by rw [aA];exact I.T.w
 ml:=I.mx.len
 pl:=I.pl
 cl:=I.cl
 sh:=λs hs=>by
  obtain ⟨x,hx,rfl⟩:=aQ.mp hs;exact ⟨(I.T.sh x hx).len,λf hf=>((I.T.sh x hx).at f hf).1⟩
 mx:=λf hf=>(I.mx.at f hf).1
 pr:=pG I.p
 co:=pG I.c
 pos:=I.n.1
 sz:=aV I.n.2 (aJ Dd Dd)
 b:=Dd
end
abbrev TC:Stmt:=(VD (top 44) 0)
theorem cQ0:bS ["self","trial","aim","way","weights","ahead","costs"] ["self","trial","aim"] (aO TC):=⟨rfl,rfl,rfl,Kk,rfl,Kk,Kk⟩
theorem Fn.dn{N B:Nat}{f:Fr}(h:Fn N B f)(hN:0<N):f.2.natAbs ∣ N:=by
 obtain ⟨x,rfl,_⟩:=h.eq hN;unfold lw;show ((N:Int)/((Int.gcd x (N:Int):Nat):Int)).natAbs ∣ N;rw [<-Int.natCast_ediv,Int.natAbs_natCast];refine Nat.div_dvd_of_dvd ?_;have:=Int.gcd_dvd_right (a:=x) (b:=(N:Int));exact Int.ofNat_dvd.mp this
theorem lkS{fl:List (Str × V)}{f:Str}{v:V}:(eC f v fl).lookup f=some v:=by rw [mY,if_pos rfl]
theorem RJ{fl:List (Str × V)}{f g:Str}{v u:V}(h:g≠f)(l:fl.lookup g=some u):(eC f v fl).lookup g=some u:=by rw [mY,if_neg h];exact l
theorem aR.tI{H H':Hp}{x C dx:Addr}{fl:List (Str × V)}(s:aR x H H')(hx:H x=some (.ins C dx fl)):dC H H':=λb ys h=>s.at (oC h hx (by intro z;cases z)) h
theorem jN.but{H H':Hp}{x C dx:Addr}{fl:List (Str × V)}{a:Addr}{cs:List (List Nat)}(s:aR x H H')(hx:H x=some (.ins C dx fl))(h:jN H a cs):jN H' a cs:=by
 obtain ⟨vs,h1,h2⟩:=h;exact ⟨vs,s.at (oC h1 hx (by intro z;cases z)) h1,h2.flat (aR.tI s hx) (kB _)⟩
theorem jN.butL{H H':Hp}{x:Addr}{xs:List V}{a:Addr}{cs:List (List Nat)}(s:aR x H H')(hx:H x=some (.lst xs))(n:a≠x)(h:jN H a cs):jN H' a cs:=by
 obtain ⟨vs,h1,h2⟩:=h;exact ⟨vs,s.at n h1,h2.flat (s.t hx) (kB _)⟩
def rQ(H:Hp)(tas:List Addr)(ss:List (List Fr))(rs:List (List Nat))(us:List Nat):Prop:=tas.length=us.length/\∀(i:Nat) (ta:Addr) (u:Nat),tas[i]?=some ta->us[i]?=some u->∃kvs,H ta=some (.dT kvs)/\DI kvs rs (λc=>jL ss i c*(u:Rat))
theorem rQ.mono{H H':Hp}{tas:List Addr}{ss:List (List Fr)}{rs:List (List Nat)}{us:List Nat}(s:∀b kvs,H b=some (.dT kvs)->H' b=some (.dT kvs))(h:rQ H tas ss rs us):rQ H' tas ss rs us:=⟨h.1,λi ta u h1 h2=>by
 obtain ⟨kvs,g1,g2⟩:=h.2 i ta u h1 h2;exact ⟨kvs,s _ _ g1,g2⟩⟩
theorem rQ.snoc{H:Hp}{tas:List Addr}{ss:List (List Fr)}{rs:List (List Nat)}{us:List Nat}{p:Addr}{u:Nat}{kvs:List (List eO × V)}(h:rQ H tas ss rs us)(hp:H p=some (.dT kvs))(D:DI kvs rs (λc=>jL ss us.length c*(u:Rat))):rQ H (tas++[p]) ss rs (us++[u]):=by
 refine ⟨by rw [aP,aP,h.1];rfl,λi ta v h1 h2=>?_⟩;by_cases q:i<us.length
 ·rw [cM (by rw [h.1];exact q)] at h1;rw [cM q] at h2;exact h.2 i ta v h1 h2
 ·have li:=(aI.mp h2).1;rw [aP,List.length_singleton] at li;have ei:i=us.length:=Oo;subst ei;rw [cI (aL _),Nat.sub_self] at h2;rw [cI (by rw [h.1];exact aL _),h.1,Nat.sub_self] at h1;cases h1;cases h2;exact ⟨kvs,hp,D⟩
def ahd(F M:Nat):List (List Nat):=(rise F M).filter λc=>decide (c.sum<M)
structure yB(H:Hp)(x C:Addr)(F W M:Nat)(ss:List (List Fr))(mix cs:List Fr)(us:List Nat)(cu:Nat):Prop where
 ul:us.length=W
 ex:∃(dx:Addr) (fl:List (Str × V)) (ra ua wa ca:Addr) (tas:List Addr) (kvs:List (List eO × V)),H x=some (.ins C dx fl)/\fl.lookup ("rising" : Str)=some (.ref ra)/\fl.lookup ("units" : Str)=some (.ref ua)/\fl.lookup ("weights" : Str)=some (.ref wa)/\fl.lookup ("cost_unit" : Str)=some (.int (cu:Int))/\fl.lookup ("costs" : Str)=some (.ref ca) /\
  jN H ra (rise F M)/\H ua=some (.lst (us.map EY))/\H wa=some (.lst (tas.map V.ref))/\rQ H tas ss (rise F M) us/\H ca=some (.dT kvs)/\DI kvs (ahd F M) (λc=>GJ W ss mix cs c*(cu:Rat))
theorem yB.same{H H':Hp}{x C:Addr}{F W M:Nat}{ss:List (List Fr)}{mix cs:List Fr}{us:List Nat}{cu:Nat}(s:aU H H')(h:yB H x C F W M ss mix cs us cu):yB H' x C F W M ss mix cs us cu:=by
 obtain ⟨ul,dx,fl,ra,ua,wa,ca,tas,kvs,a0,a1,a2,a3,a4,a5,a6,a7,a8,a9,a10,a11⟩:=h;exact ⟨ul,dx,fl,ra,ua,wa,ca,tas,kvs,s _ _ a0,a1,a2,a3,a4,a5,a6.same s,s _ _ a7,s _ _ a8,a9.mono λb k g=>s _ _ g,s _ _ a10,a11⟩
structure QZ(ws:List (Str × List Fr))(bs:List Fr)(F W M Ns Nm Np Nc B Nb:Nat)(mix ps cs:List Fr):Prop where
 wo:iN F W M (fW ws) mix ps cs Ns Nm Np Nc B
 bo:∀x∈ws,EW 10 x.2
 bl:bs.length=W
 bb:∀f∈bs,Fn Nb 1 f
 nb:0<Nb
 sz:lJ M Ns Nm Np Nc*Nb<2^3000
@[irreducible] def qY(C:Addr):Sp:=λvs H Q _=>∃(x dx:Addr) (tv av:V) (fs:List Str) (ws:List (Str × List Fr)) (bs mix ps cs:List Fr) (F W M Ns Nm Np Nc B Nb:Nat),vs=[.ref x,tv,av]/\H x=some (.ins C dx [])/\cA H (pT fs ws) tv/\fs.length=F/\cA H (pL M bs mix cs) av/\QZ ws bs F W M Ns Nm Np Nc B Nb mix ps cs /\
 ∀us cu H',aR x H H'->yB H' x C F W M (fW ws) mix cs us cu->(∀u∈us,0<u/\u ∣ Ns^M*Nb)->0<cu->cu ∣ lJ M Ns Nm Np Nc->Q .non H'
theorem JX{C:Addr}{H:Hp}{Q:VK}{E:XK}{x dx:Addr}{tv av:V}{fs:List Str}{ws:List (Str × List Fr)}{bs mix ps cs:List Fr}{F W M Ns Nm Np Nc B Nb:Nat}(h0:H x=some (.ins C dx []))(h1:cA H (pT fs ws) tv)(h2:fs.length=F)(h3:cA H (pL M bs mix cs) av)(h4:QZ ws bs F W M Ns Nm Np Nc B Nb mix ps cs)
  (k:∀us cu H',aR x H H'->yB H' x C F W M (fW ws) mix cs us cu->(∀u∈us,0<u/\u ∣ Ns^M*Nb)->0<cu->cu ∣ lJ M Ns Nm Np Nc->Q .non H'):qY C [.ref x,tv,av] H Q E:=by
 unfold qY;exact ⟨x,dx,tv,av,fs,ws,bs,mix,ps,cs,F,W,M,Ns,Nm,Np,Nc,B,Nb,rfl,h0,h1,h2,h3,h4,k⟩
section
theorem oQ0(F:iV K "__init__" "Weighing.__init__" TC f fd)(T:kD K mg c)(FQ15:eZ cS P w K mg base 6 "all_counts" ["faces","most"] rA)(FQ26:eZ cS P w K mg base 1 "faces_of" ["trial"] jJ)
  (FQ51:eZ cS P w K mg base 1 "ways_of" ["trial"] iR) (FQ52:eZ cS P w K mg base 3 "weight" ["trial","way","counts"] (jP K)) (FQ21:eZ cS P w K mg base 2 "common_lower" ["some"] (lS K)) (FQ27:eZ cS P w K mg base 2 "in_units" ["rising","some","unit"] (mE K))
  (FQ32:eZ cS P w K mg base 4 "look_cost" ["trial","aim","counts"] kY):dM P w K mg base cS 7 f fd ["self","trial","aim"] (qY c.Weighing):=by
 refine F.oky cQ0 λvs H Q E h=>?_;unfold qY at h;obtain ⟨x,dx,tv,av,fs,ws,bs,mix,ps,cs,F,W,M,Ns,Nm,Np,Nc,B,Nb,rfl,hx,rt,hF,ra,G,k⟩:=h;refine ⟨rfl,λcdv A outer s hr=>?_⟩;have I:=G.wo;have f1:=I.f1;have f4:=I.f4;have m5:=I.m5;have w4:=I.w4;have O:=T.w_Weighing;have wl:ws.length=W:=by have:=I.sl;rw [aA] at this;exact this
 obtain ⟨aa,xb,xm,xc,rfl,haa,rxb,rxm,rxc⟩:=uZ ra;obtain ⟨ab,vb,rfl,hab,rvb⟩:=jK rxb;have small:=rW F f4 M m5;have nsp:0<Ns^M*Nb:=mQ (by
  have:=I.pos;exact Nat.pos_of_ne_zero λz=>by rw [z,Nat.mul_zero] at this;exact bY _ this) G.nb
 have nsz:Ns^M*Nb<2^3000:=bA (by
  have h0:0<Np*Nc*Nm:=Nat.pos_of_ne_zero λz=>by have:=I.pos;rw [z,Nat.zero_mul] at this;exact bY _ this
  rw [show lJ M Ns Nm Np Nc*Nb=Np*Nc*Nm*(Ns^M*Nb) by unfold lJ;ac_rfl];exact Nat.le_mul_of_pos_left _ h0) G.sz
 refine ⟨_,(aH (sF (aD 0) (bH FQ15 (hr.mono Dd) (aG (bH FQ26 (hr.mono Dd) (aG (aD 1) aC)) (aG (bX bO (aD 2) aM (λ_ _=>rfl)) aC))))
  (aH (sF (aD 0) (gM aC))
  (aH (sF (aD 0) (gM aC))
  (aH (fD PassesOwn.never rfl (dG rfl T.b_range (aG (bH FQ51 (hr.mono Dd) (aG (aD 1) aC)) aC)) (cT (i:=3) cQ0.nd rfl (Or.inr rfl)) (aH (iB (i:=4) (dJ.of (psc:=aO TC) (N:=["self","trial","aim","way","weights","ahead","costs"]) (N':=["counts","trial","way"]) (js:=[1,3]) Kk rfl rfl rfl) cQ0.nd rfl rfl (eI (gF K (aD 0))) (λ_ _ _ _=>cY) (λ_ _ _ _=>(bH FQ52 (hr.mono Dd) (aG (aD 1) (aG (aD 2) (aG (aD 0) aC))))))
  (aH (iP (lH PySem.F.plainAttrs_list PySem.F.slot_list_append PySem.F.type_list_append mZ (gF K (aD 0)) (aG (bH FQ21 (hr.mono Dd) (aG (bV OU (aD 4) (gM (aG (bX bO (bX bO (aD 2) aM (λ_ _=>rfl)) (aD 3) (λ_ _=>rfl)) aC))) aC)) aC)))
  (aX (iP (lH PySem.F.plainAttrs_list PySem.F.slot_list_append PySem.F.type_list_append mZ (gF K (aD 0)) (aG (bH FQ27 (hr.mono Dd) (aG (gF K (aD 0)) (aG (aD 4) (aG (bX bO (gF K (aD 0)) (aD 3) (λ_ _=>rfl)) aC)))) aC)))))))
  (aH (iB (i:=5) (dJ.of (psc:=aO TC) (N:=["self","trial","aim","way","weights","ahead","costs"]) (N':=["counts","aim"]) (js:=[2]) Kk rfl rfl rfl) cQ0.nd rfl rfl (eI (gF K (aD 0))) (λ_ _ _ _=>HF (gC xD (jO (wA K rfl) (by rfl) T.b_sum Kk (aG (aD 0) aC)) (bX (jE K) (aD 1) aM (λ_ _=>rfl)) (nomark _))) (λ_ _ _ _=>(aD 0)))
  (aH (iB (i:=6) (dJ.of (psc:=aO TC) (N:=["self","trial","aim","way","weights","ahead","costs"]) (N':=["counts","trial","aim"]) (js:=[1,2]) Kk rfl rfl rfl) cQ0.nd rfl rfl (eI (aD 5)) (λ_ _ _ _=>cY) (λ_ _ _ _=>(bH FQ32 (hr.mono Dd) (aG (aD 1) (aG (aD 2) (aG (aD 0) aC))))))
  (aH (sF (aD 0) (bH FQ21 (hr.mono Dd) (aG (aD 6) aC)))
  (aX (sF (aD 0) (bH FQ27 (hr.mono Dd) (aG (aD 5) (aG (aD 6) (aG (gF K (aD 0)) aC))))))))))))),?_⟩
 refine ⟨_,rfl,?_⟩;refine oW rt ?_;rw [hF];refine ⟨_,rfl,?_⟩;refine mP haa rfl ?_;refine zH f1 f4 m5 λR H1 s1 hR LR=>?_;have LR:jN H1 R (rise F M):=LR;have hx1:=s1 _ _ hx;refine ⟨_,rfl,x,c.Weighing,dx,_,rfl,hx1,O.cls,O.no _ (by simp),by show 0<1000;decide,?_⟩;have b2:aR x H1 (upd H1 x (.ins c.Weighing dx (eC "rising" (.ref R) []))):=aR.self;have e2:(upd H1 x (.ins c.Weighing dx (eC "rising" (.ref R) []))) x=some (.ins c.Weighing dx (eC "rising" (.ref R) [])):=bK;generalize upd H1 x (.ins c.Weighing dx (eC "rising" (.ref R) []))=H2 at b2 e2 ⊢;have L2:=LR.but b2 hx1;have t2:dC H H2:=s1.t.trans (aR.tI b2 hx1);have B2:aR x H H2:=s1.but.trans b2;refine AZ (by show 0<=64;decide) λua H3 hua e3 s3=>?_;refine ⟨_,rfl,x,c.Weighing,dx,_,rfl,s3 _ _ e2,O.cls,O.no _ (by simp),by show 1<1000;decide,?_⟩;have b4:=aR.self (p:=x) (H:=H3) (o:=.ins c.Weighing dx (eC "units" (.ref ua) (eC "rising" (.ref R) [])));have e4:(upd H3 x (.ins c.Weighing dx (eC "units" (.ref ua) (eC "rising" (.ref R) [])))) x=_:=bK;generalize upd H3 x (.ins c.Weighing dx (eC "units" (.ref ua) (eC "rising" (.ref R) [])))=H4 at b4 e4 ⊢;have nux:ua≠x:=λz=>by rw [z,e2] at hua;cases hua
 have e4u:=b4.at nux e3;have L4:=(L2.same s3).but b4 (s3 _ _ e2);have t4:dC H H4:=(t2.trans s3.t).trans (aR.tI b4 (s3 _ _ e2));have B4:aR x H H4:=(B2.trans s3.but).trans b4;refine AZ (by show 0<=64;decide) λwa H5 hwa e5 s5=>?_;refine ⟨_,rfl,x,c.Weighing,dx,_,rfl,s5 _ _ e4,O.cls,O.no _ (by simp),by show 2<1000;decide,?_⟩;have b6:=aR.self (p:=x) (H:=H5) (o:=.ins c.Weighing dx (eC "weights" (.ref wa) (eC "units" (.ref ua) (eC "rising" (.ref R) []))));have e6:(upd H5 x (.ins c.Weighing dx (eC "weights" (.ref wa) (eC "units" (.ref ua) (eC "rising" (.ref R) []))))) x=_:=bK;generalize upd H5 x (.ins c.Weighing dx (eC "weights" (.ref wa) (eC "units" (.ref ua) (eC "rising" (.ref R) []))))=H6 at b6 e6 ⊢;have nwx:wa≠x:=λz=>by rw [z,e4] at hwa;cases hwa
 have nwu:wa≠ua:=λz=>by rw [z,e4u] at hwa;cases hwa
 have e6w:=b6.at nwx e5;have e6u:=b6.at nux (s5 _ _ e4u);have L6:=(L4.same s5).but b6 (s5 _ _ e4);have B6:aR x H H6:=(B4.trans s5.but).trans b6;have lr:(eC "weights" (V.ref wa) (eC "units" (.ref ua) (eC "rising" (.ref R) []))).lookup ("rising" : Str)=some (.ref R):=RJ Dd (RJ Dd lkS);have lu:(eC "weights" (V.ref wa) (eC "units" (.ref ua) (eC "rising" (.ref R) []))).lookup ("units" : Str)=some (.ref ua):=RJ Dd lkS;have lw':(eC "weights" (V.ref wa) (eC "units" (.ref ua) (eC "rising" (.ref R) []))).lookup ("weights" : Str)=some (.ref wa):=lkS;have fle:(eC "weights" (V.ref wa) (eC "units" (.ref ua) (eC "rising" (.ref R) []))).length<=3:=by
  have h1:=jQ "weights" (V.ref wa) (eC "units" (.ref ua) (eC "rising" (.ref R) []));have h2:=jQ "units" (V.ref ua) (eC "rising" (.ref R) []);have h3:=jQ "rising" (V.ref R) [];simp only [List.length_nil] at h3;omega
 generalize eC "weights" (V.ref wa) (eC "units" (.ref ua) (eC "rising" (.ref R) []))=fl at e6 lr lu lw' fle ⊢;have hu0:H ua=none:=by
  cases q:H ua with
  | none=>rfl
  | some o=>exact absurd (B2.at nux q) (by rw [hua];intro z;cases z)
 have hw0:H wa=none:=by
  cases q:H wa with
  | none=>rfl
  | some o=>exact absurd (B4.at nwx q) (by rw [hwa];intro z;cases z)
 have nRu:R≠ua:=λz=>by obtain ⟨vs,g,_⟩:=L2;rw [z,hua] at g;cases g
 have nRw:R≠wa:=λz=>by obtain ⟨vs,g,_⟩:=L4;rw [z,hwa] at g;cases g
 clear hua hwa e2 e3 e4 e5 e4u b2 b4 b6 s3 s5 L2 L4 LR t2 t4 B2 B4;refine ⟨_,rfl,?_⟩;refine kW (rt.flat (aR.tI B6 hx) (lV _ _)) ?_;rw [wl];refine ⟨_,rfl,Oo,Oo,?_⟩;refine gI (λi σ H'=>∃(o3 o4:Option V) (us:List Nat) (tas:List Addr),σ=[some (.ref x),some tv,some (.ref aa),o3,o4,none,none]/\aR x H H'/\H' x=some (.ins c.Weighing dx fl)/\jN H' R (rise F M)/\H' ua=some (.lst (us.map EY))/\us.length=i/\H' wa=some (.lst (tas.map V.ref))/\rQ H' tas (fW ws) (rise F M) us/\∀u∈us,0<u/\u ∣ Ns^M*Nb)
  ⟨_,_,[],[],rfl,B6,e6,L6,e6u,rfl,e6w,⟨rfl,λi ta u h=>by simp at h⟩,λu hu=>by cases hu⟩ ?_ ?_
 ·rintro i σ H7 hi ⟨o3,o4,us,tas,rfl,B7,e7,L7,e7u,ul,e7w,tb7,hus⟩;have hi:i<W:=Oo;have t7:=aR.tI B7 hx;have rt7:=rt.flat t7 (lV _ _);obtain ⟨xv,hxv⟩:∃xv,ws[i]?=some xv:=⟨_,aB (by rw [wl];exact hi)⟩;have ex:(fW ws).getD i []=xv.2:=gQ (by rw [aN,hxv];rfl);obtain ⟨vs7,e7r,r7,lr7⟩:=L7.len;rw [Int.zero_add];refine ⟨_,rfl,?_⟩;refine rM O (by simp) e7 lr ?_;refine ⟨R,rfl,⟨_,fI.of e7r⟩,?_⟩;refine gJ (λj y H'=>∃cc,(rise F M)[j]?=some cc/\yF K H' (kR (xv.2.zip cc)) y) (λj y Ha Hb s ⟨cc,h1,h2⟩=>⟨cc,h1,h2.t s⟩) Oo e7r (λj y H' Q' hy s' k'=>?_) (λD ys H8 hD e8 s8 hy8 hr8=>?_)
  ·obtain ⟨cc,hc,rc⟩:=dX r7 hy;have hcm:=(iL f1).mp (aF hc);refine ⟨_,rfl,_,rfl,_,rfl,?_⟩;refine mT (rt7.same s') hxv (rc.same s') (G.bo xv (aF hxv)) Oo λxw H9 s9 fw=>?_;exact k' _ H9 s9 ⟨cc,hc,fw⟩
  have ly8:ys.length=(rise F M).length:=Oo;have fr8:vC K H8 ((rise F M).map λcc=>kR (xv.2.zip cc)) ys:=⟨by rw [aA];exact ly8,λj y hj=>by
   obtain ⟨cc,h1,h2⟩:=hr8 j y hj;exact ⟨_,by rw [aN,h1];rfl,h2⟩⟩
  have e8x:=s8 _ _ e7;have e8u:=s8 _ _ e7u;have e8w:=s8 _ _ e7w;have B8:=B7.trans s8.but;refine ⟨_,rfl,?_⟩;refine rM O (by simp) e8x lu ?_;refine ⟨FF e8u,?_⟩;refine ⟨_,rfl,?_⟩;have t8:=aR.tI B8 hx;obtain ⟨fb,hfb⟩:∃fb,bs[i]?=some fb:=⟨_,aB (by rw [G.bl];exact hi)⟩;obtain ⟨yb,hyb,ryb⟩:=fQ rvb hfb;refine ⟨_,rfl,?_⟩;refine mP (t8 _ _ haa) rfl ?_;refine ⟨_,rfl,?_⟩;refine mP (t8 _ _ hab) (dU hyb) ?_;refine AZ (by show 1<=64;decide) λq9 H9 hq9 e9 s9=>?_;refine aCa (s9 _ _ e8) e9 (by rw [ly8];show (rise F M).length+1<=1000;omega) λq10 H10 hq10 e10 s10=>?_;have s810:=s9.trans s10;have ryb10:yF K H10 fb yb:=.inl (ryb.flat (t8.trans s810.t) (cU _));have fr10:vC K H10 ((rise F M).map (λcc=>kR (xv.2.zip cc))++[fb]) (ys++[yb]):=⟨by rw [aP,aP,aA,ly8];rfl,λj y hj=>by
   by_cases q:j<ys.length
   ·rw [cM q] at hj;obtain ⟨g,h1,h2⟩:=fr8.at_ j y hj;exact ⟨g,by rw [cM (by rw [aA];omega)];exact h1,h2.t s810.t⟩
   ·have lj:=(aI.mp hj).1;rw [aP,List.length_singleton] at lj;have ej:j=ys.length:=Oo;subst ej;rw [cI (aL _),Nat.sub_self] at hj;cases hj;exact ⟨fb,by rw [cI (by rw [aA];omega),aA,ly8,Nat.sub_self];rfl,ryb10⟩⟩
  have wn:∀cc,cc∈rise F M->Fn (Ns^M) 1 (kR (xv.2.zip cc)):=λcc hc=>by
   have hcm:=(iL f1).mp hc;have h1:=rF I hi cc;have h2:=I.qn hi (c:=cc) Oo;rw [ex] at h1;unfold jL at h2;rw [ex] at h2;exact Qn.f h1 h2
  refine qD e10 fr10.v nsp nsz (λg hg=>?_) λU u0 uN hU=>?_
  ·rcases cE.mp hg with hg | hg
   ·obtain ⟨cc,hc,rfl⟩:=aQ.mp hg;have:=(wn cc hc).dvd (fJ (Ns^M) Nb);exact ⟨this.low,Fn.dn this nsp⟩
   ·rw [aY.mp hg];have:=(G.bb fb (aF hfb)).dvd (Nat.dvd_mul_left Nb (Ns^M));exact ⟨this.low,Fn.dn this nsp⟩
  have uz:U<2^3000:=bA (jU nsp uN) nsz;have e10u:=s810 _ _ e8u;refine yL e10u (by rw [aA];omega) λH11 e11 b11=>?_;have e11u:H11 ua=some (.lst ((us++[U]).map EY)):=by rw [e11,bE];rfl
  have e11x:=b11.at (Ne.symm nux) (s810 _ _ e8x);have e11w:=b11.at nwu (s810 _ _ e8w);have L11:=((L7.same s8).same s810).butL b11 e10u nRu;have t11:dC H8 H11:=s810.t.trans (b11.t e10u);have hDu:D≠ua:=λz=>by rw [z,e7u] at hD;cases hD
  have e11D:=b11.at hDu (s810 _ _ e8);have B11:aR x H H11:=aR.thru hu0 (B8.trans s810.but) b11;have tb11:rQ H11 tas (fW ws) (rise F M) us:=tb7.mono λb kv g=>b11.at (oC (s810 _ _ (s8 _ _ g)) e10u (by intro z;cases z)) (s810 _ _ (s8 _ _ g));refine ⟨_,rfl,?_⟩;refine rM O (by simp) e11x lw' ?_;refine ⟨FF e11w,?_⟩;refine ⟨_,rfl,?_⟩;refine rM O (by simp) e11x lr ?_;refine ⟨_,rfl,?_⟩;refine ⟨_,rfl,?_⟩;refine rM O (by simp) e11x lu ?_;refine ⟨_,rfl,?_⟩;refine PM e11u (dU (j:=i) (v:=EY U) (by rw [bE,cI (by rw [aA];omega),aA,ul,Nat.sub_self];rfl)) ?_;refine sM (g:=λcc=>kR (xv.2.zip cc)) L11 e11D (fr8.t t11) small uz (λcc hc=>?_) λp kvs H12 s12 hp e12 D12=>?_
  ·have h1:=(wn cc hc).dvd (fJ (Ns^M) Nb);exact ⟨h1.low,fV I (by have:=wC I hi (c:=cc) ((iL f1).mp hc).2;rw [ex] at this;exact this) (aK (show 1<=1000000000000 by decide) gR),hU _ (bZ _ (aQ.mpr ⟨cc,hc,rfl⟩))⟩
  refine yL (s12 _ _ e11w) (by rw [aA,tb7.1];omega) λH13 e13 b13=>?_;have hpw:p≠wa:=λz=>by rw [z,e11w] at hp;cases hp
  have B12:=B11.trans s12.but;refine ⟨_,_,us++[U],tas++[p],rfl,aR.thru hw0 B12 b13,b13.at (Ne.symm nwx) (s12 _ _ e11x),(L11.same s12).butL b13 (s12 _ _ e11w) nRw,b13.at (Ne.symm nwu) (s12 _ _ e11u),by rw [aP,ul];rfl,by rw [e13,bE];rfl,?_,λu hu=>?_⟩
  ·refine rQ.snoc (kvs:=kvs) ?_ (b13.at hpw e12) ?_
   ·exact tb11.mono λb kv g=>b13.at (oC (s12 _ _ g) (s12 _ _ e11w) (by intro z;cases z)) (s12 _ _ g)
   ·rw [ul];have:(λcc=>jL (fW ws) i cc*(U:Rat))=λcc=>rv (kR (xv.2.zip cc))*(U:Rat):=by
     funext cc
     unfold jL wq;rw [ex]
    rw [this];exact D12
  ·rcases cE.mp hu with hu | hu
   ·exact hus u hu
   ·rw [aY.mp hu];exact ⟨u0,uN⟩
 ·rintro σ H7 ⟨o3,o4,us,tas,rfl,B7,e7,L7,e7u,ul,e7w,tb7,hus⟩;have ul:us.length=W:=Oo;have t7:=aR.tI B7 hx;have rt7:=rt.flat t7 (lV _ _);have ra7:=ra.flat t7 (vA _ _ _ _);obtain ⟨vs7,e7r,r7,lr7⟩:=L7.len;refine ⟨_,rfl,?_⟩;refine rM O (by simp) e7 lr ?_;refine ⟨R,rfl,⟨_,fI.of e7r⟩,?_⟩;refine LQ (g:=mL) r7 (λcc=>decide (cc.sum<M)) Oo e7r (λy cc H' Q' hc ry s' k'=>?_) (λy H' Q' q=>⟨_,rfl,q⟩) (λD ys H8 hD e8 s8 r8=>?_)
  ·obtain ⟨ac,rfl,hac⟩:=gK ry;refine ⟨_,rfl,?_⟩;refine rsT (ns:=ci cc) (by rw [eK];exact jM.of hac) ?_;rw [BR];refine ⟨_,rfl,?_⟩;refine mP (s' _ _ (t7 _ _ haa)) rfl ?_;refine ⟨_,_,rfl,rfl,_,rfl,?_⟩;rw [show decide ((cc.sum:Int)<(M:Int))=decide (cc.sum<M) by simp];exact k' H' (aU.refl _)
  have r8:aT H8 ((ahd F M).map mL) ys:=r8;have ly8:ys.length=(ahd F M).length:=by rw [r8.len,aA]
  have la:(ahd F M).length<=(rise F M).length:=List.length_filter_le ..;refine ⟨_,rfl,D,rfl,⟨_,fI.of e8⟩,?_⟩;have mah:∀cc,cc∈ahd F M->cc.length=F/\cc.sum<M:=λcc hc=>by
   obtain ⟨h1,h2⟩:=iA.mp hc;exact ⟨((iL f1).mp h1).1,of_decide_eq_true h2⟩
  refine gJ (λj y H'=>∃cc,(ahd F M)[j]?=some cc/\cA H' (fN (eS (GJ W (fW ws) mix cs cc))) y) (λj y Ha Hb s ⟨cc,h1,h2⟩=>⟨cc,h1,h2.flat s (cU _)⟩) Oo e8 (λj y H' Q' hy s' k'=>?_) (λD2 zs H9 hD2 e9 s9 hy9 hr9=>?_)
  ·obtain ⟨cc,hc,rc⟩:=dX r8 hy;refine ⟨_,rfl,_,rfl,_,rfl,?_⟩;refine yI ((rt7.same s8).same s') ((ra7.same s8).same s') (rc.same s') I G.bo (mah cc (aF hc)).2 λv H10 s10 r10=>?_;exact k' _ H10 s10 ⟨cc,hc,r10⟩
  have lz9:zs.length=(ahd F M).length:=Oo;have fr9:vC K H9 ((ahd F M).map λcc=>eS (GJ W (fW ws) mix cs cc)) zs:=⟨by rw [aA];exact lz9,λj y hj=>by
   obtain ⟨cc,h1,h2⟩:=hr9 j y hj;exact ⟨_,by rw [aN,h1];rfl,.inl h2⟩⟩
  have ln:∀cc,cc∈ahd F M->Fn (lJ M Ns Nm Np Nc) (B*4) (eS (GJ W (fW ws) mix cs cc)):=λcc hc=>JL I (mah cc hc).2;refine ⟨_,rfl,?_⟩;refine qD e9 fr9.v I.pos I.sz (λg hg=>?_) λU u0 uN hU=>?_
  ·obtain ⟨cc,hc,rfl⟩:=aQ.mp hg;exact ⟨(ln cc hc).low,Fn.dn (ln cc hc) I.pos⟩
  have uz:U<2^3000:=bA (jU I.pos uN) I.sz;have s79:=s8.trans s9;refine ⟨_,rfl,x,c.Weighing,dx,_,rfl,s79 _ _ e7,O.cls,O.no _ (by simp),Oo,?_⟩;have b10:=aR.self (p:=x) (H:=H9) (o:=.ins c.Weighing dx (eC "cost_unit" (.int (U:Int)) fl));have e10:(upd H9 x (.ins c.Weighing dx (eC "cost_unit" (.int (U:Int)) fl))) x=_:=bK;generalize upd H9 x (.ins c.Weighing dx (eC "cost_unit" (.int (U:Int)) fl))=H10 at b10 e10 ⊢;have hx9:=s79 _ _ e7;have nDx:D≠x:=oC e8 (s8 _ _ e7) (by intro z;cases z);have nD2x:D2≠x:=oC e9 hx9 (by intro z;cases z);have t10:=aR.tI b10 hx9;have LD:jN H10 D (ahd F M):=⟨ys,b10.at nDx (s9 _ _ e8),(r8.same s9).flat t10 (kB _)⟩;refine ⟨_,rfl,_,rfl,_,rfl,?_⟩;refine rM O (by simp) e10 lkS ?_;have hB:=I.b;refine sM (g:=λcc=>eS (GJ W (fW ws) mix cs cc)) LD (b10.at nD2x e9) (fr9.t t10) Oo uz (λcc hc=>⟨(ln cc hc).low,fV I (ln cc hc) (aK (show B*4<=1000000000000 by omega) gR),hU _ (aQ.mpr ⟨cc,hc,rfl⟩)⟩) λp kvs H11 s11 hp e11 D11=>?_;have e11x:=s11 _ _ e10;have fle2:=jQ "cost_unit" (V.int (U:Int)) fl;refine ⟨_,rfl,x,c.Weighing,dx,_,rfl,e11x,O.cls,O.no _ (by simp),Oo,?_⟩;have b12:=aR.self (p:=x) (H:=H11) (o:=.ins c.Weighing dx (eC "costs" (.ref p) (eC "cost_unit" (.int (U:Int)) fl)));have e12:(upd H11 x (.ins c.Weighing dx (eC "costs" (.ref p) (eC "cost_unit" (.int (U:Int)) fl)))) x=_:=bK;generalize upd H11 x (.ins c.Weighing dx (eC "costs" (.ref p) (eC "cost_unit" (.int (U:Int)) fl)))=H12 at b12 e12 ⊢;have npx:p≠x:=λz=>by rw [z,e10] at hp;cases hp
  refine k us U H12 ((((B7.trans s79.but).trans b10).trans s11.but).trans b12) ⟨ul,dx,_,R,ua,wa,p,tas,kvs,e12,RJ Dd (RJ Dd lr),RJ Dd (RJ Dd lu),RJ Dd (RJ Dd lw'),RJ Dd lkS,lkS,?_,?_,?_,?_,b12.at npx e11,?_⟩ hus u0 uN
  ·exact (((L7.same s79).but b10 hx9).same s11).but b12 e11x
  ·exact b12.at nux (s11 _ _ (b10.at nux (s79 _ _ e7u)))
  ·exact b12.at nwx (s11 _ _ (b10.at nwx (s79 _ _ e7w)))
  ·refine tb7.mono λb kv g=>?_;have g1:=s79 _ _ g;have nb:b≠x:=oC g1 hx9 (by intro z;cases z);exact b12.at nb (s11 _ _ (b10.at nb g1))
  ·have:(λcc=>GJ W (fW ws) mix cs cc*(U:Rat))=λcc=>rv (eS (GJ W (fW ws) mix cs cc))*(U:Rat):=by
    funext cc
    rw [cW]
   rw [this];exact D11
end
theorem zM{l:List Rat}{x:Rat}(h:l≠[]):kF (l++[x])=if x<kF l then x else kF l:=by
 refine BB ?_ λy hy=>?_
 ·split
  ·exact bI _ (aY.mpr rfl)
  ·exact bZ _ (oG h)
 ·rcases cE.mp hy with hy | hy
  ·have:=rC hy;split <;> grind
  ·rw [aY.mp hy];split <;> grind
section
variable{F W M:Nat}{ss:List (List Fr)}{mix ps cs:List Fr}
abbrev nB(ss:List (List Fr))(ps:List Fr)(c:List Nat)(v:Nat):Rat:=cL ps v*jL ss v c
def RH(F W M:Nat)(ss:List (List Fr))(mix ps cs:List Fr)(c:List Nat):Rat:=GJ W ss mix cs c+cD F λj=>wor F W M ss mix ps cs (bP c j)
theorem MP{c:List Nat}(h:M<=c.sum):wor F W M ss mix ps cs c=kF (kE W (nB ss ps c)):=by
 unfold wor;rw [Nat.sub_eq_zero_of_le h];rfl
theorem CD{c:List Nat}(h:c.sum<M)(hl:c.length=F):wor F W M ss mix ps cs c=kF (kE W (nB ss ps c)++[RH F W M ss mix ps cs c]):=by
 obtain ⟨n,hn⟩:∃n,M-c.sum=n+1:=⟨M-c.sum-1,Oo⟩;unfold wor;rw [hn,yQ];unfold RH GJ;congr 3;congr 1;refine cH λj hj=>?_;unfold wor;rw [gB Oo,show M-(c.sum+1)=n by omega]
def MK(F W M:Nat)(ss:List (List Fr))(mix ps cs:List Fr)(c:List Nat)(b:Nat):Prop :=
 (b=0/\c.sum<M/\wor F W M ss mix ps cs c=RH F W M ss mix ps cs c)\/∃v,v<W/\b=1+v/\wor F W M ss mix ps cs c=cD W (nB ss ps c)-nB ss ps c v
theorem FZ{u x y:Rat}(hu:0<u)(h:u*x=u*y):x=y:=by
 have h1:u*(x-y)=0:=by grind
 rcases Rat.mul_eq_zero.mp h1 with h2 | h2 <;> grind
theorem ZZ{u x y:Rat}(hu:0<u)(h:u*x<=u*y):x<=y:=by
 refine cF λq=>?_;have h1:y<x:=by grind
 have h2:=Rat.mul_lt_mul_of_pos_left h1 hu;grind
theorem ZY{u x y:Rat}(hu:0<u):u*x<u*y↔x<y:=by
 constructor
 ·intro h;refine cF λq=>?_;have h1:y<=x:=by grind
  have h2:=Rat.mul_le_mul_of_nonneg_left h1 (Rat.le_of_lt hu);grind
 ·exact λh=>Rat.mul_lt_mul_of_pos_left h hu
theorem OZ{d:Nat->Rat}{U:Rat}(hU:0<U){ns:List Int}(hl:ns.length=W)(hv:∀(i:Nat) (n:Int),ns[i]?=some n->(n:Rat)=U*(cD W d-d i)){m:Int}(hm:m∈ns)(hle:∀a∈ns,m<=a):(m:Rat)=U*kF (kE W d):=by
 obtain ⟨i,hi⟩:=eT.mp hm;have e:=hv i m hi;have li:=(aI.mp hi).1;have:kF (kE W d)=cD W d-d i:=by
  refine BB (lA.mpr ⟨i,Oo,rfl⟩) λx hx=>?_;obtain ⟨w,hw,rfl⟩:=lA.mp hx;obtain ⟨n,hn⟩:∃n,ns[w]?=some n:=⟨_,aB Oo⟩;have h1:=hle n (aF hn);have h2:(m:Rat)<=(n:Rat):=by exact_mod_cast h1
  rw [e,hv w n hn] at h2;exact ZZ hU h2
 rw [this];exact e
theorem ER{c:List Nat}{v:Nat}(w1:1<=W)(hl:c.length=F)(hv:v<W)(e:cD W (nB ss ps c)-nB ss ps c v=kF (kE W (nB ss ps c)))(h:c.sum<M->¬RH F W M ss mix ps cs c<kF (kE W (nB ss ps c))) :
  MK F W M ss mix ps cs c (1+v)/\wor F W M ss mix ps cs c=kF (kE W (nB ss ps c)):=by
 have ew:wor F W M ss mix ps cs c=kF (kE W (nB ss ps c)):=by
  by_cases q:c.sum<M
  ·rw [CD q hl,zM (FX w1 _),if_neg (h q)]
  ·exact MP Oo
 exact ⟨.inr ⟨v,hv,rfl,by rw [ew,e]⟩,ew⟩
theorem aA1{c:List Nat}(w1:1<=W)(hl:c.length=F)(hc:c.sum<M)(h:RH F W M ss mix ps cs c<kF (kE W (nB ss ps c))):MK F W M ss mix ps cs c 0/\wor F W M ss mix ps cs c=RH F W M ss mix ps cs c:=by
 have ew:wor F W M ss mix ps cs c=RH F W M ss mix ps cs c:=by rw [CD hc hl,zM (FX w1 _),if_pos h]
 exact ⟨.inl ⟨rfl,hc,ew⟩,ew⟩
end
def lvl(F:Nat)(best:List Nat->Nat):Nat->List (List Nat)
 | 0=>[List.replicate F 0]
 | k+1=>(cta F (k+1)).filter λd=>(lvl F best k).any λc=>best c == 0&&(List.range F).any λj=>d == bP c j
section
variable{F W M:Nat}{best:List Nat->Nat}
theorem lM(hF:1<=F):∀k,(lvl F best k).Sublist (cta F k)
 | 0=>by unfold lvl;rw [xU F hF];exact List.Sublist.refl _
 | k+1=>by unfold lvl;exact List.filter_sublist
theorem mX(hF:1<=F){k:Nat}{d:List Nat}:d∈lvl F best (k+1) ↔ ∃c∈lvl F best k,best c=0/\∃j,j<F/\d=bP c j:=by
 have h0:d∈lvl F best (k+1)↔d∈cta F (k+1)/\∃c∈lvl F best k,best c=0/\∃j,j<F/\d=bP c j:=by
  show d∈List.filter _ _↔_;rw [iA];simp
 rw [h0];refine ⟨λh=>h.2,λh=>⟨?_,h⟩⟩;obtain ⟨c,hc,_,j,hj,e⟩:=h;exact (QK hF).mpr ⟨c,(lM hF k).subset hc,j,hj,e⟩
def AX(W b:Nat):List Fr:=(List.range (1+W)).map λk=>if k=b then (1,1) else (0,1)
def plE(W:Nat)(best:List Nat->Nat)(c:List Nat):dH:=(c,AX W (best c))
def DC(F M:Nat)(best:List Nat->Nat):List (List Nat):=(List.range (M+1)).flatMap (lvl F best)
def rul(F W M:Nat)(best:List Nat->Nat):List dH:=(DC F M best).map (plE W best)
theorem xP{α:Type}{f g:Nat->List α}(h:∀k,(f k).Sublist (g k)):∀l:List Nat,(l.flatMap f).Sublist (l.flatMap g)
 | []=>List.Sublist.refl _
 | a::l=>by rw [List.flatMap_cons,List.flatMap_cons];exact (h a).append (xP h l)
theorem mW(hF:1<=F):(DC F M best).Sublist (rise F M):=xP (lM hF) _
theorem AT:(rul F W M best).map (·.1)=DC F M best:=by unfold rul;rw [List.map_map];exact List.map_id _
theorem AW{b k:Nat}(h:k<1+W):cL (AX W b) k=if k=b then 1 else 0:=by
 unfold cL AX;rw [bM,aN,cK h];show rv (if k=b then (1,1) else (0,1))=_;split
 ·exact uA
 ·exact oX
theorem uH(c:List Nat):s0 (plE W best c)=if best c=0 then 1 else 0:=by
 unfold s0 plE;rw [AW Oo];by_cases h:best c=0
 ·rw [if_pos h.symm,if_pos h]
 ·rw [if_neg (λz=>h z.symm),if_neg h]
theorem vX{c:List Nat}:c∈DC F M best ↔ ∃k,k<=M/\c∈lvl F best k:=by
 unfold DC;rw [List.mem_flatMap];constructor
 ·rintro ⟨k,hk,h⟩;exact ⟨k,by have:=bU.mp hk;omega,h⟩
 ·rintro ⟨k,hk,h⟩;exact ⟨k,bU.mpr Oo,h⟩
theorem OD(hF:1<=F)(on:∀c,best c=0->c.sum<M){c:List Nat}(hc:c∈DC F M best)(h:best c=0){j:Nat}(hj:j<F):bP c j∈DC F M best:=by
 obtain ⟨k,hk,h1⟩:=vX.mp hc;have h2:=(hV ((lM hF k).subset h1)).2;have h3:=on c h;exact vX.mpr ⟨k+1,Oo,(mX hF).mpr ⟨c,h1,h,j,hj,rfl⟩⟩
theorem OE(hF:1<=F){d:List Nat}(hd:d∈DC F M best)(h:d≠List.replicate F 0):∃c∈DC F M best,best c=0/\∃j,j<F/\bP c j=d:=by
 obtain ⟨k,hk,h1⟩:=vX.mp hd;cases k with
 | zero=>exact absurd (aY.mp h1) h
 | succ k =>
  obtain ⟨c,hc,hb,j,hj,e⟩:=(mX hF).mp h1;exact ⟨c,vX.mpr ⟨k,Oo,hc⟩,hb,j,hj,e.symm⟩
theorem OC:∃r,DC F M best=List.replicate F 0::r:=by
 unfold DC;rw [List.range_succ_eq_map,List.flatMap_cons];exact ⟨_,rfl⟩
theorem IB(hF:1<=F){c:List Nat}(h:c∈DC F M best):c.length=F/\c.sum<=M:=(iL hF).mp ((mW hF).subset h)
theorem OA(hF:1<=F)(f4:F<=4)(m5:M<=5)(on:∀c,best c=0->c.sum<M):yN F (rul F W M best) where
 root:=by
  obtain ⟨r,hr⟩:=OC (F:=F) (M:=M) (best:=best);exact ⟨_,_,by unfold rul;rw [hr,bL],rfl⟩
 len:=λe he=>by
  obtain ⟨c,hc,rfl⟩:=aQ.mp he;exact (IB hF hc).1
 nd:=by rw [AT];exact (TH F f4 M m5).sublist (mW hF)
 srt:=by
  unfold rul;rw [List.pairwise_map];exact (qI F M).sublist (mW hF)
 fwd:=λe he h0 f hf=>by
  obtain ⟨c,hc,rfl⟩:=aQ.mp he;rw [AT];refine OD hF on hc ?_ hf;refine cF λq=>h0 ?_;rw [uH,if_neg q]
 bwd:=λd hd hn=>by
  rw [AT] at hd;obtain ⟨c,hc,hb,j,hj,e⟩:=OE hF hd hn;exact ⟨plE W best c,aQ.mpr ⟨c,hc,rfl⟩,by rw [uH,if_pos hb];exact (by decide:(1:Rat)≠0),j,hj,e⟩
 nn:=λe he=>by
  obtain ⟨c,hc,rfl⟩:=aQ.mp he;rw [uH];split <;> grind
theorem SE:∀(W b:Nat),b<=W->rH ((AX W b).map rv)=1:=by
 intro W b hb;have h1:(AX W b).map rv=(List.range (1+W)).map λk=>if k=b then (1:Rat) else 0:=by
  unfold AX;rw [List.map_map];refine gD λk _=>?_;show rv (if k=b then (1,1) else (0,1))=_;split
  ·exact uA
  ·exact oX
 rw [h1];show cD (1+W) (λk=>if k=b then (1:Rat) else 0)=1;have:=CN (n:=1+W) (v:=b) (f:=λk=>if k=b then (1:Rat) else 0) Oo λi _ hn=>if_neg hn;rw [this,if_pos rfl]
theorem OB{ss:List (List Fr)}{mix ps cs:List Fr}(hF:1<=F)(hb:∀c∈rise F M,MK F W M ss mix ps cs c (best c)):∀e∈rul F W M best,RF F W (jL ss) (cL mix) (cL ps) (cL cs) (wor F W M ss mix ps cs) e:=by
 intro e he;obtain ⟨c,hc,rfl⟩:=aQ.mp he;have hcr:=(mW hF).subset hc;rcases hb c hcr with ⟨h0,h1,h2⟩ | ⟨v,hv,h0,h2⟩
 ·refine .inl ⟨by rw [uH,if_pos h0],λv hv=>?_,?_⟩
  ·show cL (AX W (best c)) (1+v)=0;rw [AW Oo,if_neg Oo]
  ·show wor F W M ss mix ps cs c=_;rw [h2];rfl
 ·refine .inr ⟨v,hv,by rw [uH,if_neg Oo],?_,λu hu hn=>?_,?_⟩
  ·show cL (AX W (best c)) (1+v)=1;rw [AW Oo,if_pos h0.symm]
  ·show cL (AX W (best c)) (1+u)=0;rw [AW Oo,if_neg Oo]
  ·show wor F W M ss mix ps cs c=_;rw [h2];rfl
end
abbrev SO:Stmt:=(top 49)
theorem aDN:bS ["weighing","counts"] ["weighing","counts"] (aO SO):=⟨rfl,rfl,rfl,Kk,rfl,Kk,Kk⟩
abbrev KH:Stmt:=(top 50)
theorem GR:bS ["weighing","factors","cost_factor","best_at","worth_of","counts","dues","sums","onward"] ["weighing","factors","cost_factor"] (aO KH):=⟨rfl,rfl,rfl,Kk,rfl,Kk,Kk⟩
theorem xL{N B U:Nat}{q:Rat}{n:Int}(h:Qn N B q)(hN:0<N)(e:(n:Rat)=q*(U:Rat)):n.natAbs<=B*U:=by
 obtain ⟨z,h1,h2⟩:=h;have h3:n*(N:Int)=z*(U:Int):=by
  have:((n*(N:Int):Int):Rat)=((z*(U:Int):Int):Rat):=by
   rw [Rat.intCast_mul,Rat.intCast_mul,e,<-h1];show q*(U:Rat)*(N:Rat)=q*(N:Rat)*(U:Rat);grind
  exact_mod_cast this
 have h4:=congrArg Int.natAbs h3;rw [eX,eX,Int.natAbs_natCast,Int.natAbs_natCast] at h4;have h5:n.natAbs*N<=(B*U)*N:=by
  rw [h4,show B*U*N=B*N*U by ac_rfl];exact bT _ h2
 exact Nat.le_of_mul_le_mul_right h5 hN
theorem dgI{H:Hp}{p b:Addr}{kvs:List (List eO × V)}{cc:List Nat}(e:H p=some (.dT kvs))(hb:H b=some (.tup (cc.map EY))):oQ H p (.ref b) (fG kvs (kT (ci cc))):=.inr ⟨kvs,kT (ci cc),b,.inl e,rfl,by rw [BK,eK];exact hb,rfl⟩
@[irreducible] def wS(C:Addr):Sp:=λvs H Q _=>∃(x:Addr) (cv:V) (cc:List Nat) (F W M:Nat) (ss:List (List Fr)) (mix cs:List Fr) (us:List Nat) (cu:Nat),vs=[.ref x,cv]/\yB H x C F W M ss mix cs us cu/\cA H (mL cc) cv/\cc∈rise F M/\W<=64 /\
 ∀D (ns:List Int) H',aU H H'->H D=none->H' D=some (.lst (ns.map V.int))->ns.length=W->(∀(i:Nat) (n:Int) (u:Nat),ns[i]?=some n->us[i]?=some u->(n:Rat)=jL ss i cc*(u:Rat))->Q (.ref D) H'
theorem NP{C:Addr}{H:Hp}{Q:VK}{E:XK}{x:Addr}{cv:V}{cc:List Nat}{F W M:Nat}{ss:List (List Fr)}{mix cs:List Fr}{us:List Nat}{cu:Nat}(h1:yB H x C F W M ss mix cs us cu)(h2:cA H (mL cc) cv)(h3:cc∈rise F M)(h4:W<=64)
  (k:∀D (ns:List Int) H',aU H H'->H D=none->H' D=some (.lst (ns.map V.int))->ns.length=W->(∀(i:Nat) (n:Int) (u:Nat),ns[i]?=some n->us[i]?=some u->(n:Rat)=jL ss i cc*(u:Rat))->Q (.ref D) H'):wS C [.ref x,cv] H Q E:=by
 unfold wS;exact ⟨x,cv,cc,F,W,M,ss,mix,cs,us,cu,rfl,h1,h2,h3,h4,k⟩
section
theorem aCU(F:iV K "weights_at" "weights_at" SO f fd)(T:kD K mg c):dM P w K mg base cS 1 f fd ["weighing","counts"] (wS c.Weighing):=by
 refine F.oky aDN λvs H Q E h=>?_;unfold wS at h;obtain ⟨x,cv,cc,F,W,M,ss,mix,cs,us,cu,rfl,wg,rc,hcm,w64,k⟩:=h;refine ⟨rfl,λcdv A outer s hr=>?_⟩;obtain ⟨ul,dx,fl,ra,ua,wa,ca,tas,kvs,a0,a1,a2,a3,a4,a5,a6,a7,a8,a9,a10,a11⟩:=wg;obtain ⟨ac,rfl,hac⟩:=gK rc;have O:=T.w_Weighing;have tl:=a9.1;refine ⟨_,(aX (cB (fX (dJ.of (psc:=aO SO) (N:=["weighing","counts"]) (N':=["table","counts"]) (js:=[1]) Kk rfl rfl rfl) (eI (gF K (aD 0))) (λ_ _ _ _=>cY) (λ_ _ _ _=>(fU hr.u1 (aD 0) (aD 1)))))),?_⟩;refine ⟨_,rfl,?_⟩;refine rM O (by simp) a0 a3 ?_;refine ⟨wa,rfl,⟨_,fI.of a8⟩,?_⟩;refine gJ (λi y H'=>∃n,y=.int n/\∀u,us[i]?=some u->(n:Rat)=jL ss i cc*(u:Rat)) (λ_ _ _ _ _ h=>h) (by rw [aA];omega) a8 (λi y H' Q' hy s' k'=>?_) (λD ys H1 hD e1 s1 hy hr1=>?_)
 ·rw [aN] at hy;obtain ⟨ta,hta,rfl⟩:=eL.mp hy;have li:=(aI.mp hta).1;obtain ⟨u,hu⟩:∃u,us[i]?=some u:=⟨_,aB Oo⟩;obtain ⟨kv,g1,g2⟩:=a9.2 i ta u hta hu;obtain ⟨n,h1,h2⟩:=g2.yes cc hcm;refine ⟨_,rfl,_,rfl,?_⟩;refine LL (s' _ _ g1) (c:=ci cc) (by rw [eK];exact s' _ _ hac) h1 ?_;exact k' _ H' (aU.refl _) ⟨n,rfl,λu' hu'=>by rw [hu] at hu';cases hu';exact h2⟩
 ·obtain ⟨ns,rfl,hn⟩:=pE (P:=λi n=>∀u,us[i]?=some u->(n:Rat)=jL ss i cc*(u:Rat)) hr1;rw [aA,aA] at hy;exact k D ns H1 s1 hD e1 Oo λi n u h1 h2=>hn i n h1 u h2
end
structure DP(kvs:List (List eO × V))(S:List (List Nat))(R:List Nat->V->Prop):Prop where
 yes:∀c∈S,∃v,fG kvs (kT (ci c))=some v/\R c v
 len:kvs.length<=2*S.length
theorem DP.put{kvs:List (List eO × V)}{S:List (List Nat)}{R:List Nat->V->Prop}(h:DP kvs S R){c:List Nat}{v:V}(r:R c v):DP (iY kvs (kT (ci c)) v) (c::S) R:=by
 refine ⟨λd hd=>?_,by have:=h.len;have:=eQ kvs (kT (ci c)) v;rw [bQ];omega⟩;rw [iC];by_cases e:d=c
 ·subst e;rw [if_pos rfl];exact ⟨v,rfl,r⟩
 ·rw [if_neg λq=>e (kO (kM q))];exact h.yes d ((bF.mp hd).resolve_left e)
theorem DP.put2{kvs:List (List eO × V)}{S:List (List Nat)}{R:List Nat->V->Prop}(h:DP kvs S R){c:List Nat}{u v:V}(r:R c v):DP (iY (iY kvs (kT (ci c)) u) (kT (ci c)) v) (c::S) R:=by
 refine ⟨λd hd=>?_,by have:=h.len;have:=eQ kvs (kT (ci c)) u;have:=eQ (iY kvs (kT (ci c)) u) (kT (ci c)) v;rw [bQ];omega⟩;rw [iC];by_cases e:d=c
 ·subst e;rw [if_pos rfl];exact ⟨v,rfl,r⟩
 ·rw [if_neg λq=>e (kO (kM q)),iC,if_neg λq=>e (kO (kM q))];exact h.yes d ((bF.mp hd).resolve_left e)
structure aBb(W:Nat)(ps:List Fr)(us:List Nat)(cu:Nat)(fns:List Int)(cf:Int)(U:Nat):Prop where
 u0:0<U
 fl:fns.length=W
 ul:us.length=W
 fac:∀(i:Nat) (f:Int) (u:Nat),fns[i]?=some f->us[i]?=some u->(f:Rat)*(u:Rat)=(U:Rat)*cL ps i/\f.natAbs<2^4000
 cfu:(cf:Rat)*(cu:Rat)=(U:Rat)
 cz:cf.natAbs<2^4000
 uz:∀u∈us,u<2^3000
 cuz:cu<2^3000
def WJ(kvs:List (List eO × V))(rs:List (List Nat))(best:List Nat->Nat):Prop:=(∀c∈rs,fG kvs (kT (ci c))=some (.int (best c:Nat)))/\kvs.length<=1000
@[irreducible] def qH(C:Addr):Sp:=λvs H Q _=>∃(x fa:Addr) (cf:Int) (fns:List Int) (F W M Ns Nm Np Nc B U:Nat) (ss:List (List Fr)) (mix ps cs:List Fr) (us:List Nat) (cu:Nat),vs=[.ref x,.ref fa,.int cf]/\yB H x C F W M ss mix cs us cu/\H fa=some (.lst (fns.map V.int))/\iN F W M ss mix ps cs Ns Nm Np Nc B/\aBb W ps us cu fns cf U/\(rise F M).length<=400 /\
 ∀a bp z kvs best H',aU H H'->H' a=some (.tup [.ref bp,z])->H' bp=some (.dT kvs)->WJ kvs (rise F M) best->(∀c∈rise F M,MK F W M ss mix ps cs c (best c))->Q (.ref a) H'
theorem FU{C:Addr}{H:Hp}{Q:VK}{E:XK}{x fa:Addr}{cf:Int}{fns:List Int}{F W M Ns Nm Np Nc B U:Nat}{ss:List (List Fr)}{mix ps cs:List Fr}{us:List Nat}{cu:Nat}(h1:yB H x C F W M ss mix cs us cu)(h2:H fa=some (.lst (fns.map V.int)))(h3:iN F W M ss mix ps cs Ns Nm Np Nc B)(h4:aBb W ps us cu fns cf U)(h5:(rise F M).length<=400)
  (k:∀a bp z kvs best H',aU H H'->H' a=some (.tup [.ref bp,z])->H' bp=some (.dT kvs)->WJ kvs (rise F M) best->(∀c∈rise F M,MK F W M ss mix ps cs c (best c))->Q (.ref a) H'):qH C [.ref x,.ref fa,.int cf] H Q E:=by
 unfold qH;exact ⟨x,fa,cf,fns,F,W,M,Ns,Nm,Np,Nc,B,U,ss,mix,ps,cs,us,cu,rfl,h1,h2,h3,h4,h5,k⟩
theorem CM:∀ns:List Int,((ns.sum:Int):Rat)=rH (ns.map λ(n:Int)=>(n:Rat))
 | []=>rfl
 | a::ns=>by rw [List.sum_cons,Rat.intCast_add,CM ns];rfl
theorem CL{n:Nat}{ns:List Int}{d:Nat->Rat}(hl:ns.length=n)(h:∀(i:Nat) (m:Int),ns[i]?=some m->(m:Rat)=d i):((ns.sum:Int):Rat)=cD n d:=by
 rw [CM];unfold cD;congr 1;refine List.ext_getElem? λi=>?_;rw [aN,aN];by_cases q:i<n
 ·obtain ⟨m,hm⟩:∃m,ns[i]?=some m:=⟨_,aB Oo⟩;rw [hm,cK q];show some (m:Rat)=some (d i);rw [h i m hm]
 ·rw [dF Oo,dF (by rw [bD];omega)];rfl
theorem OH{n:Nat}(h:n<2^3000){b:Nat}(hb:b<=2^100):b*n<2^4000:=by
 have h1:b*n<=2^100*n:=bT _ hb;have h2:2^100*n<2^100*2^3000:=Nat.mul_lt_mul_of_pos_left h (Nat.two_pow_pos _);rw [<-Nat.pow_add] at h2;exact bA h1 (aV h2 (aJ Dd Dd))
section
theorem aDu(F:iV K "best_places" "best_places" KH f fd)(T:kD K mg c)(FQ53:eZ cS P w K mg base 1 "weights_at" ["weighing","counts"] (wS c.Weighing))(FQ36:eZ cS P w K mg base 2 "ones_more" ["counts"] fY):dM P w K mg base cS 3 f fd ["weighing","factors","cost_factor"] (qH c.Weighing):=by
 refine F.oky GR λvs H Q E h=>?_;unfold qH at h;obtain ⟨x,fa,cf,fns,F,W,M,Ns,Nm,Np,Nc,B,U,ss,mix,ps,cs,us,cu,rfl,wg,hfa,I,G,r4,k⟩:=h;refine ⟨rfl,λcdv A outer s hr=>?_⟩;have f1:=I.f1;have f4:=I.f4;have w1:=I.w1;have w4:=I.w4;have hB:=I.b;have O:=T.w_Weighing;have UR:(0:Rat)<(U:Rat):=by exact_mod_cast G.u0
 have nsp:0<Ns^M:=Nat.pos_of_ne_zero λz=>by have:=I.pos;rw [z,Nat.mul_zero] at this;exact bY _ this
 refine ⟨_,(aH (bJ (i:=3) GR.nd rfl (Or.inl rfl) lU)
  (aH (bJ (i:=4) GR.nd rfl (Or.inr rfl) lU)
  (aH (fD PassesOwn.never rfl (MS rfl T.b_reversed (aG (gF K (aD 0)) aC)) (cT (i:=5) GR.nd rfl (Or.inl rfl)) (aH (bJ (i:=6) GR.nd rfl (Or.inr rfl) (tU (eJ.of (psc:=aO KH) (N:=["weighing","factors","cost_factor","best_at","worth_of","counts","dues","sums","onward"]) (xs:=["factor","one"]) (N':=["factor","one"]) (js:=[]) Kk rfl rfl rfl) (pR false false rfl T.b_zip (aG (aD 1) (aG (bH FQ53 (hr.mono Dd) (aG (aD 0) (aG (aD 5) aC))) aC))) (λ_ _ _ _=>cY) (λ_ _ _ _=>(bV dO (aD 0) (aD 1)))))
  (aH (iB (i:=7) (dJ.of (psc:=aO KH) (N:=["weighing","factors","cost_factor","best_at","worth_of","counts","dues","sums","onward"]) (N':=["due","dues"]) (js:=[6]) Kk rfl rfl rfl) GR.nd rfl rfl (eI (aD 6)) (λ_ _ _ _=>cY) (λ_ _ _ _=>(bV uJ (jO (VM K rfl) (by rfl) T.b_sum Kk (aG (aD 1) aC)) (aD 0))))
  (aH (iQ hr.u1 (aD 3) (aD 5) (bV dY aM (lH PySem.F.plainAttrs_list PySem.F.slot_list_index PySem.F.type_list_index UV (aD 7) (aG (jO (JG K rfl) (by rfl) T.b_min Kk (aG (aD 7) aC)) aC))))
  (aH (iQ hr.u1 (aD 4) (aD 5) (jO (JG K rfl) (by rfl) T.b_min Kk (aG (aD 7) aC)))
  (aX (lT (gC (OT hr.u1) (aD 5) (gF K (aD 0)) (by with_unfolding_all rfl)) (aH (bJ (i:=8) GR.nd rfl (Or.inl rfl) (bV dY (bV dO (aD 2) (fU hr.u1 (gF K (aD 0)) (aD 5))) (jO (QN rfl) (by rfl) T.b_sum Kk (aG (fX (dJ.of (psc:=aO KH) (N:=["weighing","factors","cost_factor","best_at","worth_of","counts","dues","sums","onward"]) (N':=["more","worth_of"]) (js:=[4]) Kk rfl rfl rfl) (eI (bH FQ36 (hr.mono Dd) (aG (aD 5) aC))) (λ_ _ _ _=>cY) (λ_ _ _ _=>(fU hr.u1 (aD 1) (aD 0)))) aC))))
  (aX (lT (gC xD (aD 8) (fU hr.u1 (aD 4) (aD 5)) (nomark _)) (aH (iQ hr.u1 (aD 3) (aD 5) (mR (v:=.int 0) rfl T.g_LOOKS_ON ⟨_,rfl⟩))
  (aX (iQ hr.u1 (aD 4) (aD 5) (aD 8)))) iO))) iO)))))))
  (aX (cB (dS (aG (aD 3) (aG (fU hr.u1 (aD 4) (bX bO (gF K (aD 0)) aM (λ_ _=>rfl))) aC)))))))),?_⟩
 intro bp hbp;have s1:=aU.upd (o:=.dT []) hbp;have e1:(upd H bp (.dT [])) bp=some (.dT []):=bK;generalize upd H bp (.dT [])=H1 at s1 e1 ⊢;intro wp hwp;have s2:=aU.upd (o:=.dT []) hwp;have e2:(upd H1 wp (.dT [])) wp=some (.dT []):=bK;generalize upd H1 wp (.dT [])=H2 at s2 e2 ⊢;have nwb:wp≠bp:=λz=>by rw [z,e1] at hwp;cases hwp
 have hwp0:H wp=none:=s1.free hwp;have s02:=s1.trans s2;obtain ⟨ul,dx,fl,ra,ua,wa,ca,tas,ckv,a0,a1,a2,a3,a4,a5,⟨vs,a6,a6r⟩,a7,a8,a9,a10,a11⟩:=id wg;have lvs:vs.length=(rise F M).length:=by rw [a6r.len,aA]
 refine ⟨_,rfl,?_⟩;refine rM O (by simp) (s02 _ _ a0) a1 ?_;refine ⟨ra,vs,rfl,fI.of (s02 _ _ a6),?_⟩;refine IU (xs:=vs) (λi σ H'=>∃(o5 o6 o7 o8:Option V) (kb kw:List (List eO × V)),σ=[some (.ref x),some (.ref fa),some (.int cf),some (.ref bp),some (.ref wp),o5,o6,o7,o8]/\aU H H'/\H' bp=some (.dT kb)/\H' wp=some (.dT kw) /\
   DP kb ((rise F M).drop (vs.length-i)) (λc v=>∃b:Nat,v=.int (b:Int)/\MK F W M ss mix ps cs c b)/\DP kw ((rise F M).drop (vs.length-i)) (λc v=>∃n:Int,v=.int n/\(n:Rat)=(U:Rat)*wor F W M ss mix ps cs c))
  ⟨_,_,_,_,[],[],rfl,s02,s2 _ _ e1,e2,⟨(λc hc=>by rw [Nat.sub_zero,lvs,List.drop_length] at hc;cases hc),cG _⟩,⟨(λc hc=>by rw [Nat.sub_zero,lvs,List.drop_length] at hc;cases hc),cG _⟩⟩ (λi σ H' _ q=>?_) ?_ ?_
 ·obtain ⟨_,_,_,_,_,_,_,S',_⟩:=q;exact fI.of (S' _ _ a6)
 ·rintro i y σ H3 hi hy ⟨o5,o6,o7,o8,kb,kw,rfl,S3,e3b,e3w,Db,Dw⟩;obtain ⟨cc,hc,rc0⟩:=dX a6r hy;have hcr:=aF hc;have hcm:=(iL f1).mp hcr;have lkb:=Db.len;have lkw:=Dw.len;rw [List.length_drop] at lkb lkw;refine ⟨_,rfl,_,rfl,_,rfl,?_⟩;refine NP (wg.same S3) (rc0.same S3) hcr Oo λD1 ns H4 s4 hD1 e4 ln hns=>?_;refine ⟨fa,D1,_,_,rfl,s4 _ _ (S3 _ _ hfa),e4,?_⟩;refine oJ (λj z _=>∃n,z=.int n/\(n:Rat)=(U:Rat)*nB ss ps cc j) (λ_ _ _ _ _ h=>h) (by rw [aA,G.fl];omega) (s4 _ _ (S3 _ _ hfa)) e4 (by rw [aA,aA,G.fl,ln]) (λj u v H' Q' hu hv s' k'=>?_) (λD2 zs H5 hD2 e5 s5 hz5 hr5=>?_)
  ·rw [aN] at hu hv;obtain ⟨fj,hfj,rfl⟩:=eL.mp hu;obtain ⟨nj,hnj,rfl⟩:=eL.mp hv;have lj:=(aI.mp hfj).1;have hjW:j<W:=by rw [<-G.fl];exact lj
   obtain ⟨uj,huj⟩:∃u,us[j]?=some u:=⟨_,aB (by rw [G.ul];exact hjW)⟩;obtain ⟨g1,g2⟩:=G.fac j fj uj hfj huj;have g3:=hns j nj uj hnj huj;have g4:=xL (I.qn hjW hcm.2) nsp g3;refine ⟨_,rfl,_,rfl,_,_,rfl,rfl,oE g2 (bA g4 (OH (G.uz uj (aF huj)) Dd)),?_⟩;refine k' _ H' (aU.refl _) ⟨_,rfl,?_⟩;rw [Rat.intCast_mul,g3];show (fj:Rat)*(jL ss j cc*(uj:Rat))=(U:Rat)*(cL ps j*jL ss j cc);grind
  obtain ⟨ds,rfl,hds⟩:=pE (P:=λj n=>(n:Rat)=(U:Rat)*nB ss ps cc j) hr5;have ld:ds.length=W:=by rw [aA,aA,G.fl] at hz5;exact hz5
  have sd:=CL ld hds;rw [iF] at sd;refine ⟨_,rfl,D2,rfl,⟨_,fI.of e5⟩,?_⟩;refine gJ (λj z _=>∃n,z=.int n/\(n:Rat)=(U:Rat)*(cD W (nB ss ps cc)-nB ss ps cc j)) (λ_ _ _ _ _ h=>h) (by rw [aA];omega) e5 (λj v H' Q' hv s' k'=>?_) (λD3 zs H6 hD3 e6 s6 hz6 hr6=>?_)
  ·rw [aN] at hv;obtain ⟨dj,hdj,rfl⟩:=eL.mp hv;refine ⟨_,rfl,?_⟩;refine rsI (fI.of (s' _ _ e5)) ?_;refine ⟨_,rfl,_,_,rfl,rfl,?_⟩;refine k' _ H' (aU.refl _) ⟨_,rfl,?_⟩;rw [Rat.intCast_sub,sd,hds j dj hdj];grind
  obtain ⟨zs,rfl,hzs⟩:=pE (P:=λj n=>(n:Rat)=(U:Rat)*(cD W (nB ss ps cc)-nB ss ps cc j)) hr6;have lz:zs.length=W:=by rw [aA,aA] at hz6;omega
  have S6:aU H H6:=((S3.trans s4).trans s5).trans s6;have e6b:=s6 _ _ (s5 _ _ (s4 _ _ e3b));have e6w:=s6 _ _ (s5 _ _ (s4 _ _ e3w));obtain ⟨ac,rfl,hac⟩:=gK rc0;refine ⟨_,rfl,FF e6,_,rfl,?_⟩;refine rmnl (fI.of e6) Oo λm hm hle=>?_;obtain ⟨j,hj1,hj2⟩:=QC hm;refine aDJ e6 hj1 hj2 Oo ?_;refine ⟨_,_,rfl,rfl,_,rfl,_,rfl,?_⟩;have em:=OZ UR lz hzs hm hle;have ej:cD W (nB ss ps cc)-nB ss ps cc j=kF (kE W (nB ss ps cc)):=FZ UR (by rw [<-hzs j m hj1,em]);have ljW:j<W:=by rw [<-lz];exact (aI.mp hj1).1
  refine RK e6b (c:=ci cc) (by rw [eK];exact S6 _ _ hac) Oo λH7 e7b b7=>?_;have nbD:D3≠bp:=λz=>by rw [z] at hD3;rw [s5 _ _ (s4 _ _ e3b)] at hD3;cases hD3
  have nwD:D3≠wp:=λz=>by rw [z] at hD3;rw [s5 _ _ (s4 _ _ e3w)] at hD3;cases hD3
  have e7:=b7.at nbD e6;have e7w:=b7.at nwb e6w;have S7:aU H H7:=aU.thru hbp S6 b7;refine ⟨_,rfl,?_⟩;refine rmnl (fI.of e7) Oo λm' hm' hle'=>?_;have emm:m'=m:=Int.le_antisymm (hle' m hm) (hle m' hm');subst emm;refine ⟨_,rfl,_,rfl,?_⟩;refine RK e7w (c:=ci cc) (by rw [eK];exact S7 _ _ hac) Oo λH8 e8w b8=>?_;have e8b:=b8.at (Ne.symm nwb) e7b;have S8:aU H H8:=aU.thru hwp0 S7 b8;have hac8:=S8 _ _ hac;have hdrop:(rise F M).drop (vs.length-(i+1))=cc::(rise F M).drop (vs.length-i):=by
   have hk:(rise F M)[vs.length-1-i]?=some cc:=hc;obtain ⟨l1,l2⟩:=aI.mp hk;have:vs.length-(i+1)=vs.length-1-i:=Oo;rw [this,List.drop_eq_getElem_cons l1,l2,show vs.length-1-i+1=vs.length-i by omega]
  refine ⟨_,rfl,_,rfl,?_⟩;refine rM O (by simp) (S8 _ _ a0) a5 ?_;refine rind (dgI (cc:=cc) (S8 _ _ a10) hac8) ?_;refine ⟨_,rfl,?_⟩;by_cases hlt:cc.sum<M
  ·have hah:cc∈ahd F M:=iA.mpr ⟨hcr,cP hlt⟩;obtain ⟨m2,hm2,em2⟩:=a11.yes cc hah;rw [hm2];refine PN rfl ?_;refine ⟨_,rfl,_,rfl,?_⟩;refine rM O (by simp) (S8 _ _ a0) a5 ?_;refine ⟨_,rfl,?_⟩;refine LL (S8 _ _ a10) (c:=ci cc) (by rw [eK];exact hac8) hm2 ?_;have m2z:=xL (show Qn _ (B*4) (GJ W ss mix cs cc) by have:=(JL I hlt).q;rwa [cW] at this) I.pos em2;refine ⟨_,_,rfl,rfl,oE G.cz (bA m2z (OH G.cuz (aK (show B*4<=4000000 by omega) (aK (show 4000000<=2^22 by decide) (aJ Dd Dd))))),?_⟩;refine ⟨_,rfl,?_⟩;refine jX (pJ hac8) Oo λD4 ms H9 hD4 e9 r9 s9=>?_;refine ⟨D4,rfl,⟨_,fI.of e9⟩,?_⟩;have lms:ms.length=cc.length:=by rw [r9.len,aA,aA,bD]
   refine gJ (λq z _=>∃n,z=.int n/\(n:Rat)=(U:Rat)*wor F W M ss mix ps cs (bP cc q)) (λ_ _ _ _ _ h=>h) Oo e9 (λq v H' Q' hv s' k'=>?_) (λD5 ws H10 hD5 e10 s10 hz10 hr10=>?_)
   ·obtain ⟨c2,hc2,rc2⟩:=dX (g:=λc=>mL c) r9 hv;have hq:q<cc.length:=by have:=(aI.mp hv).1;omega
    rw [aN,cK hq] at hc2;cases hc2;obtain ⟨a2,rfl,ha2⟩:=gK (rc2.same s');have bs:=gB (c:=cc) (j:=q) hq;have hin:bP cc q∈rise F M:=(iL f1).mpr ⟨by rw [lD];exact hcm.1,Oo⟩;have hbe:=vG hc hin Oo;rw [show vs.length-1-i+1=vs.length-i by omega] at hbe;obtain ⟨v2,hv2,n2,rfl,en2⟩:=Dw.yes _ hbe;refine ⟨_,rfl,_,rfl,?_⟩;refine LL (s' _ _ (s9 _ _ e8w)) (c:=ci (bP cc q)) (by rw [eK];exact ha2) (v:=.int n2) ?_ ?_
    ·rw [iC,if_neg λz=>?_]
     ·exact hv2
     ·have:=kO (kM z);rw [this] at bs;omega
    ·exact k' _ H' (aU.refl _) ⟨n2,rfl,en2⟩
   obtain ⟨ws,rfl,hws⟩:=pE (P:=λq n=>(n:Rat)=(U:Rat)*wor F W M ss mix ps cs (bP cc q)) hr10;have lws:ws.length=F:=by rw [aA] at hz10;omega
   refine rsI (fI.of e10) ?_;have sw:=CL lws hws;rw [iF] at sw;refine ⟨_,_,rfl,rfl,?_⟩;have eon:((cf*m2+ws.sum:Int):Rat)=(U:Rat)*RH F W M ss mix ps cs cc:=by
    rw [Rat.intCast_add,Rat.intCast_mul,sw,em2];have:=G.cfu;unfold RH;grind
   have S10:=(S8.trans s9).trans s10;have e10w:=s10 _ _ (s9 _ _ e8w);have e10b:=s10 _ _ (s9 _ _ e8b);have hac10:=S10 _ _ hac;refine ⟨_,rfl,_,rfl,_,rfl,?_⟩;refine LL e10w (c:=ci cc) (by rw [eK];exact hac10) (v:=.int m') (by rw [iC,if_pos rfl]) ?_;refine ⟨_,_,rfl,rfl,_,rfl,?_⟩;have key:(cf*m2+ws.sum<m')↔RH F W M ss mix ps cs cc<kF (kE W (nB ss ps cc)):=by
    rw [<-ZY UR,<-eon,<-em];exact ⟨λh=>by exact_mod_cast h,λh=>by exact_mod_cast h⟩
   refine rZ (λhl=>?_) (λhl=>?_)
   ·obtain ⟨B1,B2⟩:=aA1 w1 hcm.1 hlt (key.mp hl);refine ⟨_,rfl,_,rfl,?_⟩;have l1:=eQ kb (kT (ci cc)) (.int (1+(j:Int)));have l2:=eQ kw (kT (ci cc)) (.int m');refine RK e10b (c:=ci cc) (by rw [eK];exact hac10) (aK l1 Oo) λH11 e11b b11=>?_;have S11:aU H H11:=aU.thru hbp S10 b11;refine ⟨_,rfl,_,rfl,_,rfl,?_⟩;refine RK (b11.at nwb e10w) (c:=ci cc) (by rw [eK];exact S11 _ _ hac) (aK l2 Oo) λH12 e12w b12=>?_;refine ⟨_,_,_,_,_,_,rfl,aU.thru hwp0 S11 b12,b12.at (Ne.symm nwb) e11b,e12w,?_,?_⟩
    ·rw [hdrop];exact Db.put2 ⟨0,rfl,B1⟩
    ·rw [hdrop];exact Dw.put2 ⟨_,rfl,by rw [B2];exact eon⟩
   ·obtain ⟨B1,B2⟩:=ER (mix:=mix) (cs:=cs) (M:=M) w1 hcm.1 ljW ej λ_ h=>hl (key.mpr h);refine ⟨_,_,_,_,_,_,rfl,S10,e10b,e10w,?_,?_⟩
    ·rw [hdrop];exact Db.put ⟨1+j,by push_cast;rfl,B1⟩
    ·rw [hdrop];exact Dw.put ⟨_,rfl,by rw [B2];exact em⟩
  ·have hno:cc ∉ ahd F M:=λz=>hlt (of_decide_eq_true (iA.mp z).2);rw [a11.no cc hno];refine PQ rfl ?_;obtain ⟨B1,B2⟩:=ER (mix:=mix) (cs:=cs) (M:=M) w1 hcm.1 ljW ej λh=>absurd h hlt;refine ⟨_,_,_,_,_,_,rfl,S8,e8b,e8w,?_,?_⟩
   ·rw [hdrop];exact Db.put ⟨1+j,by push_cast;rfl,B1⟩
   ·rw [hdrop];exact Dw.put ⟨_,rfl,by rw [B2];exact em⟩
 ·rintro σ H3 ⟨o5,o6,o7,o8,kb,kw,rfl,S3,e3b,e3w,Db,Dw⟩;rw [Nat.sub_self,List.drop_zero] at Db Dw;obtain ⟨c0,hc0⟩:∃c0,(rise F M)[0]?=some c0:=by
   have:List.replicate F 0∈rise F M:=(iL f1).mpr ⟨eV,by simp⟩;exact ⟨_,aB (List.length_pos_of_mem this)⟩
  obtain ⟨y0,hy0,ry0⟩:=fQ a6r hc0;obtain ⟨v0,hv0,_⟩:=Dw.yes c0 (aF hc0);obtain ⟨q0,rfl,hq0⟩:=gK ry0;refine ⟨_,rfl,_,rfl,_,rfl,?_⟩;refine rM O (by simp) (S3 _ _ a0) a1 ?_;refine PM (S3 _ _ a6) (dU (j:=0) hy0) ?_;refine LL e3w (c:=ci c0) (by rw [eK];exact S3 _ _ hq0) hv0 ?_;refine rK (by show 2<=64;decide) λq4 H4 hq4 e4 s4=>?_;have lb:=Db.len;have ch:∀cc:List Nat,∃b:Nat,cc∈rise F M->fG kb (kT (ci cc))=some (.int (b:Int))/\MK F W M ss mix ps cs cc b:=λcc=>by
   by_cases q:cc∈rise F M
   ·obtain ⟨v,h1,b,rfl,h2⟩:=Db.yes cc q;exact ⟨b,λ_=>⟨h1,h2⟩⟩
   ·exact ⟨0,λz=>absurd z q⟩
  refine k q4 bp v0 kb (λcc=>Classical.choose (ch cc)) H4 (S3.trans s4) e4 (s4 _ _ e3b) ⟨λcc hc=>(Classical.choose_spec (ch cc) hc).1,Oo⟩ λcc hc=>(Classical.choose_spec (ch cc) hc).2
end
abbrev ZF:Stmt:=(top 25)
theorem aDY:bS ["says"] ["says"] (aO ZF):=⟨rfl,rfl,rfl,Kk,rfl,Kk,Kk⟩
abbrev SX:Stmt:=(top 20)
theorem aDX:bS ["faces"] ["faces"] (aO SX):=⟨rfl,rfl,rfl,Kk,rfl,Kk,Kk⟩
abbrev SU:Stmt:=(top 51)
theorem VR:bS ["weighing","best_at","ways","table","counts"] ["weighing","best_at"] (aO SU):=⟨rfl,rfl,rfl,Kk,rfl,Kk,Kk⟩
abbrev ZM:Stmt:=(top 27)
theorem VX:bS ["level","table","found","counts","more"] ["level","table"] (aO ZM):=⟨rfl,rfl,rfl,Kk,rfl,Kk,Kk⟩
abbrev ZL:Stmt:=(top 26)
theorem VW:bS ["faces","table","found","level"] ["faces","table"] (aO ZL):=⟨rfl,rfl,rfl,Kk,rfl,Kk,Kk⟩
abbrev SS:Stmt:=(top 28)
theorem aDT:bS ["faces","table"] ["faces","table"] (aO SS):=⟨rfl,rfl,rfl,Kk,rfl,Kk,Kk⟩
theorem uK{α:Type}[DecidableEq α]:∀{l m:List α},l.Nodup->(∀x∈l,x∈m)->l.length<=m.length
 | [],m,_,_=>cG _
 | x::l,m,h,hs=>by
  rw [List.nodup_cons] at h;have hx:=hs x (aW ..);have h1:=uK (l:=l) (m:=m.erase x) h.2 λy hy=>(List.mem_erase_of_ne (λe=>by subst e;exact h.1 hy)).mpr (hs y (aS _ hy));rw [List.length_erase_of_mem hx] at h1;have:0<m.length:=List.length_pos_of_mem hx;rw [bQ];omega
theorem aAE{kvs:List (List eO × V)}{ks:List (List Int)}{v:V}(c:List Int)(hk:kvs.map (·.1)=ks.map kT)(nd:ks.Nodup):∃ks2:List (List Int),(iY kvs (kT c) v).map (·.1)=ks2.map kT/\ks2.Nodup/\∀x,x∈ks2↔x∈ks\/x=c:=by
 cases e:fG kvs (kT c) with
 | some u =>
  refine ⟨ks,by rw [yK (by rw [e];rfl),hk],nd,λx=>⟨.inl,λh=>?_⟩⟩;rcases h with h | rfl
  ·exact h
  ·have:kT x∈kvs.map (·.1):=HQ e;rw [hk] at this;obtain ⟨y,hy,ey⟩:=aQ.mp this;rw [<-kM ey];exact hy
 | none =>
  have hn:c ∉ ks:=λh=>by
   have:kT c∈kvs.map (·.1):=by rw [hk];exact List.mem_map_of_mem h
   exact MZ e this
  refine ⟨ks++[c],by rw [DF v e,bE,bE,hk];rfl,List.nodup_append.mpr ⟨nd,by simp,λa ha b hb e=>by cases aY.mp hb;subst e;exact hn ha⟩,λx=>by rw [cE,aY]⟩
theorem VJ:∀F,F<=4->∀m,m<=5->((cta F m).map ci).Pairwise (λa b=>pD a b=true):=Kk
theorem ctI(c:List Nat):PyData.tuple ((ci c).map .int)=mL c:=by unfold ci;rw [List.map_map];rfl
def RB(K:PySem.W.Frag)(H:Hp)(fs:List Fr)(z:V):Prop:=∃sa sx,z=.ref sa/\H sa=some (.tup sx)/\vC K H fs sx
theorem RB.t{K:PySem.W.Frag}{H H':Hp}{fs:List Fr}{z:V}(s:dC H H')(h:RB K H fs z):RB K H' fs z:=by
 obtain ⟨sa,sx,h1,h2,h3⟩:=h;exact ⟨sa,sx,h1,s _ _ h2,h3.t s⟩
theorem vC.get{K:PySem.W.Frag}{H:Hp}{fs:List Fr}{xs:List V}(h:vC K H fs xs){i:Nat}{f:Fr}(e:fs[i]?=some f):∃x,xs[i]?=some x/\yF K H f x:=by
 have li:=(aI.mp e).1;have hx:xs[i]?=some (xs[i]'(by rw [h.len];exact li)):=aB (by rw [h.len];exact li);obtain ⟨g,h1,h2⟩:=h.at_ i _ hx;rw [e] at h1;cases h1;exact ⟨_,hx,h2⟩
def MH(K:PySem.W.Frag)(H:Hp)(d:Addr)(rs:List (List Nat))(W:Nat)(best:List Nat->Nat):Prop:=∃kvs,H d=some (.dT kvs)/\∀c∈rs,∃v,fG kvs (kT (ci c))=some v/\RB K H (AX W (best c)) v
theorem MH.same{K:PySem.W.Frag}{H H':Hp}{d:Addr}{rs:List (List Nat)}{W:Nat}{best:List Nat->Nat}(s:aU H H')(h:MH K H d rs W best):MH K H' d rs W best:=by
 obtain ⟨kvs,h1,h2⟩:=h;exact ⟨kvs,s _ _ h1,λc hc=>by obtain ⟨v,g1,g2⟩:=h2 c hc;exact ⟨v,g1,g2.t s.t⟩⟩
def EnW(K:PySem.W.Frag)(H:Hp)(e:dH)(x:V):Prop:=∃b cu z,x=.ref b/\H b=some (.tup [.ref cu,z])/\H cu=some (.tup (e.1.map EY))/\RB K H e.2 z
theorem EnW.t{K:PySem.W.Frag}{H H':Hp}{e:dH}{x:V}(s:dC H H')(h:EnW K H e x):EnW K H' e x:=by
 obtain ⟨b,cu,z,h1,h2,h3,h4⟩:=h;exact ⟨b,cu,z,h1,s _ _ h2,s _ _ h3,h4.t s⟩
def yC(K:PySem.W.Frag)(H:Hp)(es:List dH)(v:V):Prop:=∃a xs,v=.ref a/\H a=some (.tup xs)/\xs.length=es.length/\∀(i:Nat) (x:V),xs[i]?=some x->∃e,es[i]?=some e/\EnW K H e x
theorem yC.t{K:PySem.W.Frag}{H H':Hp}{es:List dH}{v:V}(s:dC H H')(h:yC K H es v):yC K H' es v:=by
 obtain ⟨a,xs,h1,h2,h3,h4⟩:=h;exact ⟨a,xs,h1,s _ _ h2,h3,λi x hx=>by obtain ⟨e,g1,g2⟩:=h4 i x hx;exact ⟨e,g1,g2.t s⟩⟩
@[irreducible] def kJ(K:PySem.W.Frag):Sp:=λvs H Q _=>∃(z:V) (f:Fr) (fs:List Fr),vs=[z]/\RB K H (f::fs) z/\Q (.bl (decide (0<f.1))) H
theorem qB{K:PySem.W.Frag}{H:Hp}{Q:VK}{E:XK}{z:V}{f:Fr}{fs:List Fr}(h1:RB K H (f::fs) z)(k:Q (.bl (decide (0<f.1))) H):kJ K [z] H Q E:=by
 unfold kJ;exact ⟨z,f,fs,rfl,h1,k⟩
@[irreducible] def kI:Sp:=λvs H Q _=>∃F:Nat,vs=[.int (F:Int)]/\F<=64/\∀v H',aU H H'->cA H' (mL (List.replicate F 0)) v->Q v H'
theorem sK{H:Hp}{Q:VK}{E:XK}{F:Nat}(h:F<=64)(k:∀v H',aU H H'->cA H' (mL (List.replicate F 0)) v->Q v H'):kI [.int (F:Int)] H Q E:=by
 unfold kI;exact ⟨F,rfl,h,k⟩
structure yD(F W M:Nat)(best:List Nat->Nat):Prop where
 f1:1<=F
 f4:F<=4
 w4:W<=4
 m5:M<=5
 on:∀c,best c=0->c.sum<M
 r:(rise F M).length<=400
@[irreducible] def nP(K:PySem.W.Frag)(C:Addr):Sp:=λvs H Q _=>∃(x bp:Addr) (kb:List (List eO × V)) (F W M:Nat) (ss:List (List Fr)) (mix cs:List Fr) (us:List Nat) (cu:Nat) (best:List Nat->Nat),vs=[.ref x,.ref bp]/\yB H x C F W M ss mix cs us cu/\H bp=some (.dT kb)/\WJ kb (rise F M) best/\W<=4/\(rise F M).length<=400 /\
 ∀d H',aU H H'->MH K H' d (rise F M) W best->Q (.ref d) H'
theorem CS{K:PySem.W.Frag}{C:Addr}{H:Hp}{Q:VK}{E:XK}{x bp:Addr}{kb:List (List eO × V)}{F W M:Nat}{ss:List (List Fr)}{mix cs:List Fr}{us:List Nat}{cu:Nat}{best:List Nat->Nat}(h1:yB H x C F W M ss mix cs us cu)(h2:H bp=some (.dT kb))(h3:WJ kb (rise F M) best)(h4:W<=4)(h5:(rise F M).length<=400)
  (k:∀d H',aU H H'->MH K H' d (rise F M) W best->Q (.ref d) H'):nP K C [.ref x,.ref bp] H Q E:=by
 unfold nP;exact ⟨x,bp,kb,F,W,M,ss,mix,cs,us,cu,best,rfl,h1,h2,h3,h4,h5,k⟩
@[irreducible] def qE(K:PySem.W.Frag):Sp:=λvs H Q _=>∃(L d:Addr) (F W M k:Nat) (best:List Nat->Nat),vs=[.ref L,.ref d]/\jN H L (lvl F best k)/\MH K H d (rise F M) W best/\yD F W M best/\k<=M/\∀D H',aU H H'->H D=none->jN H' D (lvl F best (k+1))->Q (.ref D) H'
theorem FR{K:PySem.W.Frag}{H:Hp}{Q:VK}{E:XK}{L d:Addr}{F W M k:Nat}{best:List Nat->Nat}(h1:jN H L (lvl F best k))(h2:MH K H d (rise F M) W best)(h3:yD F W M best)(h4:k<=M)(q:∀D H',aU H H'->H D=none->jN H' D (lvl F best (k+1))->Q (.ref D) H'):qE K [.ref L,.ref d] H Q E:=by
 unfold qE;exact ⟨L,d,F,W,M,k,best,rfl,h1,h2,h3,h4,q⟩
@[irreducible] def qC(K:PySem.W.Frag):Sp:=λvs H Q _=>∃(d:Addr) (F W M:Nat) (best:List Nat->Nat),vs=[.int (F:Int),.ref d]/\MH K H d (rise F M) W best/\yD F W M best/\∀D H',aU H H'->H D=none->jN H' D (DC F M best)->Q (.ref D) H'
theorem FQ{K:PySem.W.Frag}{H:Hp}{Q:VK}{E:XK}{d:Addr}{F W M:Nat}{best:List Nat->Nat}(h2:MH K H d (rise F M) W best)(h3:yD F W M best)(q:∀D H',aU H H'->H D=none->jN H' D (DC F M best)->Q (.ref D) H'):qC K [.int (F:Int),.ref d] H Q E:=by
 unfold qC;exact ⟨d,F,W,M,best,rfl,h2,h3,q⟩
@[irreducible] def pX(K:PySem.W.Frag):Sp:=λvs H Q _=>∃(d:Addr) (F W M:Nat) (best:List Nat->Nat),vs=[.int (F:Int),.ref d]/\MH K H d (rise F M) W best/\yD F W M best/\∀v H',aU H H'->yC K H' (rul F W M best) v->Q v H'
theorem FN{K:PySem.W.Frag}{H:Hp}{Q:VK}{E:XK}{d:Addr}{F W M:Nat}{best:List Nat->Nat}(h2:MH K H d (rise F M) W best)(h3:yD F W M best)(q:∀v H',aU H H'->yC K H' (rul F W M best) v->Q v H'):pX K [.int (F:Int),.ref d] H Q E:=by
 unfold pX;exact ⟨d,F,W,M,best,rfl,h2,h3,q⟩
theorem vZ{F M:Nat}{best:List Nat->Nat}(hF:1<=F)(on:∀c,best c=0->c.sum<M):∀j,lvl F best (M+1+j)=[]
 | 0=>by
  refine List.eq_nil_iff_forall_not_mem.mpr λd hd=>?_;obtain ⟨c,hc,h0,_⟩:=(mX hF).mp hd;have h1:=(hV ((lM hF M).subset hc)).2;have:=on c h0;omega
 | j+1=>by
  refine List.eq_nil_iff_forall_not_mem.mpr λd hd=>?_;obtain ⟨c,hc,_⟩:=(mX (k:=M+1+j) hF).mp hd;rw [vZ hF on j] at hc;cases hc
theorem DM{F k:Nat}{best:List Nat->Nat}(hF:1<=F)(h:lvl F best k=[]):∀j,lvl F best (k+j)=[]
 | 0=>h
 | j+1=>by
  refine List.eq_nil_iff_forall_not_mem.mpr λd hd=>?_;obtain ⟨c,hc,_⟩:=(mX (k:=k+j) hF).mp hd;rw [DM hF h j] at hc;cases hc
theorem zQ{F k:Nat}{best:List Nat->Nat}(hF:1<=F)(h:lvl F best k=[]):∀j,(List.range (k+j)).flatMap (lvl F best)=(List.range k).flatMap (lvl F best)
 | 0=>rfl
 | j+1=>by rw [<-Nat.add_assoc,oI,DM hF h j,List.append_nil,zQ hF h j]
section
theorem aDe(F:iV K "looks_on" "looks_on" ZF f fd)(T:kD K mg c):dM P w K mg base cS 1 f fd ["says"] (kJ K):=by
 refine F.oky aDY λvs H Q E h=>?_;unfold kJ at h;obtain ⟨z,f,fs,rfl,⟨sa,sx,rfl,hsa,rsx⟩,k⟩:=h;refine ⟨rfl,λcdv A outer s hr=>?_⟩;obtain ⟨y,hy,ry⟩:=rsx.get (i:=0) rfl;obtain ⟨b,rfl,hb⟩:=ry.v;refine ⟨_,(aX (cB (pS IK (bX bO (bX bO (aD 0) (mR (v:=.int 0) rfl T.g_LOOKS_ON ⟨_,rfl⟩) (λ_ _=>rfl)) aM (λ_ _=>rfl)) aM (nomark _)))),?_⟩;refine ⟨_,rfl,?_⟩;refine mP hsa (dU (j:=0) hy) ?_;refine nF hb rfl ?_;refine ⟨_,_,rfl,rfl,?_⟩;exact k
theorem aDd(F:iV K "noughts" "noughts" SX f fd)(T:kD K mg c):dM P w K mg base cS 1 f fd ["faces"] kI:=by
 refine F.oky aDX λvs H Q E h=>?_;unfold kI at h;obtain ⟨F,rfl,hF,k⟩:=h;refine ⟨rfl,λcdv A outer s hr=>?_⟩;refine ⟨_,(aX (cB (kS dP (by rfl) T.b_tuple Kk (aG (fX (dJ.of (psc:=aO SX) (N:=["faces"]) (N':=["face"]) (js:=[]) Kk rfl rfl rfl) (dG rfl T.b_range (aG (aD 0) aC)) (λ_ _ _ _=>cY) (λ_ _ _ _=>aM)) aC)))),?_⟩;refine ⟨_,rfl,_,rfl,Oo,Oo,?_⟩;refine jR (λi y H'=>∃n,y=.int n/\n=0) (λ_ _ _ _ _ h=>h) Oo (λi H' Q' hi s' k'=>k' _ H' (aU.refl _) ⟨0,rfl,rfl⟩) (λD ys H1 hD e1 s1 hy hr1=>?_);obtain ⟨zs,rfl,hz⟩:=pE (P:=λ_ n=>n=0) hr1;have ez:zs=List.replicate F 0:=by
  rw [aA] at hy;exact List.eq_replicate_iff.mpr ⟨Oo,λb hb=>by obtain ⟨i,h⟩:=eT.mp hb;exact hz i b h⟩
 subst ez;refine ⟨D,_,rfl,.inl ⟨fI.of e1,λl hl=>?_⟩⟩;refine k _ _ (s1.trans (aU.upd hl)) (pJ ?_);rw [bK,List.map_replicate,List.map_replicate];rfl
theorem aC9(F:iV K "plain_table" "plain_table" SU f fd)(T:kD K mg c):dM P w K mg base cS 1 f fd ["weighing","best_at"] (nP K c.Weighing):=by
 refine F.oky VR λvs H Q E h=>?_;unfold nP at h;obtain ⟨x,bp,kb,F,W,M,ss,mix,cs,us,cu,best,rfl,wg,hbp,hbs,w4,r4,k⟩:=h;refine ⟨rfl,λcdv A outer s hr=>?_⟩;obtain ⟨ul,dx,fl,ra,ua,wa,ca,tas,kvs,a0,a1,a2,a3,a4,a5,⟨vs,a6,a6r⟩,a7,a8,a9,a10,a11⟩:=wg;have O:=T.w_Weighing;have lvs:vs.length=(rise F M).length:=by rw [a6r.len,aA]
 refine ⟨_,(aH (bJ (i:=2) VR.nd rfl (Or.inl rfl) (jO nC (by rfl) T.b_len Kk (aG (gF K (aD 0)) aC)))
  (aH (bJ (i:=3) VR.nd rfl (Or.inl rfl) lU)
  (aH (fD PassesOwn.never rfl (eI (gF K (aD 0))) (cT (i:=4) VR.nd rfl (Or.inr rfl)) (aX (iQ hr.u1 (aD 3) (aD 4) (kS dP (by rfl) T.b_tuple Kk (aG (fX (dJ.of (psc:=aO SU) (N:=["weighing","best_at","ways","table","counts"]) (N':=["place","best_at","counts"]) (js:=[1,4]) Kk rfl rfl rfl) (dG rfl T.b_range (aG (bV dY aM (aD 2)) aC)) (λ_ _ _ _=>cY) (λ_ _ _ _=>(CH (gC sV (aD 0) (fU hr.u1 (aD 1) (aD 2)) (nomark _)) (mR (v:=.ref c.ONE) rfl T.g_ONE rfl) (mR (v:=.ref c.NOUGHT) rfl T.g_NOUGHT rfl)))) aC)))))
  (aX (cB (aD 3)))))),?_⟩
 refine ⟨_,rfl,?_⟩;refine rM O (by simp) a0 a2 ?_;refine rlL a7 ?_;rw [aA,ul];intro p hp;have s1:=aU.upd (o:=.dT []) hp;have e1:(upd H p (.dT [])) p=some (.dT []):=bK;generalize upd H p (.dT [])=H1 at s1 e1 ⊢;refine ⟨_,rfl,?_⟩;refine rM O (by simp) (s1 _ _ a0) a1 ?_;refine ⟨ra,rfl,⟨_,fI.of (s1 _ _ a6)⟩,?_⟩;refine kA (xs:=vs) (λi σ H'=>∃(o4:Option V) (kv:List (List eO × V)),σ=[some (.ref x),some (.ref bp),some (.int (W:Int)),some (.ref p),o4]/\aU H H'/\H' p=some (.dT kv)/\kv.length<=i/\∀cc∈(rise F M).take i,∃v,fG kv (kT (ci cc))=some v/\RB K H' (AX W (best cc)) v)
  ⟨_,[],rfl,s1,e1,aL _,λcc hc=>by simp at hc⟩ (λi σ H' _ q=>?_) ?_ ?_
 ·obtain ⟨_,_,_,S',_⟩:=q;exact fI.of (S' _ _ a6)
 ·rintro i y σ H2 hy ⟨o4,kv,rfl,S2,e2,l2,D2⟩;obtain ⟨cc,hc,rc0⟩:=dX a6r hy;have hi:=(aI.mp hy).1;obtain ⟨ac,rfl,hac⟩:=gK rc0;have hb:=hbs.1 cc (aF hc);refine ⟨_,rfl,_,_,rfl,rfl,_,rfl,Oo,Oo,?_⟩;refine jR (λq z H'=>q<1+W/\yF K H' (if q=best cc then (1,1) else (0,1)) z) (λq z Ha Hb s ⟨h1,h2⟩=>⟨h1,h2.t s⟩) Oo (λq H' Q' hq s' k'=>?_) (λD ys H3 hD e3 s3 hy3 hr3=>?_)
  ·have hq:q<1+W:=Oo;rw [Int.zero_add];refine ⟨_,rfl,_,rfl,_,rfl,?_⟩;refine LL (s' _ _ (S2 _ _ hbp)) (c:=ci cc) (by rw [eK];exact s' _ _ (S2 _ _ hac)) hb ?_;refine ⟨rfl,_,rfl,?_⟩;refine rZ (λe=>?_) (λe=>?_)
   ·have e:q=best cc:=by injection e with e;omega
    exact k' _ H' (aU.refl _) ⟨hq,by rw [if_pos e];exact .inr ⟨_,rfl,T.o_ONE⟩⟩
   ·have e:¬q=best cc:=λz=>e (by rw [z]);exact k' _ H' (aU.refl _) ⟨hq,by rw [if_neg e];exact .inr ⟨_,rfl,T.o_NOUGHT⟩⟩
  ·refine ⟨D,ys,rfl,.inl ⟨fI.of e3,λl hl=>?_⟩⟩;have sl:=aU.upd (o:=.tup ys) hl;have el:(upd H3 l (.tup ys)) l=some (.tup ys):=bK;generalize upd H3 l (.tup ys)=H4 at sl el ⊢;have ly:ys.length=1+W:=Oo;have sa:RB K H4 (AX W (best cc)) (.ref l):=⟨l,ys,rfl,el,by unfold AX;rw [aA,bD];exact ly,λq z hz=>by
    obtain ⟨h1,h2⟩:=hr3 q z hz;exact ⟨_,by unfold AX;rw [aN,cK h1];rfl,h2.t sl.t⟩⟩
   refine ⟨_,rfl,_,rfl,?_⟩;have S4:=(S2.trans s3).trans sl;have e4:=sl _ _ (s3 _ _ e2);refine RK e4 (c:=ci cc) (by rw [eK];exact S4 _ _ hac) Oo λH5 e5 b5=>?_;have t5:dC H4 H5:=aR.tT b5 e4;refine ⟨_,_,rfl,aU.thru hp S4 b5,e5,by have:=eQ kv (kT (ci cc)) (V.ref l);omega,λc2 h2=>?_⟩;rw [iC];by_cases e:c2=cc
   ·subst e;rw [if_pos rfl];exact ⟨_,rfl,sa.t t5⟩
   ·rw [if_neg λz=>e (kO (kM z))];rw [gY hc] at h2;rcases cE.mp h2 with h2 | h2
    ·obtain ⟨v,g1,g2⟩:=D2 c2 h2;exact ⟨v,g1,((g2.t s3.t).t sl.t).t t5⟩
    ·exact absurd (aY.mp h2) e
 ·rintro σ H2 ⟨o4,kv,rfl,S2,e2,l2,D2⟩;rw [lvs,cN] at D2;exact ⟨_,rfl,k p H2 S2 ⟨kv,e2,D2⟩⟩
theorem aDo(F:iV K "counts_behind" "counts_behind" ZM f fd)(T:kD K mg c)(FQ33:eZ cS P w K mg base 1 "looks_on" ["says"] (kJ K))(FQ36:eZ cS P w K mg base 2 "ones_more" ["counts"] fY):dM P w K mg base cS 3 f fd ["level","table"] (qE K):=by
 refine F.oky VX λvs H Q E h=>?_;unfold qE at h;obtain ⟨L,d,F,W,M,kk,best,rfl,LS,tb,I,hk,q⟩:=h;refine ⟨rfl,λcdv A outer s hr=>?_⟩;obtain ⟨ys,hL,ry,ly⟩:=LS.len;have f1:=I.f1;have f4:=I.f4;have m5:=I.m5;have key:∀(j:Nat) (d:List Int),(∃c∈(lvl F best kk).take j,best c=0/\∃f,f<F/\d=ci (bP c f))->d∈(lvl F best (kk+1)).map ci:=λj d ⟨c,hc,h0,f,hf,e⟩=>aQ.mpr ⟨bP c f,(mX f1).mpr ⟨c,List.mem_of_mem_take hc,h0,f,hf,rfl⟩,e.symm⟩;have small:(lvl F best (kk+1)).length<=56:=by
  by_cases z:kk+1<=5
  ·exact aK (lM f1 (kk+1)).length_le (uQ F f4 (kk+1) z)
  ·have e:=vZ f1 I.on (kk-M);rw [show M+1+(kk-M)=kk+1 by omega] at e;rw [e];exact cG _
 refine ⟨_,(aH (bJ (i:=2) VX.nd rfl (Or.inl rfl) lU)
  (aH (fD PassesOwn.never rfl (eI (aD 0)) (cT (i:=3) VX.nd rfl (Or.inl rfl)) (aX (lT (XY (MM (gC (OT hr.u1) (aD 3) (aD 1) (by with_unfolding_all rfl)) (HD (wE (bH FQ33 (hr.mono Dd) (aG (fU hr.u1 (aD 1) (aD 3)) aC)))))) (aX (fD PassesOwn.never rfl (eI (bH FQ36 (hr.mono Dd) (aG (aD 3) aC))) (cT (i:=4) VX.nd rfl (Or.inl rfl)) (aX (iQ hr.u1 (aD 2) (aD 4) WK)))) iO)))
  (aX (cB (jO (VN rfl) (by rfl) T.b_sorted Kk (aG (aD 2) aC)))))),?_⟩
 intro p hp;have s1:=aU.upd (o:=.dT []) hp;have e1:(upd H p (.dT [])) p=some (.dT []):=bK;generalize upd H p (.dT [])=H1 at s1 e1 ⊢;refine ⟨_,rfl,L,rfl,⟨_,fI.of (s1 _ _ hL)⟩,?_⟩;refine kA (xs:=ys) (λj σ H'=>∃(o3 o4:Option V) (kvs:List (List eO × V)) (ks:List (List Int)),σ=[some (.ref L),some (.ref d),some (.ref p),o3,o4]/\aU H H'/\H' p=some (.dT kvs)/\kvs.map (·.1)=ks.map kT/\ks.Nodup/\∀d,d∈ks ↔ ∃c∈(lvl F best kk).take j,best c=0/\∃f,f<F/\d=ci (bP c f))
  ⟨_,_,[],[],rfl,s1,e1,rfl,List.nodup_nil,λd=>⟨(λh=>by cases h),λ⟨c,hc,_⟩=>by rw [List.take_zero] at hc;cases hc⟩⟩ (λj σ H' _ q=>?_) ?_ ?_
 ·obtain ⟨_,_,_,_,_,S',_⟩:=q;exact fI.of (S' _ _ hL)
 ·rintro j x σ H2 hx ⟨o3,o4,kvs,ks,rfl,S2,e2,hk2,nd,hm⟩;obtain ⟨cc,hc,rc⟩:=dX ry hx;obtain ⟨ac,rfl,hac⟩:=gK rc;have hcl:=aF hc;obtain ⟨lc,sc⟩:=hV ((lM f1 kk).subset hcl);have hcr:cc∈rise F M:=(iL f1).mpr ⟨lc,Oo⟩;obtain ⟨tk,ht,hty⟩:=tb.same S2;obtain ⟨v,hv,sv⟩:=hty cc hcr;have step:∀d,(∃c∈(lvl F best kk).take (j+1),best c=0/\∃f,f<F/\d=ci (bP c f))↔(∃c∈(lvl F best kk).take j,best c=0/\∃f,f<F/\d=ci (bP c f))\/(best cc=0/\∃f,f<F/\d=ci (bP cc f)):=λd=>by
   rw [gY hc];constructor
   ·rintro ⟨c,hc',h⟩;rcases cE.mp hc' with h' | h'
    ·exact .inl ⟨c,h',h⟩
    ·rw [aY.mp h'] at h;exact .inr h
   ·rintro (⟨c,hc',h⟩ | h)
    ·exact ⟨c,bZ _ hc',h⟩
    ·exact ⟨cc,bI _ (aY.mpr rfl),h⟩
  refine ⟨_,rfl,_,rfl,?_⟩;refine rind (dgI (cc:=cc) ht (S2 _ _ hac)) ?_;rw [hv];refine ⟨_,rfl,?_⟩;refine PP ?_;refine ⟨_,rfl,_,rfl,?_⟩;refine LL ht (c:=ci cc) (by rw [eK];exact S2 _ _ hac) hv ?_;have epl:AX W (best cc)=(if 0=best cc then (1,1) else (0,1))::(List.range W).map λk=>if k+1=best cc then (1,1) else (0,1):=by
   unfold AX;rw [Nat.add_comm,List.range_succ_eq_map,bL,List.map_map];rfl
  rw [epl] at sv;refine qB sv ?_;refine ⟨_,rfl,?_⟩;refine rZ (λon=>?_) (λon=>?_)
  ·have h0:best cc=0:=cF λz=>by rw [if_neg (λy=>z y.symm)] at on;exact absurd on Dd
   refine ⟨_,rfl,?_⟩;refine jX (pJ (S2 _ _ hac)) Oo λD zs H3 hD e3 r3 s3=>?_;refine ⟨D,rfl,⟨_,fI.of e3⟩,?_⟩;have lz:zs.length=F:=by rw [r3.len,aA,aA,bD];exact lc
   have nDp:D≠p:=λz=>by rw [z,e2] at hD;cases hD
   refine kA (xs:=zs) (λg σ H'=>∃(o4:Option V) (kvs:List (List eO × V)) (ks:List (List Int)),σ=[some (.ref L),some (.ref d),some (.ref p),some (.ref ac),o4]/\aR p H3 H'/\H' p=some (.dT kvs)/\kvs.map (·.1)=ks.map kT/\ks.Nodup/\∀d,d∈ks↔(∃c∈(lvl F best kk).take j,best c=0/\∃f,f<F/\d=ci (bP c f))\/∃f,f<g/\d=ci (bP cc f))
    ⟨_,kvs,ks,rfl,(aU.refl _).but,s3 _ _ e2,hk2,nd,λd=>by rw [hm];exact ⟨.inl,λh=>by rcases h with h | ⟨f,hf,_⟩;exact h;omega⟩⟩ (λg σ H' _ q=>?_) ?_ ?_
   ·obtain ⟨_,_,_,_,b',_⟩:=q;exact fI.of (b'.at nDp e3)
   ·rintro g z σ H4 hz ⟨o4',kv4,ks4,rfl,b4,e4,hk4,nd4,hm4⟩;have hg:g<F:=by have:=(aI.mp hz).1;omega
    obtain ⟨c2,hc2,rc2⟩:=dX r3 hz;rw [aN,cK Oo] at hc2;cases hc2;have t4:dC H3 H4:=aR.tT b4 (s3 _ _ e2);obtain ⟨a2,rfl,ha2⟩:=gK (rc2.flat t4 (mK _));have lk:ks4.length<=56:=by
     have:=uK nd4 (m:=(lvl F best (kk+1)).map ci) λd hd=>by
      rcases (hm4 d).mp hd with h | ⟨f,hf,e⟩
      ·exact key j d h
      ·exact key (j+1) d ((step d).mpr (.inr ⟨h0,f,Oo,e⟩))
     rw [aA] at this;omega
    have lkv:kv4.length=ks4.length:=by have:=congrArg List.length hk4;simpa using this
    refine ⟨_,rfl,_,rfl,?_⟩;refine RK e4 (c:=ci (bP cc g)) (by rw [eK];exact ha2) Oo λH5 e5 b5=>?_;obtain ⟨ks2,k1,k2,k3⟩:=aAE (v:=.bl true) (ci (bP cc g)) hk4 nd4;refine ⟨_,_,ks2,rfl,b4.trans b5,e5,k1,k2,λd=>?_⟩;rw [k3,hm4];constructor
    ·rintro ((h | ⟨f,hf,e⟩) | h)
     ·exact .inl h
     ·exact .inr ⟨f,Oo,e⟩
     ·exact .inr ⟨g,Oo,h⟩
    ·rintro (h | ⟨f,hf,e⟩)
     ·exact .inl (.inl h)
     ·by_cases q:f=g
      ·subst q;exact .inr e
      ·exact .inl (.inr ⟨f,Oo,e⟩)
   ·rintro σ H4 ⟨o4',kv4,ks4,rfl,b4,e4,hk4,nd4,hm4⟩;refine ⟨_,_,kv4,ks4,rfl,aU.thru hp (S2.trans s3) b4,e4,hk4,nd4,λd=>?_⟩;rw [hm4,step,lz];constructor
    ·rintro (h | h)
     ·exact .inl h
     ·exact .inr ⟨h0,h⟩
    ·rintro (h | h)
     ·exact .inl h
     ·exact .inr h.2
  ·have h0:¬best cc=0:=λz=>on (by rw [if_pos z.symm];decide);refine ⟨_,_,kvs,ks,rfl,S2,e2,hk2,nd,λd=>?_⟩;rw [hm,step];exact ⟨.inl,λh=>by rcases h with h | h;exact h;exact absurd h.1 h0⟩
 ·rintro σ H2 ⟨o3,o4,kvs,ks,rfl,S2,e2,hk2,nd,hm⟩;rw [ly,cN] at hm;have hmem:∀d,d∈ks↔d∈(lvl F best (kk+1)).map ci:=λd=>by
   rw [hm,aQ];constructor
   ·rintro ⟨c,hc,h0,f,hf,e⟩;exact ⟨bP c f,(mX f1).mpr ⟨c,hc,h0,f,hf,rfl⟩,e.symm⟩
   ·rintro ⟨d',hd',rfl⟩;obtain ⟨c,hc,h0,f,hf,rfl⟩:=(mX f1).mp hd';exact ⟨c,hc,h0,f,hf,rfl⟩
  have lk:ks.length<=56:=by
   have:=uK nd (m:=(lvl F best (kk+1)).map ci) λd hd=>(hmem d).mp hd;rw [aA] at this;omega
  refine ⟨_,rfl,?_⟩;refine rsrd (cs:=ks) e2 hk2 (λc hc=>?_) Oo λq8 ys8 ds H8 pm pw hq8 e8 r8 s8=>?_
  ·obtain ⟨d,hd,rfl⟩:=aQ.mp ((hmem c).mp hc);obtain ⟨l1,_⟩:=hV ((lM f1 (kk+1)).subset hd);intro z;have e:(ci d).length=d.length:=by unfold ci;rw [aA]
   rw [z,List.length_nil] at e;omega
  have slex:((lvl F best (kk+1)).map ci).Pairwise λa b=>pD a b=true:=by
   by_cases z:kk+1<=5
   ·exact (VJ F f4 (kk+1) z).sublist ((lM f1 (kk+1)).map ci)
   ·have e:=vZ f1 I.on (kk-M);rw [show M+1+(kk-M)=kk+1 by omega] at e;rw [e];exact List.Pairwise.nil
  have eds:ds=(lvl F best (kk+1)).map ci:=DS pw slex λd=>by rw [pm.mem_iff];exact hmem d
  rw [eds,List.map_map,show (lvl F best (kk+1)).map ((λc:List Int=>PyData.tuple (c.map .int)) ∘ ci)=(lvl F best (kk+1)).map mL from gD λc _=>ctI c] at r8;exact q q8 H8 (S2.trans s8) (S2.free hq8) ⟨ys8,e8,r8⟩
theorem aDn(F:iV K "counts_come_to" "counts_come_to" ZL f fd)(T:kD K mg c)(FQ34:eZ cS P w K mg base 1 "noughts" ["faces"] kI)(FQ23:eZ cS P w K mg base 3 "counts_behind" ["level","table"] (qE K)):dM P w K mg base cS 4 f fd ["faces","table"] (qC K):=by
 refine F.oky VW λvs H Q E h=>?_;unfold qC at h;obtain ⟨d,F,W,M,best,rfl,tb,I,q⟩:=h;refine ⟨rfl,λcdv A outer s hr=>?_⟩;have f1:=I.f1;have f4:=I.f4;have m5:=I.m5;refine ⟨_,(aH (bJ (i:=2) VW.nd rfl (Or.inl rfl) (gM aC))
  (aH (bJ (i:=3) VW.nd rfl (Or.inl rfl) (gM (aG (bH FQ34 (hr.mono Dd) (aG (aD 0) aC)) aC)))
  (aH (sE PassesOwn.never (gC IK (jO nC (by rfl) T.b_len Kk (aG (aD 3) aC)) aM (nomark _)) (aH (iP (lH PySem.F.plainAttrs_list PySem.F.slot_list_extend PySem.F.type_list_extend GG (aD 2) (aG (aD 3) aC)))
  (aX (bJ (i:=3) VW.nd rfl (Or.inl rfl) (bH FQ23 (hr.mono Dd) (aG (aD 3) (aG (aD 1) aC)))))))
  (aX (cB (aD 2)))))),?_⟩
 refine AZ (by show 0<=64;decide) λfo H1 hfo e1 s1=>?_;refine ⟨_,rfl,?_⟩;refine sK Oo λv H2 s2 r2=>?_;refine AZ (by show 1<=64;decide) λle H3 hle e3 s3=>?_;have s13:=(s1.trans s2).trans s3;have nle:le≠fo:=λz=>by subst z;rw [s2 _ _ e1] at hle;cases hle
 have small:∀i,i<=M+1->((List.range i).flatMap (lvl F best)).length<=400:=λi hi=>aK (xP (lM f1) (List.range i)).length_le (uX F f4 i Oo);refine vS (λm σ H'=>∃(le:Addr) (vs:List V) (j:Nat),σ=[some (.int (F:Int)),some (.ref d),some (.ref fo),some (.ref le)]/\aU H H'/\H' fo=some (.lst vs)/\aT H' (((List.range j).flatMap (lvl F best)).map mL) vs/\jN H' le (lvl F best j)/\le≠fo/\j<=M+1/\m=M+1-j)
  (λσ H'=>∃(le:Addr) (vs:List V),σ=[some (.int (F:Int)),some (.ref d),some (.ref fo),some (.ref le)]/\aU H H'/\H' fo=some (.lst vs)/\aT H' ((DC F M best).map mL) vs)
  _ ⟨le,[],0,rfl,s13,s3 _ _ (s2 _ _ e1),aT.nil,⟨_,e3,aT.cons (r2.same s3) aT.nil⟩,nle,cG _,rfl⟩ ?_ ?_
 ·clear e1 s1 s2 s3 s13 e3 hle nle r2;rintro m σ H1 ⟨le,vs,j,rfl,S1,e1,r1,L1,nle,hj,rfl⟩;obtain ⟨ws,e2,r2,lw⟩:=L1.len;have lv:vs.length=((List.range j).flatMap (lvl F best)).length:=eY r1;have sj:=small j hj;refine ⟨_,rfl,?_⟩;refine rlL e2 ?_;refine ⟨_,_,rfl,rfl,_,rfl,?_⟩;by_cases hz:lvl F best j=[]
  ·have w0:ws.length=0:=by rw [lw,hz];rfl
   refine PQ (cO Oo) ⟨le,vs,rfl,S1,e1,?_⟩;have:=zQ f1 hz (M+1-j);rw [show j+(M+1-j)=M+1 by omega] at this;unfold DC;rw [this];exact r1
  ·have l0:0<(lvl F best j).length:=List.length_pos_iff.mpr hz;have hjM:j<=M:=cF λz=>hz (by
    have:=vZ f1 I.on (j-(M+1))
    rwa [show M+1+(j-(M+1))=j by omega] at this)
   refine PN (cP Oo) ?_;have sj2:=small (j+1) Oo;rw [oI,aP] at sj2;refine ⟨_,rfl,FF e1,_,rfl,?_⟩;refine aAS e1 e2 Oo λH2 e3 b3=>?_;have t3:=b3.t e1;have S2:aU H H2:=aU.thru hfo S1 b3;refine ⟨_,rfl,_,rfl,?_⟩;refine FR (L1.butL b3 e1 nle) (tb.same S2) I hjM λD H3 s3 hD L3=>?_;have nD:D≠fo:=λz=>by subst z;rw [e3] at hD;cases hD
   refine ⟨_,Oo,D,vs++ws,j+1,rfl,S2.trans s3,s3 _ _ e3,?_,L3,nD,Oo,rfl⟩;rw [oI,bE];exact aT.app ((r1.flat t3 (kB _)).same s3) ((r2.flat t3 (kB _)).same s3)
 ·rintro σ H1 ⟨le,vs,rfl,S1,e1,r1⟩;exact ⟨_,rfl,q fo H1 S1 hfo ⟨vs,e1,r1⟩⟩
theorem aC4(F:iV K "rule_within" "rule_within" SS f fd)(T:kD K mg c)(FQ24:eZ cS P w K mg base 4 "counts_come_to" ["faces","table"] (qC K)):dM P w K mg base cS 5 f fd ["faces","table"] (pX K):=by
 refine F.oky aDT λvs H Q E h=>?_;unfold pX at h;obtain ⟨d,F,W,M,best,rfl,tb,I,q⟩:=h;refine ⟨rfl,λcdv A outer s hr=>?_⟩;have f1:=I.f1;refine ⟨_,(aX (cB (kS dP (by rfl) T.b_tuple Kk (aG (fX (dJ.of (psc:=aO SS) (N:=["faces","table"]) (N':=["counts","table"]) (js:=[1]) Kk rfl rfl rfl) (eI (bH FQ24 (hr.mono Dd) (aG (aD 0) (aG (aD 1) aC)))) (λ_ _ _ _=>cY) (λ_ _ _ _=>(dS (aG (aD 0) (aG (fU hr.u1 (aD 1) (aD 0)) aC))))) aC)))),?_⟩;refine ⟨_,rfl,_,rfl,?_⟩;refine FQ tb I λD H1 s1 hD L1=>?_;obtain ⟨zs,e1,r1,lz⟩:=L1.len;have lr:(DC F M best).length<=400:=aK (mW f1).length_le I.r;refine ⟨D,rfl,⟨_,fI.of e1⟩,?_⟩;refine gJ (λi y H'=>∃e,(rul F W M best)[i]?=some e/\EnW K H' e y) (λi y Ha Hb s ⟨e,h1,h2⟩=>⟨e,h1,h2.t s⟩) Oo e1 (λi x H' Q' hx s' k'=>?_) (λD2 ys H2 hD2 e2 s2 hy hr2=>?_)
 ·obtain ⟨cc,hc,rx⟩:=dX r1 hx;obtain ⟨b,rfl,hb⟩:=gK (rx.same s');obtain ⟨kvs,t1,t2⟩:=tb;obtain ⟨v,ev,sv⟩:=t2 cc ((mW f1).subset (aF hc));refine ⟨_,rfl,_,rfl,_,rfl,?_⟩;refine LL (s' _ _ (s1 _ _ t1)) (c:=ci cc) (by rw [eK];exact hb) ev ?_;refine rK (by show 2<=64;decide) λq3 H3 hq3 e3 s3=>?_;exact k' _ H3 s3 ⟨plE W best cc,by unfold rul;rw [aN,hc];rfl,q3,b,v,rfl,e3,s3 _ _ hb,sv.t ((s1.trans s').trans s3).t⟩
 ·refine ⟨D2,ys,rfl,.inl ⟨fI.of e2,λl hl=>?_⟩⟩;have sl:=aU.upd (o:=.tup ys) hl;refine q _ _ ((s1.trans s2).trans sl) ⟨l,ys,rfl,bK,by unfold rul;rw [aA];omega,λi y hi=>?_⟩;obtain ⟨e,h1,h2⟩:=hr2 i y hi;exact ⟨e,h1,h2.t sl.t⟩
end
abbrev NV:Stmt:=(top 53)
theorem LX:bS ["trial","aim","prices","weighing","parts","unit","factors","best_at"] ["trial","aim","prices"] (aO NV):=⟨rfl,rfl,rfl,Kk,rfl,Kk,Kk⟩
theorem QJ(xs:List V)(v:V):lC (xs++[v]) none (some (-1))=xs:=by
 unfold lC;rw [HT.sR,List.drop_zero,Nat.sub_zero];have:HT.iW (xs++[v]).length (xs++[v]).length (some (-1))=xs.length:=by
  show (if (-1:Int)<0 then ((-1:Int)+((xs++[v]).length:Int)).toNat else min (-1:Int).toNat (xs++[v]).length)=_;rw [if_pos Dd,aP,List.length_singleton];omega
 rw [this,List.take_left]
theorem Fn.inv{u:Nat}(h:0<u):Fn u 1 (1,(u:Int)):=by
 have low:cV (1,(u:Int)):=⟨by show (0:Int)<(u:Int);omega,by show Int.gcd 1 (u:Int)=1;exact Int.gcd_one_left _⟩;refine ⟨low,1,?_,by simp;omega⟩;have h1:=sS low.pos;show rv (1,(u:Int))*(u:Rat)=((1:Int):Rat);exact h1
@[irreducible] def qF(K:PySem.W.Frag):Sp:=λvs H Q _=>∃(tv av pv:V) (fs:List Str) (ws:List (Str × List Fr)) (bs mix ps cs:List Fr) (F W M Ns Nm Np Nc B Nb:Nat),vs=[tv,av,pv]/\cA H (pT fs ws) tv/\fs.length=F/\cA H (pL M bs mix cs) av/\cA H (rT ps) pv/\QZ ws bs F W M Ns Nm Np Nc B Nb mix ps cs /\
 ∀v best H',aU H H'->yC K H' (rul F W M best) v->yD F W M best->(∀c∈rise F M,MK F W M (fW ws) mix ps cs c (best c))->Q v H'
theorem FS{K:PySem.W.Frag}{H:Hp}{Q:VK}{E:XK}{tv av pv:V}{fs:List Str}{ws:List (Str × List Fr)}{bs mix ps cs:List Fr}{F W M Ns Nm Np Nc B Nb:Nat}(h1:cA H (pT fs ws) tv)(h2:fs.length=F)(h3:cA H (pL M bs mix cs) av)(h4:cA H (rT ps) pv)(h5:QZ ws bs F W M Ns Nm Np Nc B Nb mix ps cs)
  (k:∀v best H',aU H H'->yC K H' (rul F W M best) v->yD F W M best->(∀c∈rise F M,MK F W M (fW ws) mix ps cs c (best c))->Q v H'):qF K [tv,av,pv] H Q E:=by
 unfold qF;exact ⟨tv,av,pv,fs,ws,bs,mix,ps,cs,F,W,M,Ns,Nm,Np,Nc,B,Nb,rfl,h1,h2,h3,h4,h5,k⟩
section
theorem aDt(F:iV K "best_rule" "best_rule" NV f fd)(T:kD K mg c)(FQ0:FnO P w K mg base 7 c.Weighing ["self","trial","aim"] (qY c.Weighing))(FQ47:eZ cS P w K mg base 2 "times" ["one","other"] (fR K))(FQ21:eZ cS P w K mg base 2 "common_lower" ["some"] (lS K))(FQ48:eZ cS P w K mg base 1 "times_whole" ["one","unit"] (lP K))
  (FQ17:eZ cS P w K mg base 3 "best_places" ["weighing","factors","cost_factor"] (qH c.Weighing)) (FQ43:eZ cS P w K mg base 5 "rule_within" ["faces","table"] (pX K)) (FQ26:eZ cS P w K mg base 1 "faces_of" ["trial"] jJ) (FQ38:eZ cS P w K mg base 1 "plain_table" ["weighing","best_at"] (nP K c.Weighing)):dM P w K mg base cS 9 f fd ["trial","aim","prices"] (qF K):=by
 refine F.oky LX λvs H Q E h=>?_;unfold qF at h;obtain ⟨tv,av,pv,fs,ws,bs,mix,ps,cs,F,W,M,Ns,Nm,Np,Nc,B,Nb,rfl,rt,hF,ra,rp,G,k⟩:=h;refine ⟨rfl,λcdv A outer s hr=>?_⟩;have I:=G.wo;have f1:=I.f1;have f4:=I.f4;have m5:=I.m5;have w4:=I.w4;have hB:=I.b;have O:=T.w_Weighing;have r4:=rW F f4 M m5;obtain ⟨ap,vp,rfl,hap,rvp⟩:=jK rp;have lvp:vp.length=W:=by rw [eY rvp];exact I.pl
 have np0:0<Np:=Nat.pos_of_ne_zero λz=>by have:=I.pos;rw [z] at this;simp at this
 have N0:0<lJ M Ns Nm Np Nc*Nb:=mQ I.pos G.nb;refine ⟨_,(aH (bJ (i:=3) LX.nd rfl (Or.inl rfl) (MW FQ0 T.g_Weighing (hr.mono Dd) (aG (aD 0) (aG (aD 1) aC))))
  (aH (oS (i:=4) (eJ.of (psc:=aO NV) (N:=["trial","aim","prices","weighing","parts","unit","factors","best_at"]) (xs:=["price","unit"]) (N':=["price","unit"]) (js:=[]) Kk rfl rfl rfl) LX.nd rfl rfl (pR true false rfl T.b_zip (aG (aD 2) (aG (gF K (aD 3)) aC))) (λ_ _ _ _=>cY) (λ_ _ _ _=>(bH FQ47 (hr.mono Dd) (aG (aD 0) (aG (dS (aG aM (aG (aD 1) aC))) aC)))))
  (aH (iP (lH PySem.F.plainAttrs_list PySem.F.slot_list_append PySem.F.type_list_append mZ (aD 4) (aG (dS (aG aM (aG (gF K (aD 3)) aC))) aC)))
  (aH (bJ (i:=5) LX.nd rfl (Or.inr rfl) (bH FQ21 (hr.mono Dd) (aG (aD 4) aC)))
  (aH (iB (i:=6) (dJ.of (psc:=aO NV) (N:=["trial","aim","prices","weighing","parts","unit","factors","best_at"]) (N':=["part","unit"]) (js:=[5]) Kk rfl rfl rfl) LX.nd rfl rfl (eI (aD 4)) (λ_ _ _ _=>cY) (λ_ _ _ _=>(bH FQ48 (hr.mono Dd) (aG (aD 0) (aG (aD 1) aC)))))
  (aH (bJ (i:=7) LX.nd rfl (Or.inl rfl) (bX bO (bH FQ17 (hr.mono Dd) (aG (aD 3) (aG (nH (wX K) (aD 6) qU (qT (HK AE aM))) (aG (bX bO (aD 6) (HK AE aM) (λ_ _=>rfl)) aC)))) aM (λ_ _=>rfl)))
  (aX (cB (bH FQ43 (hr.mono Dd) (aG (bH FQ26 (hr.mono Dd) (aG (aD 0) aC)) (aG (bH FQ38 (hr.mono Dd) (aG (aD 3) (aG (aD 7) aC))) aC))))))))))),?_⟩
 refine ⟨_,rfl,_,rfl,?_⟩;intro x dx hx hdx ndx;have sA:aU H (upd (upd H dx (.own x)) x (.ins c.Weighing dx [])):=(aU.upd hdx).trans (aU.upd (by rw [dB (Ne.symm ndx)];exact hx));have eA:(upd (upd H dx (.own x)) x (.ins c.Weighing dx [])) x=some (.ins c.Weighing dx []):=bK;generalize upd (upd H dx (.own x)) x (.ins c.Weighing dx [])=H1 at sA eA ⊢;refine JX eA (rt.same sA) hF (ra.same sA) G λus cu H2 b2 wg hus cu0 cuN=>⟨rfl,?_⟩;have S2:aU H H2:=aU.thru hx sA b2;obtain ⟨ul,dx',fl,ra',ua,wa,ca,tas,kvs,a0,a1,a2,a3,a4,a5,a6,a7,a8,a9,a10,a11⟩:=id wg;refine ⟨_,rfl,_,rfl,?_⟩;refine rM O (by simp) a0 a2 ?_;refine ⟨ap,ua,_,_,rfl,S2 _ _ hap,a7,?_⟩;refine oJ (λi z H'=>∃p u,ps[i]?=some p/\us[i]?=some u/\cA H' (fN (iZ p (1,(u:Int)))) z) (λi z Ha Hb s ⟨p,u,h1,h2,h3⟩=>⟨p,u,h1,h2,h3.flat s (cU _)⟩) Oo (S2 _ _ hap) a7 (by rw [aA];omega) (λi y z H' Q' hy hz s' k'=>?_) (λD zs H3 hD e3 s3 hz3 hr3=>?_)
 ·obtain ⟨p,hp,rpp⟩:=dX rvp hy;rw [aN] at hz;obtain ⟨u,hu,rfl⟩:=eL.mp hz;obtain ⟨u0,uN⟩:=hus u (aF hu);have pn:=I.pr p (aF hp);have un:=Fn.inv u0;have hi:i<W:=by have:=(aI.mp hp).1;rw [I.pl] at this;exact this
  have uz:(u:Nat)<2^4000:=bA (jU N0 (cC uN ⟨Np*Nc*Nm,by unfold lJ;ac_rfl⟩)) (aV G.sz (aJ Dd Dd));have zp:oP 4000 p:=by
   have:=fV I (BY I hi) (aK (show B<=1000000000000 by omega) gR)
   rwa [gQ hp] at this
  refine ⟨_,rfl,_,rfl,?_⟩;refine rK (by show 2<=64;decide) λq4 H4 hq4 e4 s4=>?_;refine eM (fP.of (((rpp.same S2).same s').same s4)) (fP.of (cX (f:=(1,(u:Int))) e4)) pn.low un.low zp ⟨by show (1:Nat)<2^4000;exact Nat.one_lt_two_pow Dd,by show (u:Int).natAbs<2^4000;exact uz⟩ λq5 H5 hq5 e5 s5=>?_;exact k' _ H5 (s4.trans s5) ⟨p,u,hp,hu,cX e5⟩
 have lz3:zs.length=W:=Oo;refine ⟨_,rfl,FF e3,?_⟩;refine ⟨_,rfl,?_⟩;refine rM O (by simp) (s3 _ _ a0) a4 ?_;refine rK (by show 2<=64;decide) λq4 H4 hq4 e4 s4=>?_;refine yL (s4 _ _ e3) Oo λH5 e5 b5=>?_;have t5:=b5.t (s4 _ _ e3);have S25:aU H2 H5:=aU.thru hD (s3.trans s4) b5;have S5:=S2.trans S25;have pf:∃gs:List Fr,gs.length=W/\aT H5 (gs.map fN) zs/\∀(i:Nat) (g:Fr),gs[i]?=some g->∃p u,ps[i]?=some p/\us[i]?=some u/\g=iZ p (1,(u:Int)):=by
  refine ⟨(List.range W).map λi=>iZ (ps.getD i (0,1)) (1,(us.getD i 0:Nat)),by rw [aA,bD],aT.ofRange Oo λi y hy=>?_,λi g hg=>?_⟩
  ·have hi:i<W:=by have:=(aI.mp hy).1;omega
   obtain ⟨p,u,h1,h2,h3⟩:=hr3 i y hy;refine ⟨hi,?_⟩;rw [gQ h1,gQ h2];exact (h3.same s4).flat t5 (cU _)
  ·rw [aN] at hg;obtain ⟨j,hj,rfl⟩:=eL.mp hg;have li:=(aI.mp hj).1;rw [bD] at li;rw [cK li] at hj;cases hj;obtain ⟨p,hp⟩:∃p,ps[i]?=some p:=⟨_,aB (by rw [I.pl];exact li)⟩;obtain ⟨u,hu⟩:∃u,us[i]?=some u:=⟨_,aB (by rw [ul];exact li)⟩;exact ⟨p,u,hp,hu,by rw [gQ hp,gQ hu]⟩
 obtain ⟨gs,lg,rg,hg⟩:=pf;have rg5:aT H5 ((gs++[(1,(cu:Int))]).map fN) (zs++[.ref q4]):=by
  rw [bE];exact aT.app rg (aT.cons (cX (f:=(1,(cu:Int))) (t5 _ _ e4)) aT.nil)
 have gn:∀g∈gs++[(1,(cu:Int))],Fn (lJ M Ns Nm Np Nc*Nb) B g\/Fn (lJ M Ns Nm Np Nc*Nb) 1 g:=λg hgm=>by
  rcases cE.mp hgm with hgm | hgm
  ·obtain ⟨i,hi⟩:=eT.mp hgm;obtain ⟨p,u,h1,h2,rfl⟩:=hg i g hi;obtain ⟨u0,uN⟩:=hus u (aF h2);refine .inl ?_;have:=(I.pr p (aF h1)).mul (Fn.inv u0);rw [Nat.mul_one] at this;refine this.dvd (cC (Nat.mul_dvd_mul_left Np uN) ⟨Nc*Nm,by unfold lJ;ac_rfl⟩)
  ·rw [aY.mp hgm];exact .inr ((Fn.inv cu0).dvd (cC cuN (fJ _ _)))
 have gl:∀g∈gs++[(1,(cu:Int))],cV g/\g.2.natAbs ∣ lJ M Ns Nm Np Nc*Nb:=λg hgm=>by
  rcases gn g hgm with h | h
  ·exact ⟨h.low,Fn.dn h N0⟩
  ·exact ⟨h.low,Fn.dn h N0⟩
 have gz:∀g∈gs++[(1,(cu:Int))],oP 4000 g:=λg hgm=>by
  rcases gn g hgm with h | h
  ·exact qS h N0 G.sz (aK (show B<=1000000000000 by omega) (aK gR (aJ Dd Dd)))
  ·exact qS h N0 G.sz Nat.one_le_two_pow
 refine ⟨_,rfl,?_⟩;refine qD e5 (pM.of rg5) N0 G.sz gl λU u0 uN hU=>?_;have uz:U<2^3000:=bA (jU N0 uN) G.sz;refine ⟨_,rfl,D,rfl,⟨_,fI.of e5⟩,?_⟩;have lz5:(zs++[V.ref q4]).length=W+1:=by rw [aP,lz3];rfl
 have lg5:(gs++[((1:Int),(cu:Int))]).length=W+1:=by rw [aP,lg];rfl
 refine gJ (λi z _=>∃n,z=.int n/\∀g,(gs++[((1:Int),(cu:Int))])[i]?=some g->(n:Rat)=rv g*(U:Rat)) (λ_ _ _ _ _ h=>h) Oo e5 (λi y H' Q' hy s' k'=>?_) (λD6 fz H6 hD6 e6 s6 hz6 hr6=>?_)
 ·obtain ⟨g,hgi,rgi⟩:=dX rg5 hy;have hgm:=aF hgi;refine ⟨_,rfl,_,rfl,?_⟩;refine vE (fP.of (rgi.same s')) (gl g hgm).1 (gz g hgm) uz (hU g hgm) λn hn=>?_;exact k' _ H' (aU.refl _) ⟨n,rfl,λg' hg'=>by rw [hgi] at hg';cases hg';exact hn⟩
 obtain ⟨ns,rfl,hns⟩:=pE (P:=λi n=>∀g,(gs++[((1:Int),(cu:Int))])[i]?=some g->(n:Rat)=rv g*(U:Rat)) hr6;rw [aA,lz5] at hz6;obtain ⟨fns,cf,rfl⟩:∃fns cf,ns=fns++[cf]:=by
  have ne:ns≠[]:=λz=>by rw [z] at hz6;simp at hz6
  exact ⟨ns.dropLast,ns.getLast ne,(List.dropLast_concat_getLast ne).symm⟩
 have lf:fns.length=W:=by rw [aP,List.length_singleton] at hz6;omega
 have hcf:(cf:Rat)=rv (1,(cu:Int))*(U:Rat):=hns W cf (by rw [cI Oo,lf,Nat.sub_self];rfl) _ (by rw [cI Oo,lg,Nat.sub_self];rfl);have cuz:cu<2^3000:=bA (jU I.pos cuN) I.sz;have hrc:rv (1,(cu:Int))*(cu:Rat)=1:=sS (Fn.inv cu0).low.pos;have FC:aBb W ps us cu fns cf U:=by
  refine ⟨u0,lf,ul,λi f u hf hu=>?_,by rw [hcf];grind,?_,λu hu=>?_,cuz⟩
  ·have li:=(aI.mp hf).1;obtain ⟨g,hgi⟩:∃g,gs[i]?=some g:=⟨_,aB Oo⟩;obtain ⟨p,u',h1,h2,rfl⟩:=hg i g hgi;rw [hu] at h2;cases h2;obtain ⟨up,uNb⟩:=hus u (aF hu);have un:=Fn.inv up;have pn:=I.pr p (aF h1);have e:=hns i f (by rw [cM li];exact hf) _ (by rw [cM Oo];exact hgi);rw [iX pn.low.pos un.low.pos] at e;have hru:rv (1,(u:Int))*(u:Rat)=1:=sS un.low.pos;have hv:cL ps i=rv p:=by unfold cL;rw [gQ h1]
   refine ⟨by rw [e,hv];grind,?_⟩;have gm:iZ p (1,(u:Int))∈gs++[((1:Int),(cu:Int))]:=bZ _ (aF hgi);have e':=hns i f (by rw [cM li];exact hf) _ (by rw [cM Oo];exact hgi);have b22:B<=2^100:=aK (show B<=1048576 by omega) (show 1048576<=2^100 by decide);rcases gn _ gm with h | h
   ·exact bA (xL h.q N0 e') (OH uz b22)
   ·exact bA (xL h.q N0 e') (OH uz Nat.one_le_two_pow)
  ·exact bA (xL (Fn.inv cu0).q cu0 hcf) (OH uz Nat.one_le_two_pow)
  ·exact bA (jU N0 (cC (hus u hu).2 ⟨Np*Nc*Nm,by unfold lJ;ac_rfl⟩)) G.sz
 have S6:=S5.trans s6;have wg6:=(wg.same S25).same s6;refine ⟨_,rfl,_,rfl,?_⟩;refine ⟨_,rfl,_,rfl,?_⟩;refine slL (ys:=fns.map V.int) e6 (by rw [bE];exact QJ _ _) λq7 H7 hq7 e7 s7=>?_;refine ⟨_,rfl,_,rfl,?_⟩;refine PM (s7 _ _ e6) (v:=.int cf) (by rw [bE];exact QX _ _) ?_;refine FU (wg6.same s7) e7 I FC r4 λa8 bp z8 kb best H8 s8 e8 ebp hbs hbst=>?_;refine mP e8 rfl ?_;have S8:=(S6.trans s7).trans s8;refine ⟨_,rfl,?_⟩;refine oW (rt.same S8) ?_;rw [hF];refine ⟨_,rfl,_,rfl,?_⟩;refine CS ((wg6.same s7).same s8) ebp hbs w4 r4 λd H9 s9 tb=>?_;have dec:∀c,c∈rise F M->(if c∈rise F M then best c else 1)=best c:=λc hc=>if_pos hc;have tb':MH K H9 d (rise F M) W (λc=>if c∈rise F M then best c else 1):=by
  obtain ⟨kv,t1,t2⟩:=tb;exact ⟨kv,t1,λc hc=>by obtain ⟨v,g1,g2⟩:=t2 c hc;exact ⟨v,g1,by show RB K H9 (AX W (if c∈rise F M then best c else 1)) v;rw [dec c hc];exact g2⟩⟩
 have PL:yD F W M (λc=>if c∈rise F M then best c else 1):=⟨f1,f4,w4,m5,(λc hc=>by
  by_cases q:c∈rise F M
  ·have hc:(if c∈rise F M then best c else 1)=0:=hc;rw [if_pos q] at hc;rcases hbst c q with ⟨_,h,_⟩ | ⟨v,_,h,_⟩
   ·exact h
   ·omega
  ·have hc:(if c∈rise F M then best c else 1)=0:=hc;rw [if_neg q] at hc;cases hc),r4⟩
 refine FN tb' PL λv H10 s10 rw10=>?_;exact k v _ H10 ((S8.trans s9).trans s10) rw10 PL λc hc=>by show MK F W M (fW ws) mix ps cs c (if c∈rise F M then best c else 1);rw [dec c hc];exact hbst c hc
end
abbrev ZA:Stmt:=(top 29)
theorem aDU:bS ["rule"] ["rule"] (aO ZA):=⟨rfl,rfl,rfl,Kk,rfl,Kk,Kk⟩
abbrev TB:Stmt:=(top 31)
theorem LY:bS ["rule","amount_of","counts","says","onward","more"] ["rule"] (aO TB):=⟨rfl,rfl,rfl,Kk,rfl,Kk,Kk⟩
structure SyC(n:Nat)(fs:List Fr):Prop where
 len:fs.length=n
 at_:∀f∈fs,Fn fC 1 f/\0<=f.1
 one:rH (fs.map rv)=1
structure rG(F W M:Nat)(es:List dH):Prop where
 rl:yN F es
 sum:∀e∈es,e.1.sum<=M
 sy:∀e∈es,SyC (1+W) e.2
 few:es.length<=64
 on:∀e∈es,s0 e≠0->e.1.sum<M
theorem SyC.hd{n:Nat}{fs:List Fr}(h:SyC (1+n) fs):∃f r,fs=f::r/\Fn fC 1 f/\0<=f.1/\cL fs 0=rv f/\(0<f.1↔cL fs 0≠0):=by
 cases fs with
 | nil=>have:=h.len;simp at this;omega
 | cons f r =>
  obtain ⟨h1,h2⟩:=h.at_ f (aW ..);refine ⟨f,r,rfl,h1,h2,rfl,?_⟩;have e:cL (f::r) 0=rv f:=rfl;rw [e];constructor
  ·intro hp q;have:=gZ h1.low UW (by rw [q,oX]);rw [this] at hp;exact absurd hp Dd
  ·intro q;refine cF λz=>q ?_;have z1:f.1=0:=Oo;have e2:=sS h1.low.pos;rw [z1] at e2;have h3:=kG h1.low.pos;have:rv f=0:=by grind
   exact this
theorem SyC.qn{n:Nat}{fs:List Fr}(h:SyC n fs)(v:Nat):Qn fC 1 (cL fs v):=by
 by_cases hv:v<fs.length
 ·exact (h.at_ _ (eG (a:=(0,1)) hv)).1.q
 ·rw [SA Oo];exact Qn.zero _ _
theorem GN:5^64<=2^150:=Kk
theorem SK(n:Nat):0<fC^n:=Nat.pow_pos Dd
abbrev pP(Np Nc:Nat):Nat:=Np*Nc*fC^15
structure GY(Np Nc:Nat):Prop where
 p0:0<Np
 p1:Np<=1000000000000000
 c0:0<Nc
 c1:Nc<=1000000000000000
theorem GY.big{Np Nc:Nat}(h:GY Np Nc):0<pP Np Nc/\pP Np Nc<2^500:=by
 refine ⟨mQ (mQ h.p0 h.c0) (SK _),?_⟩;have h1:pP Np Nc<=1000000000000000*1000000000000000*fC^15:=bT _ (Nat.mul_le_mul h.p1 h.c1);have h2:1000000000000000*1000000000000000*fC^15<2^500:=Kk;omega
theorem sY:GY 1 1:=⟨Dd,Dd,Dd,Dd⟩
theorem wZ{Np Nc N B:Nat}{x:Rat}(h:Qn N B x)(d:N ∣ pP Np Nc):Qn (pP Np Nc) B x:=h.dvd d
theorem nJ{Np Nc B:Nat}{f:Fr}(ok:GY Np Nc)(h:Fn (pP Np Nc) B f)(hB:B<=2^400):oP 4000 f :=
 qS h ok.big.1 (aV ok.big.2 (aJ Dd Dd)) (aK hB (aJ Dd Dd))
theorem d46{Np Nc a:Nat}(h:a<=15):fC^a ∣ pP Np Nc:=cC (Nat.pow_dvd_pow _ h) (Nat.dvd_mul_left _ _)
theorem VG{Np Nc a:Nat}(h:a<=15):Nc*fC^a ∣ pP Np Nc:=by
 obtain ⟨r,hr⟩:=Nat.pow_dvd_pow fC h;exact ⟨Np*r,by unfold pP;rw [hr];ac_rfl⟩
theorem sU{n:Nat}(h:n<=400):(2:Nat)^n<=2^400:=aJ Dd h
section
variable{F W M:Nat}{es:List dH}
theorem rG.fl(R:rG F W M es)(f4:F<=4){e:dH}(h:e∈es):Qn (fC^M) (2^150) (bR F es e.1):=by
 have h1:=R.rl.qn (N:=fC) (λe he=>(R.sy e he).qn 0) f4 es.length (aL _) e.1;rw [cN] at h1;have h2:5^es.length<=5^64:=aJ Dd R.few;exact (h1.le (aK h2 GN)).dvd (Nat.pow_dvd_pow _ (R.sum e h))
end
structure DQ(K:PySem.W.Frag)(H:Hp)(kvs:List (List eO × V))(g:List Nat->Rat):Prop where
 at_:∀d:List Nat,(fG kvs (kT (ci d))=none/\g d=0)\/∃v,fG kvs (kT (ci d))=some v/\yF K H (eS (g d)) v
theorem xO:eS 0=(0,1):=gZ (bG _) UW (by rw [cW,oX])
theorem BP:eS 1=(1,1):=gZ (bG _) UX (by rw [cW,uA])
theorem DQ.t{K:PySem.W.Frag}{H H':Hp}{kvs:List (List eO × V)}{g:List Nat->Rat}(s:dC H H')(h:DQ K H kvs g):DQ K H' kvs g:=⟨λd=>by
 rcases h.at_ d with h | ⟨v,h1,h2⟩
 ·exact .inl h
 ·exact .inr ⟨v,h1,h2.t s⟩⟩
theorem DQ.eq{K:PySem.W.Frag}{H:Hp}{kvs:List (List eO × V)}{g g':List Nat->Rat}(h:DQ K H kvs g)(e:∀d,g' d=g d):DQ K H kvs g':=by
 have:g'=g:=funext e;rw [this];exact h
theorem DQ.get{K:PySem.W.Frag}{H:Hp}{kvs:List (List eO × V)}{g:List Nat->Rat}(h:DQ K H kvs g)(d:List Nat){z:V}(hz:fP K H (0,1) z):fP K H (eS (g d)) ((fG kvs (kT (ci d))).getD z):=by
 rcases h.at_ d with ⟨h1,h2⟩ | ⟨v,h1,h2⟩
 ·rw [h1,h2,xO];exact hz
 ·rw [h1];exact h2.v
theorem DQ.val{K:PySem.W.Frag}{H:Hp}{kvs:List (List eO × V)}{g:List Nat->Rat}(h:DQ K H kvs g){d:List Nat}(hd:g d≠0):∃v,fG kvs (kT (ci d))=some v/\yF K H (eS (g d)) v:=by
 rcases h.at_ d with ⟨_,h2⟩ | h
 ·exact absurd h2 hd
 ·exact h
theorem DQ.put{K:PySem.W.Frag}{H:Hp}{kvs:List (List eO × V)}{g:List Nat->Rat}(h:DQ K H kvs g){c:List Nat}{v:V}{y:Rat}(r:yF K H (eS (g c+y)) v):DQ K H (iY kvs (kT (ci c)) v) λd=>g d+if c=d then y else 0:=⟨λd=>by
 rw [iC];by_cases e:c=d
 ·subst e;rw [if_pos rfl,if_pos rfl];exact .inr ⟨v,rfl,r⟩
 ·rw [if_neg λq=>e (kO (kM q)).symm,if_neg e,show g d+0=g d by grind];exact h.at_ d⟩
@[irreducible] def jC(K:PySem.W.Frag):Sp:=λvs H Q _=>∃(x:V) (e:dH) (es:List dH),vs=[x]/\yC K H (e::es) x/\Q (.int (e.1.length:Nat)) H
theorem vP{K:PySem.W.Frag}{H:Hp}{Q:VK}{E:XK}{x:V}{e:dH}{es:List dH}(h1:yC K H (e::es) x)(k:Q (.int (e.1.length:Nat)) H):jC K [x] H Q E:=by
 unfold jC;exact ⟨x,e,es,rfl,h1,k⟩
@[irreducible] def mG(K:PySem.W.Frag):Sp:=λvs H Q _=>∃(x:V) (es:List dH) (F W M:Nat),vs=[x]/\yC K H es x/\rG F W M es/\1<=F/\F<=4/\M<=6/\∀a ys H',aU H H'->H' a=some (.tup ys)->ys.length=es.length->(∀(i:Nat) (e:dH),es[i]?=some e->∃b cu va,ys[i]?=some (.ref b)/\H' b=some (.tup [cu,va])/\yF K H' (eS (bR F es e.1)) va)->Q (.ref a) H'
theorem AO{K:PySem.W.Frag}{H:Hp}{Q:VK}{E:XK}{x:V}{es:List dH}{F W M:Nat}(h1:yC K H es x)(h2:rG F W M es)(h3:1<=F)(h4:F<=4)(h5:M<=6)(k:∀a ys H',aU H H'->H' a=some (.tup ys)->ys.length=es.length->(∀(i:Nat) (e:dH),es[i]?=some e->∃b cu va,ys[i]?=some (.ref b)/\H' b=some (.tup [cu,va])/\yF K H' (eS (bR F es e.1)) va)->Q (.ref a) H'):mG K [x] H Q E:=by
 unfold mG;exact ⟨x,es,F,W,M,rfl,h1,h2,h3,h4,h5,k⟩
section
theorem aC5(F:iV K "rule_faces" "rule_faces" ZA f fd)(T:kD K mg c):dM P w K mg base cS 1 f fd ["rule"] (jC K):=by
 refine F.oky aDU λvs H Q E h=>?_;unfold jC at h;obtain ⟨x,e,es,rfl,rx,k⟩:=h;refine ⟨rfl,λcdv A outer s hr=>?_⟩;obtain ⟨a,xs,rfl,ha,lx,rxs⟩:=rx;have hy:xs[0]?=some (xs[0]'(by rw [lx];exact Nat.succ_pos _)):=aB _;obtain ⟨e',he',b,cu,z,eb,hb,hcu,_⟩:=rxs 0 _ hy;cases (show e=e' by simpa using he');rw [eb] at hy;refine ⟨_,(aX (cB (jO nC (by rfl) T.b_len Kk (aG (bX bO (bX bO (aD 0) aM (λ_ _=>rfl)) aM (λ_ _=>rfl)) aC)))),?_⟩;refine ⟨_,rfl,?_⟩;refine mP ha (dU (j:=0) hy) ?_;refine mP hb rfl ?_;refine rlT hcu ?_;rw [aA];exact k
theorem aDv(F:iV K "amounts" "amounts" TB f fd)(T:kD K mg c)(FQ34:eZ cS P w K mg base 1 "noughts" ["faces"] kI)(FQ42:eZ cS P w K mg base 1 "rule_faces" ["rule"] (jC K))
  (FQ33:eZ cS P w K mg base 1 "looks_on" ["says"] (kJ K)) (FQ47:eZ cS P w K mg base 2 "times" ["one","other"] (fR K)) (FQ36:eZ cS P w K mg base 2 "ones_more" ["counts"] fY) (FQ39:eZ cS P w K mg base 2 "plus" ["one","other"] (lK K)):dM P w K mg base cS 3 f fd ["rule"] (mG K):=by
 refine F.oky LY λvs H Q E h=>?_;unfold mG at h;obtain ⟨x,es,F,W,M,rfl,rx,RO,f1,f4,m6,k⟩:=h;refine ⟨rfl,λcdv A outer s hr=>?_⟩;obtain ⟨a,xs,rfl,ha,lx,rxs⟩:=id rx;have RL:=RO.rl;have few:=RO.few;obtain ⟨e0,er,ees,ez0⟩:=RL.root;refine ⟨_,(aH (bJ (i:=1) LY.nd rfl (Or.inr rfl) (MX hr.u1 (bH FQ34 (hr.mono Dd) (aG (bH FQ42 (hr.mono Dd) (aG (aD 0) aC)) aC)) (mR (v:=.ref c.ONE) rfl T.g_ONE rfl)))
  (aH (fD PassesOwn.never rfl (MR (aD 0)) (rS rfl (fK (cT (i:=2) LY.nd rfl (Or.inl rfl)) (fK (cT (i:=3) LY.nd rfl (Or.inl rfl)) oT))) (aX (lT (wE (bH FQ33 (hr.mono Dd) (aG (aD 3) aC))) (aH (bJ (i:=4) LY.nd rfl (Or.inl rfl) (bH FQ47 (hr.mono Dd) (aG (fU hr.u1 (aD 1) (aD 2)) (aG (bX bO (aD 3) aM (λ_ _=>rfl)) aC))))
  (aX (fD PassesOwn.never rfl (eI (bH FQ36 (hr.mono Dd) (aG (aD 2) aC))) (cT (i:=5) LY.nd rfl (Or.inl rfl)) (aX (iQ hr.u1 (aD 1) (aD 5) (bH FQ39 (hr.mono Dd) (aG (RY hr.u1 (aD 1) (aD 5) (mR (v:=.ref c.NOUGHT) rfl T.g_NOUGHT rfl)) (aG (aD 4) aC)))))))) iO)))
  (aX (cB (kS dP (by rfl) T.b_tuple Kk (aG (fX (dJ.of (psc:=aO TB) (N:=["rule","amount_of","counts","says","onward","more"]) (N':=["entry","amount_of"]) (js:=[1]) Kk rfl rfl rfl) (MR (aD 0)) (λ_ _ _ _=>cY) (λ_ _ _ _=>(dS (aG (bX (jE K) (aD 0) aM (λ_ _=>rfl)) (aG (fU hr.u1 (aD 1) (bX (jE K) (aD 0) aM (λ_ _=>rfl))) aC))))) aC)))))),?_⟩
 intro p hp;have s0':=aU.upd (o:=.dT []) hp;have e0p:(upd H p (.dT [])) p=some (.dT []):=bK;generalize upd H p (.dT [])=H0 at s0' e0p;refine ⟨_,rfl,?_⟩;refine vP (e:=e0) (es:=er) (by rw [<-ees];exact rx.t s0'.t) ?_;rw [ez0,eV];refine sK (F:=F) Oo λv1 H1 s1 r1=>?_;obtain ⟨cz,rfl,hcz⟩:=gK r1;refine aCP (c:=ci (List.replicate F 0)) (by rw [eK];exact hcz) (s1 _ _ e0p) λH2 e2 b2=>?_;have S2:aU H H2:=aU.thru hp (s0'.trans s1) b2;have D2:DQ K H2 [(kT (ci (List.replicate F 0)),V.ref c.ONE)] (bR F (es.take 0)):=⟨λd=>by
  rw [List.take_zero,rE];by_cases q:d=List.replicate F 0
  ·subst q;rw [if_pos rfl];exact .inr ⟨_,by simp [fG],.inr ⟨c.ONE,rfl,by rw [BP];exact T.o_ONE⟩⟩
  ·rw [if_neg q];refine .inl ⟨?_,rfl⟩;have:¬kT (ci d)=kT (ci (List.replicate F 0)):=λz=>q (kO (kM z));have e:=iC (κ:=List eO) [] (kT (ci (List.replicate F 0))) (kT (ci d)) (V.ref c.ONE);rw [if_neg this] at e;exact e⟩
 clear b2 s0' e0p r1 hcz s1;refine ⟨_,rfl,a,rfl,⟨_,jM.of (S2 _ _ ha)⟩,?_⟩;refine VF (xs:=xs) (λi σ H'=>∃(o2 o3 o4 o5:Option V) (kvs:List (List eO × V)),σ=[some (.ref a),some (.ref p),o2,o3,o4,o5]/\aU H H'/\H' p=some (.dT kvs)/\kvs.length<=1+4*i/\DQ K H' kvs (bR F (es.take i))) ⟨_,_,_,_,_,rfl,S2,e2,by simp,D2⟩ (λi σ H' _ q=>?_) ?_ ?_
 ·obtain ⟨_,_,_,_,_,_,s',_⟩:=q;exact jM.of (s' _ _ ha)
 ·rintro i x σ H3 hx ⟨o2,o3,o4,o5,kvs,rfl,S3,e3,l3,D3⟩;obtain ⟨e,he,re⟩:=rxs i x hx;have hi:i<es.length:=(aI.mp he).1;have hee:=aF he;have hkey:e.1∈es.map (·.1):=aQ.mpr ⟨e,hee,rfl⟩;have hel:=RL.len e hee;have fat:=RL.at he;have fpos:=RL.posf hee;obtain ⟨f0,fr,ef,fn0,nn0,v0,on0⟩:=(RO.sy e hee).hd;have es0:s0 e=rv f0:=v0;obtain ⟨b,cu,z,rfl,hb,hcu,rz⟩:=re.t S3.t;refine ⟨b,[.ref cu,z],rfl,jM.of hb,rfl,.ref cu,[z],rfl,z,[],rfl,rfl,?_⟩;refine ⟨_,rfl,?_⟩;refine qB (f:=f0) (fs:=fr) (by rw [<-ef];exact rz) ?_;refine ⟨_,rfl,?_⟩;refine rZ (λon=>?_) (λon=>?_)
  ·have sne:s0 e≠0:=on0.mp on;obtain ⟨va,hva,fva⟩:=D3.val (d:=e.1) (by rw [fat];grind);rw [fat] at fva;refine ⟨_,rfl,_,rfl,?_⟩;refine LL e3 (c:=ci e.1) (by rw [eK];exact hcu) hva ?_;obtain ⟨av,vs,rfl,hav,rvs⟩:=rz;rw [ef] at rvs;obtain ⟨y0,hy0,ry0⟩:=rvs.get (i:=0) rfl;refine ⟨_,rfl,?_⟩;refine mP hav (dU (j:=0) hy0) ?_;have qA:Qn (fC^e.1.sum) (2^150) (bR F es e.1):=by
    have h1:=RL.qn (N:=fC) (λe he=>(RO.sy e he).qn 0) f4 es.length (aL _) e.1;rw [cN] at h1;exact h1.le (aK (aJ Dd few) GN)
   have hsM:=RO.sum e hee;have nA:Fn (pP 1 1) (2^150) (eS (bR F es e.1)):=(wZ qA (d46 Oo)).fq;have n0:Fn (pP 1 1) 1 f0:=Qn.f fn0.low (wZ fn0.q (by have:=d46 (Np:=1) (Nc:=1) (a:=1) Dd;rwa [Nat.pow_one] at this));refine eM fva.v ry0.v (bG _) fn0.low (nJ sY nA (sU Dd)) (nJ sY n0 (Nat.one_le_two_pow)) λq4 H4 hq4 e4 s4=>?_;have em:iZ (eS (bR F es e.1)) f0=eS (bR F es e.1*s0 e):=gZ (fZ (bG _) fn0.low) (bG _) (by rw [iX (bG _).pos fn0.low.pos,cW,cW,es0]);rw [em] at e4;have qy:Qn (fC^(e.1.sum+1)) (2^150) (bR F es e.1*s0 e):=by
    have h:=qA.mul ((RO.sy e hee).qn 0);rw [Nat.mul_one,<-Nat.pow_succ] at h;exact h
   refine ⟨_,rfl,?_⟩;refine jX (pJ (s4 _ _ hcu)) Oo λL ys H5 hL e5 ry5 s5=>?_;have S5:=(S3.trans s4).trans s5;have ly:ys.length=F:=by rw [ry5.len,aA,aA,bD,hel]
   have frv5:cA H5 (fN (eS (bR F es e.1*s0 e))) (.ref q4):=cX (s5 _ _ e4);have e5p:H5 p=some (.dT kvs):=s5 _ _ (s4 _ _ e3);have nLp:L≠p:=λz=>by rw [z,s4 _ _ e3] at hL;cases hL
   refine ⟨L,rfl,⟨_,fI.of e5⟩,?_⟩;refine kA (xs:=ys) (λj σ H'=>∃(o5:Option V) (kvs:List (List eO × V)),σ=[some (.ref a),some (.ref p),some (.ref cu),some (.ref av),some (.ref q4),o5]/\aR p H5 H'/\H' p=some (.dT kvs)/\kvs.length<=1+4*i+j/\DQ K H' kvs λd=>bR F (es.take i) d+bR F es e.1*s0 e*cD j λf=>if bP e.1 f=d then 1 else 0)
    ⟨_,kvs,rfl,(aU.refl _).but,e5p,Oo,(D3.t (s4.trans s5).t).eq λd=>by rw [gG];grind⟩ (λj σ H' _ q=>?_) ?_ ?_
   ·obtain ⟨_,_,_,b',_⟩:=q;exact fI.of (b'.at nLp e5)
   ·rintro j y σ H6 hy ⟨o5',kv6,rfl,b6,e6,l6,D6⟩;have hj:j<F:=by rw [<-ly];exact (aI.mp hy).1
    obtain ⟨m,hm,rm⟩:=dX ry5 hy;have em:m=bP e.1 j:=by
     rw [aN,cK Oo] at hm;simpa using hm.symm
    have msum:m.sum=e.1.sum+1:=by rw [em];exact gB Oo
    have mks:m∈es.map (·.1):=by rw [em];exact RL.fwd e hee sne j hj
    have mM:m.sum<=M:=by obtain ⟨e',he',rfl⟩:=aQ.mp mks;exact RO.sum e' he'
    obtain ⟨cm,rfl,hcm⟩:=gK rm;have t6:dC H5 H6:=aR.tT b6 e5p;have hcm6:=t6 _ _ hcm;have hnz:fP K H6 (0,1) (.ref c.NOUGHT):=⟨c.NOUGHT,rfl,wQ T.o_NOUGHT⟩;have hg:=D6.get m hnz;have qX:Qn (fC^m.sum) (2^155) (bR F (es.take i) m+bR F es e.1*s0 e*cD j λf=>if bP e.1 f=m then 1 else 0):=by
     have h1:=RL.qn (N:=fC) (λe he=>(RO.sy e he).qn 0) f4 i Oo m;have h1':=h1.le (aK (aJ Dd (show i<=64 by omega)) GN);have h3:Qn 1 4 (cD j λf=>if bP e.1 f=m then 1 else 0):=by
      have:=Qn.sumR (N:=1) (B:=1) (n:=j) (f:=λf=>if bP e.1 f=m then 1 else 0) λf _=>by
       split
       ·exact Qn.one' _
       ·exact Qn.zero _ _
      exact this.le Oo
     have h4:=qy.mul h3;rw [Nat.mul_one,<-msum] at h4;refine (h1'.add h4).le ?_;have:(2:Nat)^150+2^150*4<=2^155:=Kk;exact this
    generalize hX:bR F (es.take i) m+bR F es e.1*s0 e*(cD j λf=>if bP e.1 f=m then 1 else 0)=Xm at qX hg;have nX:Fn (pP 1 1) (2^155) (eS Xm):=(wZ qX (d46 Oo)).fq;have nY:Fn (pP 1 1) (2^150) (eS (bR F es e.1*s0 e)):=(wZ qy (d46 Oo)).fq;refine ⟨_,rfl,p,rfl,.inr ⟨kv6,.inl e6⟩,_,rfl,_,oQ.ct (c:=ci m) e6 (by rw [eK];exact hcm6),?_⟩;refine ⟨_,rfl,?_⟩;refine nR hg (fP.of (frv5.flat t6 (cU _))) (bG _) (bG _) (nJ sY nX (sU Dd)) (nJ sY nY (sU Dd)) λq7 H7 hq7 e7 s7=>?_;have ea:lO (eS Xm) (eS (bR F es e.1*s0 e))=eS (Xm+bR F es e.1*s0 e):=gZ (tN (bG _) (bG _)) (bG _) (by rw [rV (bG _).pos (bG _).pos,cW,cW,cW]);rw [ea] at e7;refine ⟨_,rfl,_,rfl,?_⟩;have e7p:=s7 _ _ e6;refine RK e7p (c:=ci m) (by rw [eK];exact s7 _ _ hcm6) Oo λH8 e8 b8=>?_;have t8:dC H7 H8:=aR.tT b8 e7p;refine ⟨_,_,rfl,(b6.trans s7.but).trans b8,e8,?_,?_⟩
    ·have:=eQ kv6 (kT (ci m)) (V.ref q7);omega
    ·have D7:=D6.t s7.t;have D8:=(D7.put (c:=m) (v:=.ref q7) (y:=bR F es e.1*s0 e) (by rw [hX];exact .inl (cX e7))).t t8;refine D8.eq λd=>?_;rw [dW,<-em];by_cases q:m=d
     ·rw [if_pos q,if_pos q];grind
     ·rw [if_neg q,if_neg q];grind
   ·rintro σ H6 ⟨o5',kv6,rfl,b6,e6,l6,D6⟩;rw [ly] at l6 D6;refine ⟨_,_,_,_,kv6,rfl,aU.thru hp S5 b6,e6,Oo,D6.eq λd=>?_⟩;rw [gY he,kN,fat];rfl
  ·have z0:s0 e=0:=cF λq=>on (on0.mpr q);refine ⟨_,_,_,_,kvs,rfl,S3,e3,Oo,D3.eq λd=>?_⟩;rw [gY he,kN,z0];grind
 ·rintro σ H3 ⟨o2,o3,o4,o5,kvs,rfl,S3,e3,l3,D3⟩;rw [lx,cN] at D3;refine ⟨_,rfl,a,rfl,⟨_,jM.of (S3 _ _ ha)⟩,?_⟩;refine LP (λi y H'=>∃(e:dH) (b:Addr) (cu va:V),es[i]?=some e/\y=.ref b/\H' b=some (.tup [cu,va])/\yF K H' (eS (bR F es e.1)) va) (λi y H1 H2 s ⟨e,b,cu,va,h1,h2,h3,h4⟩=>⟨e,b,cu,va,h1,h2,s _ _ h3,h4.t s⟩) Oo (S3 _ _ ha) (λi x H' Q' hx s' k'=>?_) (λD ys H8 hD hD8 s8 hy8 hr8=>?_)
  ·obtain ⟨e,he,re⟩:=rxs i x hx;have hee:=aF he;obtain ⟨b,cu,z,rfl,hb,hcu,rz⟩:=re.t (S3.trans s').t;obtain ⟨va,hva,fva⟩:=D3.val (d:=e.1) (by have:=RL.posf hee;grind);refine ⟨_,rfl,?_⟩;refine mP hb rfl ?_;refine ⟨_,rfl,_,rfl,?_⟩;refine mP hb rfl ?_;refine LL (s' _ _ e3) (c:=ci e.1) (by rw [eK];exact hcu) hva ?_;refine rK (by show 2<=64;decide) λq5 H5 hq5 e5 s5=>?_;exact k' _ H5 s5 ⟨e,q5,_,va,he,rfl,e5,(fva.same s').same s5⟩
  ·refine ⟨D,ys,rfl,.inl ⟨fI.of hD8,λl hl=>?_⟩⟩;have sl:=aU.upd (o:=.tup ys) hl;have el:(upd H8 l (.tup ys)) l=some (.tup ys):=bK;generalize upd H8 l (.tup ys)=H9 at sl el;refine k l ys H9 ((S3.trans s8).trans sl) el Oo λi e hi=>?_;obtain ⟨y,hy⟩:∃y,ys[i]?=some y:=⟨_,aB (by have:=(aI.mp hi).1;omega)⟩;obtain ⟨e',b,cu,va,h1,rfl,h3,h4⟩:=hr8 i y hy;rw [hi] at h1;cases h1;exact ⟨b,cu,va,hy,sl _ _ h3,h4.same sl⟩
end
abbrev ZP:Stmt:=(top 33)
theorem VZ:bS ["trial","rule","way","found","entry","amount"] ["trial","rule","way"] (aO ZP):=⟨rfl,rfl,rfl,Kk,rfl,Kk,Kk⟩
abbrev SR:Stmt:=(top 34)
theorem aDS:bS ["came","way"] ["came","way"] (aO SR):=⟨rfl,rfl,rfl,Kk,rfl,Kk,Kk⟩
abbrev SV:Stmt:=(top 35)
theorem aCd:bS ["trial","rule","way","came"] ["trial","rule","way"] (aO SV):=⟨rfl,rfl,rfl,Kk,rfl,Kk,Kk⟩
abbrev SQ:Stmt:=(top 36)
theorem aDR:bS ["trial","rule","way","costs"] ["trial","rule","way","costs"] (aO SQ):=⟨rfl,rfl,rfl,Kk,rfl,Kk,Kk⟩
def GT(F:Nat)(es:List dH)(s:List Fr)(e:dH):Fr:=eS (bR F es e.1*wq s e.1)
def came(F:Nat)(es:List dH)(s:List Fr):List (dH × Fr):=es.map λe=>(e,GT F es s e)
def FD(K:PySem.W.Frag)(H:Hp)(x:dH × Fr)(v:V):Prop:=∃b cu z y,v=.ref b/\H b=some (.tup [.ref cu,z,y])/\H cu=some (.tup (x.1.1.map EY))/\RB K H x.1.2 z/\cA H (fN x.2) y
theorem FD.t{K:PySem.W.Frag}{H H':Hp}{x:dH × Fr}{v:V}(s:dC H H')(h:FD K H x v):FD K H' x v:=by
 obtain ⟨b,cu,z,y,h1,h2,h3,h4,h5⟩:=h;exact ⟨b,cu,z,y,h1,s _ _ h2,s _ _ h3,h4.t s,h5.flat s (cU _)⟩
theorem aB9{K:PySem.W.Frag}{H H':Hp}(s:dC H H'){l:List (dH × Fr)}{zs:List V}(h:Paired (FD K H) l zs):Paired (FD K H') l zs:=Paired.imp' (λ_ _ h=>h.t s) h
theorem EN{K:PySem.W.Frag}{H:Hp}:∀{l:List (dH × Fr)}{zs:List V}{x:dH × Fr}{v:V},Paired (FD K H) l zs->FD K H x v->Paired (FD K H) (l++[x]) (zs++[v])
 | _,_,_,_,.nil,h=>.cons h .nil
 | _,_,_,_,.cons r t,h=>.cons r (EN t h)
section
variable{F W M:Nat}{es:List dH}{s:List Fr}
theorem rG.aq(R:rG F W M es)(f4:F<=4)(hs:∀f∈s,Fn fC 1 f){e:dH}(h:e∈es):Qn (fC^(M+M)) (2^150) (bR F es e.1*wq s e.1):=by
 have h1:=(R.fl f4 h).mul (MO (M:=M) hs (R.sum e h));rw [Nat.mul_one,<-Nat.pow_add] at h1;exact h1
theorem rG.aqs(R:rG F W M es)(f4:F<=4)(hs:∀f∈s,Fn fC 1 f){e:dH}(h:e∈es)(v:Nat):Qn (fC^(M+M+1)) (2^150) (bR F es e.1*wq s e.1*cL e.2 v):=by
 have h1:=(R.aq f4 hs h).mul ((R.sy e h).qn v);rw [Nat.mul_one,<-Nat.pow_succ] at h1;exact h1
theorem Qn.sumL{α:Type}{N B:Nat}{f:α->Rat}:∀{l:List α},(∀a∈l,Qn N B (f a))->Qn N (l.length*B) (eW l f)
 | [],_=>by rw [iG];exact Qn.zero _ _
 | a::l,h=>by
  rw [eE,bQ,Nat.add_mul,Nat.one_mul,Nat.add_comm];exact (h a (aW ..)).add (Qn.sumL λx hx=>h x (aS _ hx))
theorem rG.said(R:rG F W M es)(f4:F<=4)(hs:∀f∈s,Fn fC 1 f)(w:Nat):Qn (fC^(M+M+1)) (2^160) (iK F es (wq s) w):=by
 have h:=Qn.sumL (l:=es) λe he=>R.aqs f4 hs he (1+w);refine h.le ?_;have h1:es.length*2^150<=64*2^150:=bT _ R.few;exact aK h1 Kk
theorem rG.spent(R:rG F W M es)(f4:F<=4)(hs:∀f∈s,Fn fC 1 f){cs:Nat->Rat}{Nc:Nat}(hc:∀e∈es,s0 e≠0->Qn Nc 1000 (cs e.1.sum)):Qn (Nc*fC^(M+M+1)) (2^170) (jH F es (wq s) cs):=by
 have h:=Qn.sumL (l:=es) (N:=Nc*fC^(M+M+1)) (B:=1000*2^150) (f:=λe=>cs e.1.sum*(bR F es e.1*wq s e.1*s0 e)) λe he=>by
  by_cases z:s0 e=0
  ·rw [z,show cs e.1.sum*(bR F es e.1*wq s e.1*0)=0 by grind];exact Qn.zero _ _
  ·exact (hc e he z).mul (R.aqs f4 hs he 0)
 refine h.le ?_;have h1:es.length*(1000*2^150)<=64*(1000*2^150):=bT _ R.few;exact aK h1 Kk
end
theorem vD{α:Type}{p:α->Bool}{f:α->Rat}:∀{l:List α},(∀a∈l,p a=false->f a=0)->eW (l.filter p) f=eW l f
 | [],_=>rfl
 | a::l,h=>by
  have ih:=vD λx hx=>h x (aS a hx);cases q:p a with
  | true=>rw [List.filter_cons_of_pos q,eE,eE,ih]
  | false=>rw [List.filter_cons_of_neg (by rw [q];decide),eE,ih,h a (aW ..) q];grind
theorem wI{α:Type}{l:List α}{g:α->Fr}{f:α->Rat}(h:∀a∈l,cV (g a)/\rv (g a)=f a):lW (l.map g)=eS (eW l f):=by
 have hl:∀x∈l.map g,cV x:=λx hx=>by
  obtain ⟨a,ha,rfl⟩:=aQ.mp hx;exact (h a ha).1
 refine gZ (wJ _ hl) (bG _) ?_;rw [NX _ hl,cW,List.map_map];exact congrArg rH (gD λa ha=>(h a ha).2)
theorem BA(x y:Rat):iZ (eS x) (eS y)=eS (x*y):=gZ (fZ (bG _) (bG _)) (bG _) (by rw [iX (bG _).pos (bG _).pos,cW,cW,cW])
theorem xZ(x y:Rat):lO (eS x) (eS y)=eS (x+y):=gZ (tN (bG _) (bG _)) (bG _) (by rw [rV (bG _).pos (bG _).pos,cW,cW,cW])
theorem YN(x y:Rat):lO (eS x) (sX (eS y))=eS (x-y):=gZ (tN (bG _) (sW (bG _))) (bG _) (by
 rw [rV (bG _).pos (sW (bG _)).pos,show sX (eS y)=(-(eS y).1,(eS y).2) from rfl,FY,cW,cW,cW,Rat.sub_eq_add_neg])
@[irreducible] def kK(K:PySem.W.Frag):Sp:=λvs H Q _=>∃(t r:V) (es:List dH) (F W M:Nat) (fs:List Str) (ws:List (Str × List Fr)) (i:Nat) (x:Str × List Fr),vs=[t,r,.int (i:Int)]/\cA H (pT fs ws) t/\yC K H es r/\rG F W M es/\1<=F/\F<=4/\M<=6/\ws[i]?=some x/\(∀f∈x.2,Fn fC 1 f)/\EW 10 x.2/\∀D ys H',H D=none->H' D=some (.lst ys)->Paired (FD K H') (came F es x.2) ys->aU H H'->Q (.ref D) H'
theorem sP{K:PySem.W.Frag}{H:Hp}{Q:VK}{E:XK}{t r:V}{es:List dH}{F W M:Nat}{fs:List Str}{ws:List (Str × List Fr)}{i:Nat}{x:Str × List Fr}(h1:cA H (pT fs ws) t)(h2:yC K H es r)(h3:rG F W M es)(h4:1<=F)(h5:F<=4)(h6:M<=6)(h7:ws[i]?=some x)(h8:∀f∈x.2,Fn fC 1 f)(h9:EW 10 x.2)
  (k:∀D ys H',H D=none->H' D=some (.lst ys)->Paired (FD K H') (came F es x.2) ys->aU H H'->Q (.ref D) H'):kK K [t,r,.int (i:Int)] H Q E:=by
 unfold kK;exact ⟨t,r,es,F,W,M,fs,ws,i,x,rfl,h1,h2,h3,h4,h5,h6,h7,h8,h9,k⟩
@[irreducible] def lX(K:PySem.W.Frag):Sp:=λvs H Q _=>∃(D:Addr) (ys:List V) (es:List dH) (F W M w:Nat) (s:List Fr),vs=[.ref D,.int (w:Int)]/\H D=some (.lst ys)/\Paired (FD K H) (came F es s) ys/\rG F W M es/\F<=4/\M<=6/\w<W/\(∀f∈s,Fn fC 1 f)/\∀v H',aU H H'->cA H' (fN (eS (iK F es (wq s) w))) v->Q v H'
theorem AK{K:PySem.W.Frag}{H:Hp}{Q:VK}{E:XK}{D:Addr}{ys:List V}{es:List dH}{F W M w:Nat}{s:List Fr}(h1:H D=some (.lst ys))(h2:Paired (FD K H) (came F es s) ys)(h3:rG F W M es)(h4:F<=4)(h5:M<=6)(h6:w<W)(h7:∀f∈s,Fn fC 1 f)(k:∀v H',aU H H'->cA H' (fN (eS (iK F es (wq s) w))) v->Q v H'):lX K [.ref D,.int (w:Int)] H Q E:=by
 unfold lX;exact ⟨D,ys,es,F,W,M,w,s,rfl,h1,h2,h3,h4,h5,h6,h7,k⟩
abbrev RI(e:dH):Bool:=decide (s0 e≠0)
abbrev XA(x:Nat × Fr):PyData:=.tuple [.int (x.1:Int),fN x.2]
def onw(F:Nat)(es:List dH)(s:List Fr):List (Nat × Fr):=(es.filter RI).map λe=>(e.1.sum,eS (bR F es e.1*wq s e.1*s0 e))
@[irreducible] def lY(K:PySem.W.Frag):Sp:=λvs H Q _=>∃(t r:V) (es:List dH) (F W M:Nat) (fs:List Str) (ws:List (Str × List Fr)) (i:Nat) (x:Str × List Fr),vs=[t,r,.int (i:Int)]/\cA H (pT fs ws) t/\yC K H es r/\rG F W M es/\1<=F/\F<=4/\M<=6/\ws[i]?=some x/\(∀f∈x.2,Fn fC 1 f)/\EW 10 x.2/\∀D ys H',H D=none->H' D=some (.lst ys)->aT H' ((onw F es x.2).map XA) ys->aU H H'->Q (.ref D) H'
theorem AL{K:PySem.W.Frag}{H:Hp}{Q:VK}{E:XK}{t r:V}{es:List dH}{F W M:Nat}{fs:List Str}{ws:List (Str × List Fr)}{i:Nat}{x:Str × List Fr}(h1:cA H (pT fs ws) t)(h2:yC K H es r)(h3:rG F W M es)(h4:1<=F)(h5:F<=4)(h6:M<=6)(h7:ws[i]?=some x)(h8:∀f∈x.2,Fn fC 1 f)(h9:EW 10 x.2)
  (k:∀D ys H',H D=none->H' D=some (.lst ys)->aT H' ((onw F es x.2).map XA) ys->aU H H'->Q (.ref D) H'):lY K [t,r,.int (i:Int)] H Q E:=by
 unfold lY;exact ⟨t,r,es,F,W,M,fs,ws,i,x,rfl,h1,h2,h3,h4,h5,h6,h7,h8,h9,k⟩
structure CoC(Nc:Nat)(es:List dH)(cs:List Fr):Prop where
 c0:0<Nc
 c1:Nc<=1000000000000000
 at_:∀f∈cs,Fn Nc 1000 f
 len:∀e∈es,s0 e≠0->e.1.sum<cs.length
theorem CoC.qn{Nc:Nat}{es:List dH}{cs:List Fr}(h:CoC Nc es cs){e:dH}(he:e∈es)(hs:s0 e≠0):Qn Nc 1000 (cL cs e.1.sum):=(h.at_ _ (eG (a:=(0,1)) (h.len e he hs))).q
@[irreducible] def pY(K:PySem.W.Frag):Sp:=λvs H Q _=>∃(t r cv:V) (es:List dH) (F W M Nc:Nat) (fs:List Str) (ws:List (Str × List Fr)) (i:Nat) (x:Str × List Fr) (cs:List Fr),vs=[t,r,.int (i:Int),cv]/\cA H (pT fs ws) t/\yC K H es r/\rG F W M es/\1<=F/\F<=4/\M<=6/\ws[i]?=some x/\(∀f∈x.2,Fn fC 1 f)/\EW 10 x.2/\cA H (rT cs) cv/\CoC Nc es cs/\∀v H',aU H H'->cA H' (fN (eS (jH F es (wq x.2) (cL cs)))) v->Q v H'
theorem FO{K:PySem.W.Frag}{H:Hp}{Q:VK}{E:XK}{t r cv:V}{es:List dH}{F W M Nc:Nat}{fs:List Str}{ws:List (Str × List Fr)}{i:Nat}{x:Str × List Fr}{cs:List Fr}(h1:cA H (pT fs ws) t)(h2:yC K H es r)(h3:rG F W M es)(h4:1<=F)(h5:F<=4)(h6:M<=6)(h7:ws[i]?=some x)(h8:∀f∈x.2,Fn fC 1 f)(h9:EW 10 x.2)(h10:cA H (rT cs) cv)(h11:CoC Nc es cs)
  (k:∀v H',aU H H'->cA H' (fN (eS (jH F es (wq x.2) (cL cs)))) v->Q v H'):pY K [t,r,.int (i:Int),cv] H Q E:=by
 unfold pY;exact ⟨t,r,cv,es,F,W,M,Nc,fs,ws,i,x,cs,rfl,h1,h2,h3,h4,h5,h6,h7,h8,h9,h10,h11,k⟩
section
theorem aDs(F:iV K "comings" "comings" ZP f fd)(T:kD K mg c)(FQ16:eZ cS P w K mg base 3 "amounts" ["rule"] (mG K))(FQ47:eZ cS P w K mg base 2 "times" ["one","other"] (fR K))(FQ52:eZ cS P w K mg base 3 "weight" ["trial","way","counts"] (jP K)):dM P w K mg base cS 4 f fd ["trial","rule","way"] (kK K):=by
 refine F.oky VZ λvs H Q E h=>?_;unfold kK at h;obtain ⟨t,r,es,F,W,M,fs,ws,iw,x,rfl,rt,rr,RO,f1,f4,m6,hx,hsh,hbo,k⟩:=h;refine ⟨rfl,λcdv A outer s hr=>?_⟩;obtain ⟨a,xs,rfl,ha,lx,rxs⟩:=id rr;have few:=RO.few;refine ⟨_,(aH (bJ (i:=3) VZ.nd rfl (Or.inl rfl) (gM aC))
  (aH (fD PassesOwn.never rfl (pR true true rfl T.b_zip (aG (aD 1) (aG (bH FQ16 (hr.mono Dd) (aG (aD 1) aC)) aC))) (rS rfl (fK (cT (i:=4) VZ.nd rfl (Or.inl rfl)) (fK (cT (i:=5) VZ.nd rfl (Or.inl rfl)) oT))) (aX (iP (lH PySem.F.plainAttrs_list PySem.F.slot_list_append PySem.F.type_list_append mZ (aD 3) (aG (dS (aG (bX bO (aD 4) aM (λ_ _=>rfl)) (aG (bX bO (aD 4) aM (λ_ _=>rfl)) (aG (bH FQ47 (hr.mono Dd) (aG (bX bO (aD 5) aM (λ_ _=>rfl)) (aG (bH FQ52 (hr.mono Dd) (aG (aD 0) (aG (aD 2) (aG (bX bO (aD 4) aM (λ_ _=>rfl)) aC)))) aC))) aC)))) aC)))))
  (aX (cB (aD 3))))),?_⟩
 refine AZ (by show 0<=64;decide) λL H1 hL e1 s1=>?_;refine ⟨_,rfl,_,rfl,?_⟩;refine AO (rr.t s1.t) RO f1 f4 m6 λam ys H2 s2 e2 ly k2=>?_;refine ⟨a,am,xs,ys,rfl,s2 _ _ (s1 _ _ ha),e2,?_⟩;refine BQ (xs:=xs) (ys:=ys) (λi σ H'=>∃(o4 o5:Option V) (zs:List V),σ=[some t,some (.ref a),some (.int (iw:Int)),some (.ref L),o4,o5]/\aR L H2 H'/\H' L=some (.lst zs)/\Paired (FD K H') ((came F es x.2).take i) zs) ⟨_,_,[],rfl,(aU.refl _).but,s2 _ _ e1,.nil⟩ (λi σ H' ⟨_,_,_,_,b',_⟩=>?_) ?_ ?_
 ·have na:a≠L:=λz=>by rw [z,hL] at ha;cases ha
  have nam:am≠L:=λz=>by rw [z,s2 _ _ e1] at e2;cases e2
  exact ⟨b'.at na (s2 _ _ (s1 _ _ ha)),b'.at nam e2⟩
 ·rintro i y z q3 σ H3 H4 hy hz ⟨o4,o5,zs,rfl,b3,e3,r3⟩ hq3 e4 s4;obtain ⟨e,he,re⟩:=rxs i y hy;have hee:=aF he;have t23:=b3.t (s2 _ _ e1);have t24:=t23.trans s4.t;have t04:=(s1.trans s2).t.trans t24;obtain ⟨b,cu,v,rfl,hb,hcu,rv'⟩:=re.t t04;have ru:cA H4 (mL e.1) (.ref cu):=pJ hcu;obtain ⟨bz,cz,va,hbz,hbz2,fva⟩:=k2 i e he;rw [hz] at hbz;cases hbz;have e4L:H4 L=some (.lst zs):=s4 _ _ e3;have lz:zs.length<=64:=by
   rw [<-r3.length,fA];unfold came;rw [aA];omega
  refine ⟨q3,_,rfl,jM.of e4,rfl,_,_,rfl,_,_,rfl,rfl,?_⟩;refine ⟨_,rfl,FF e4L,_,rfl,?_⟩;refine mP hb rfl ?_;refine ⟨_,rfl,?_⟩;refine mP hb rfl ?_;refine ⟨_,rfl,?_⟩;refine mP (t24 _ _ hbz2) rfl ?_;refine ⟨_,rfl,_,rfl,_,rfl,?_⟩;refine mP hb rfl ?_;have hsM:=RO.sum e hee;refine mT (rt.flat t04 (lV fs ws)) hx ru hbo Oo λxw H5 s5 fw=>?_;have nA:Fn (pP 1 1) (2^150) (eS (bR F es e.1)):=(wZ (RO.fl f4 hee) (d46 Oo)).fq;have lw':cV (kR (x.2.zip e.1)):=sH _ λz hz=>(hsh z.1 (List.of_mem_zip (a:=z.1) (b:=z.2) hz).1).low;have nW:Fn (pP 1 1) 1 (kR (x.2.zip e.1)):=Qn.f lw' (wZ (MO (M:=M) hsh hsM) (d46 Oo));refine eM ((fva.t t24).same s5).v fw.v (bG _) lw' (nJ sY nA (sU Dd)) (nJ sY nW Nat.one_le_two_pow) λq6 H6 hq6 e6 s6=>?_;have em:iZ (eS (bR F es e.1)) (kR (x.2.zip e.1))=GT F es x.2 e:=gZ (fZ (bG _) lw') (bG _) (by rw [iX (bG _).pos lw'.pos,cW];unfold GT;rw [cW];rfl);rw [em] at e6;refine rK (by show 3<=64;decide) λq7 H7 hq7 e7 s7=>?_;have s47:=(s5.trans s6).trans s7;refine yL (s47 _ _ e4L) Oo λH8 e8 b8=>?_;have t78:=b8.t (s47 _ _ e4L);refine ⟨_,_,zs++[.ref q7],rfl,(b3.trans (s4.trans s47).but).trans b8,e8,?_⟩;have ec:(came F es x.2)[i]?=some (e,GT F es x.2 e):=by unfold came;rw [aN,he];rfl
  rw [gY ec];refine EN (aB9 ((s4.trans s47).t.trans t78) r3) ?_;exact (show FD K H7 (e,GT F es x.2 e) (.ref q7) from ⟨q7,cu,v,_,rfl,e7,s47 _ _ hcu,rv'.t s47.t,cX (s7 _ _ e6)⟩).t t78
 ·rintro σ H3 ⟨o4,o5,zs,rfl,b3,e3,r3⟩;refine ⟨_,rfl,?_⟩;have hc:(came F es x.2).take (min xs.length ys.length)=came F es x.2:=List.take_of_length_le (by unfold came;rw [aA];omega);rw [hc] at r3;exact k L zs H3 hL e3 r3 (aU.thru hL (s1.trans s2) b3)
theorem aC3(F:iV K "said_of" "said_of" SR f fd)(T:kD K mg c)(FQ49:eZ cS P w K mg base 3 "total" ["some"] (jB K))(FQ47:eZ cS P w K mg base 2 "times" ["one","other"] (fR K)):dM P w K mg base cS 4 f fd ["came","way"] (lX K):=by
 refine F.oky aDS λvs H Q E h=>?_;unfold lX at h;obtain ⟨D,ys,es,F,W,M,iw,s,rfl,hD,rys,RO,f4,m6,hw,hsh,k⟩:=h;refine ⟨rfl,λcdv A outer s9 hr=>?_⟩;have few:=RO.few;refine ⟨_,(aX (cB (bH FQ49 (hr.mono Dd) (aG (yS (eJ.of (psc:=aO SR) (N:=["came","way"]) (xs:=["counts","says","share"]) (N':=["counts","says","share","way"]) (js:=[1]) Kk rfl rfl rfl) (eI (aD 0)) (λ_ _ _ _=>cY) (λ_ _ _ _=>(bH FQ47 (hr.mono Dd) (aG (aD 2) (aG (bX (jE K) (aD 1) (bV dY aM (aD 3)) (λ_ _=>rfl)) aC))))) aC)))),?_⟩;refine ⟨_,rfl,D,rfl,⟨_,fI.of hD⟩,?_⟩;refine uS (as:=came F es s) (λ_=>true) (λx v=>FD K H x v) (λx y H'=>cA H' (fN (eS (bR F es x.1.1*wq s x.1.1*cL x.1.2 (1+iw)))) y) (λx y H1 H2 s r=>r.flat s (cU _)) (by unfold came;rw [aA];omega) hD rys (λv x H' hx rx s'=>?_) (λL zs H2 hL e2 s2 pr=>?_)
 ·obtain ⟨e,he,rfl⟩:=aQ.mp hx;obtain ⟨b,cu,z,y,rfl,hb,hcu,rz,ry⟩:=rx.t s'.t;refine ⟨b,[.ref cu,z,y],rfl,jM.of hb,rfl,λQ' h=>h H' (aU.refl _),λH5 Q' s5 _ k'=>?_⟩;obtain ⟨az,vz,rfl,haz,rvz⟩:=rz.t s5.t;have hsy:=RO.sy e he;obtain ⟨g,hg⟩:∃g,e.2[1+iw]?=some g:=⟨_,aB (by rw [hsy.len];omega)⟩;obtain ⟨vg,hvg,rvg⟩:=rvz.get hg;have gn:=(hsy.at_ g (aF hg)).1;refine ⟨_,rfl,_,rfl,_,rfl,_,_,rfl,rfl,?_⟩;refine mP haz (by have:=dU hvg;rwa [show ((1+iw:Nat):Int)=1+(iw:Int) by omega] at this) ?_;have n1:Fn (pP 1 1) (2^150) (GT F es s e):=(wZ (RO.aq f4 hsh he) (d46 Oo)).fq;have n2:Fn (pP 1 1) 1 g:=Qn.f gn.low (wZ gn.q (by have:=d46 (Np:=1) (Nc:=1) (a:=1) Dd;rwa [Nat.pow_one] at this));refine eM (fP.of (ry.same s5)) rvg.v (bG _) gn.low (nJ sY n1 (sU Dd)) (nJ sY n2 Nat.one_le_two_pow) λq6 H6 hq6 e6 s6=>?_;refine k' _ H6 s6 (cX ?_);have em:iZ (GT F es s e) g=eS (bR F es e.1*wq s e.1*cL e.2 (1+iw)):=gZ (fZ (bG _) gn.low) (bG _) (by rw [iX (f:=GT F es s e) (bG _).pos gn.low.pos,wH hg];unfold GT;rw [cW,cW]);rw [<-em];exact e6
 ·rw [xQ] at pr;have r2:=xC (g:=λx:dH × Fr=>eS (bR F es x.1.1*wq s x.1.1*cL x.1.2 (1+iw))) pr;have e3:(came F es s).map (λx:dH × Fr=>eS (bR F es x.1.1*wq s x.1.1*cL x.1.2 (1+iw)))=es.map λe=>eS (bR F es e.1*wq s e.1*cL e.2 (1+iw)):=by unfold came;rw [List.map_map];rfl
  rw [e3] at r2;have fl:∀f∈es.map (λe=>eS (bR F es e.1*wq s e.1*cL e.2 (1+iw))),Fn (pP 1 1) (2^150) f:=λf hf=>by
   obtain ⟨e,he,rfl⟩:=aQ.mp hf;exact (wZ (RO.aqs f4 hsh he _) (d46 Oo)).fq
  refine iH e2 (pM.of r2) (mO fl sY.big.1 (aV sY.big.2 (aJ Dd Dd)) (by rw [aA];exact few) (aJ Dd Dd)) λv H3 s3 r3=>?_;rw [wI (f:=λe:dH=>bR F es e.1*wq s e.1*cL e.2 (1+iw)) λe _=>⟨bG _,cW _⟩] at r3;exact k v H3 (s2.trans s3) r3
theorem aDa(F:iV K "onwards" "onwards" SV f fd)(T:kD K mg c)(FQ19:eZ cS P w K mg base 4 "comings" ["trial","rule","way"] (kK K))(FQ47:eZ cS P w K mg base 2 "times" ["one","other"] (fR K))(FQ33:eZ cS P w K mg base 1 "looks_on" ["says"] (kJ K)):dM P w K mg base cS 5 f fd ["trial","rule","way"] (lY K):=by
 refine F.oky aCd λvs H Q E h=>?_;unfold lY at h;obtain ⟨t,r,es,F,W,M,fs,ws,iw,x,rfl,rt,rr,RO,f1,f4,m6,hx,hsh,hbo,k⟩:=h;refine ⟨rfl,λcdv A outer s hr=>?_⟩;have few:=RO.few;refine ⟨_,(aH (bJ (i:=3) aCd.nd rfl (Or.inl rfl) (bH FQ19 (hr.mono Dd) (aG (aD 0) (aG (aD 1) (aG (aD 2) aC)))))
  (aX (cB (yS (eJ.of (psc:=aO SV) (N:=["trial","rule","way","came"]) (xs:=["counts","says","share"]) (N':=["counts","says","share"]) (js:=[]) Kk rfl rfl rfl) (eI (aD 3)) (λ_ _ _ _=>HF (wE (bH FQ33 (hr.mono Dd) (aG (aD 1) aC)))) (λ_ _ _ _=>(dS (aG (jO (wA K rfl) (by rfl) T.b_sum Kk (aG (aD 0) aC)) (aG (bH FQ47 (hr.mono Dd) (aG (aD 2) (aG (bX (jE K) (aD 1) aM (λ_ _=>rfl)) aC))) aC)))))))),?_⟩
 refine ⟨_,rfl,_,rfl,_,rfl,?_⟩;refine sP rt rr RO f1 f4 m6 hx hsh hbo λD ys H1 hD e1 r1 s1=>?_;refine ⟨_,rfl,D,rfl,⟨_,fI.of e1⟩,?_⟩;refine uS (as:=came F es x.2) (λy=>RI y.1) (λy v=>FD K H1 y v) (λy v H'=>cA H' (XA (y.1.1.sum,eS (bR F es y.1.1*wq x.2 y.1.1*s0 y.1))) v) (λx y H1 H2 s r=>r.flat s rfl) (by unfold came;rw [aA];omega) e1 r1 (λv y H' hy ry s'=>?_) (λL zs H2 hL e2 s2 pr=>?_)
 ·obtain ⟨e,he,rfl⟩:=aQ.mp hy;obtain ⟨b,cu,z,y,rfl,hb,hcu,rz,ry⟩:=ry.t s'.t;obtain ⟨f0,fr,ef,fn0,nn0,v0,on0⟩:=(RO.sy e he).hd;have es0:s0 e=rv f0:=v0;refine ⟨b,[.ref cu,z,y],rfl,jM.of hb,rfl,λQ' h=>?_,λH5 Q' s5 hp k'=>?_⟩
  ·refine ⟨_,rfl,?_⟩;refine qB (f:=f0) (fs:=fr) (by rw [<-ef];exact rz) ?_;refine ⟨_,rfl,?_⟩;have e1:decide (0<f0.1)=RI e:=by
    by_cases q:0<f0.1
    ·rw [cP q];exact (cP (on0.mp q)).symm
    ·rw [cO q];exact (cO λz=>q (on0.mpr z)).symm
   rw [e1];exact h H' (aU.refl _)
  ·have hcu:=s5 _ _ hcu;obtain ⟨az,vz,rfl,haz,rvz⟩:=rz.t s5.t;rw [ef] at rvz;obtain ⟨y0,hy0,ry0⟩:=rvz.get (i:=0) rfl;refine ⟨_,rfl,?_⟩;refine rsT (ns:=ci e.1) (by rw [eK];exact jM.of hcu) ?_;rw [BR];refine ⟨_,rfl,_,rfl,?_⟩;refine mP haz (dU (j:=0) hy0) ?_;have n1:Fn (pP 1 1) (2^150) (GT F es x.2 e):=(wZ (RO.aq f4 hsh he) (d46 Oo)).fq;have n2:Fn (pP 1 1) 1 f0:=Qn.f fn0.low (wZ fn0.q (by have:=d46 (Np:=1) (Nc:=1) (a:=1) Dd;rwa [Nat.pow_one] at this));refine eM (fP.of (ry.same s5)) ry0.v (bG _) fn0.low (nJ sY n1 (sU Dd)) (nJ sY n2 Nat.one_le_two_pow) λq6 H6 hq6 e6 s6=>?_;have em:iZ (GT F es x.2 e) f0=eS (bR F es e.1*wq x.2 e.1*s0 e):=gZ (fZ (bG _) fn0.low) (bG _) (by rw [iX (f:=GT F es x.2 e) (bG _).pos fn0.low.pos,es0];unfold GT;rw [cW,cW]);have e6:H6 q6=some (.tup [.int (iZ (GT F es x.2 e) f0).1,.int (iZ (GT F es x.2 e) f0).2]):=e6;rw [em] at e6;refine rK (by show 2<=64;decide) λq7 H7 hq7 e7 s7=>?_;exact k' _ H7 (s6.trans s7) (cA.tup e7 (aT.cons (cA.int _) (aT.cons (cX (s7 _ _ e6)) aT.nil)))
 ·refine k L zs H2 (s1.free hL) e2 ?_ (s1.trans s2);have r2:aT H2 (((came F es x.2).filter λy=>RI y.1).map λy=>XA (y.1.1.sum,eS (bR F es y.1.1*wq x.2 y.1.1*s0 y.1))) zs:=Paired.toRepL pr;have e3:((came F es x.2).filter λy=>RI y.1).map (λy=>XA (y.1.1.sum,eS (bR F es y.1.1*wq x.2 y.1.1*s0 y.1)))=(onw F es x.2).map XA:=by
   unfold came onw;rw [List.filter_map,List.map_map,List.map_map];rfl
  rw [e3] at r2;exact r2
theorem aC2(F:iV K "spent" "spent" SQ f fd)(T:kD K mg c)(FQ49:eZ cS P w K mg base 3 "total" ["some"] (jB K))(FQ47:eZ cS P w K mg base 2 "times" ["one","other"] (fR K))(FQ37:eZ cS P w K mg base 5 "onwards" ["trial","rule","way"] (lY K)):dM P w K mg base cS 6 f fd ["trial","rule","way","costs"] (pY K):=by
 refine F.oky aDR λvs H Q E h=>?_;unfold pY at h;obtain ⟨t,r,cv,es,F,W,M,Nc,fs,ws,iw,x,cs,rfl,rt,rr,RO,f1,f4,m6,hx,hsh,hbo,rcv,co,k⟩:=h;refine ⟨rfl,λcdv A outer s hr=>?_⟩;have few:=RO.few;have ok:GY 1 Nc:=⟨Dd,Dd,co.c0,co.c1⟩;obtain ⟨ac,vc,rfl,hac,rvc⟩:=jK rcv;refine ⟨_,(aX (cB (bH FQ49 (hr.mono Dd) (aG (tU (eJ.of (psc:=aO SQ) (N:=["trial","rule","way","costs"]) (xs:=["looks","share"]) (N':=["looks","share","costs"]) (js:=[3]) Kk rfl rfl rfl) (eI (bH FQ37 (hr.mono Dd) (aG (aD 0) (aG (aD 1) (aG (aD 2) aC))))) (λ_ _ _ _=>cY) (λ_ _ _ _=>(bH FQ47 (hr.mono Dd) (aG (bX (jE K) (aD 2) (aD 0) (λ_ _=>rfl)) (aG (aD 1) aC))))) aC)))),?_⟩;refine ⟨_,rfl,_,rfl,_,rfl,?_⟩;refine AL rt rr RO f1 f4 m6 hx hsh hbo λD ys H1 hD e1 r1 s1=>?_;refine ⟨D,rfl,⟨_,fI.of e1⟩,?_⟩;have r1':aT H1 ((es.filter RI).map λe=>XA (e.1.sum,eS (bR F es e.1*wq x.2 e.1*s0 e))) ys:=by unfold onw at r1;rw [List.map_map] at r1;exact r1
 have fl0:=List.length_filter_le RI es;refine uS (as:=es.filter RI) (λ_=>true) (λe v=>cA H1 (XA (e.1.sum,eS (bR F es e.1*wq x.2 e.1*s0 e))) v) (λe v H'=>cA H' (fN (eS (cL cs e.1.sum*(bR F es e.1*wq x.2 e.1*s0 e)))) v) (λx y H1 H2 s r=>r.flat s (cU _)) Oo e1 (Paired.ofRepL r1') (λv e H' he re s'=>?_) (λL zs H2 hL e2 s2 pr=>?_)
 ·obtain ⟨he1,he2⟩:=iA.mp he;have hs0:s0 e≠0:=of_decide_eq_true he2;obtain ⟨b,us,rfl,hb,rus⟩:=kH (re.same s');obtain ⟨u,y,rfl,ru,ry⟩:=tO rus;cases (show u=V.int (e.1.sum:Nat) from ru);refine ⟨b,_,rfl,jM.of hb,rfl,λQ' h=>h H' (aU.refl _),λH5 Q' s5 _ k'=>?_⟩;have hlen:=co.len e he1 hs0;obtain ⟨g,hg⟩:∃g,cs[e.1.sum]?=some g:=⟨_,aB hlen⟩;obtain ⟨vg,hvg,rvg⟩:=fQ rvc hg;have gn:=co.at_ g (aF hg);refine ⟨_,rfl,_,rfl,?_⟩;refine mP ((s1.trans s').trans s5 _ _ hac) (dU hvg) ?_;refine ⟨_,rfl,?_⟩;have n1:Fn (pP 1 Nc) 1000 g:=Qn.f gn.low (wZ gn.q ⟨fC^15,by unfold pP;ac_rfl⟩);have n2:Fn (pP 1 Nc) (2^150) (eS (bR F es e.1*wq x.2 e.1*s0 e)):=(wZ (RO.aqs f4 hsh he1 0) (d46 Oo)).fq;refine eM (fP.of (rvg.same ((s1.trans s').trans s5))) (fP.of (ry.same s5)) gn.low (bG _) (nJ ok n1 (aK (show 1000<=2^10 by decide) (sU Dd))) (nJ ok n2 (sU Dd)) λq6 H6 hq6 e6 s6=>?_;refine k' _ H6 s6 (cX ?_);have em:iZ g (eS (bR F es e.1*wq x.2 e.1*s0 e))=eS (cL cs e.1.sum*(bR F es e.1*wq x.2 e.1*s0 e)):=gZ (fZ gn.low (bG _)) (bG _) (by rw [iX gn.low.pos (bG _).pos,cW,cW,wH hg]);rw [e6,em]
 ·rw [xQ] at pr;have r2:=xC (g:=λe:dH=>eS (cL cs e.1.sum*(bR F es e.1*wq x.2 e.1*s0 e))) pr;have fl:∀f∈(es.filter RI).map (λe=>eS (cL cs e.1.sum*(bR F es e.1*wq x.2 e.1*s0 e))),Fn (pP 1 Nc) (2^160) f:=λf hf=>by
   obtain ⟨e,he,rfl⟩:=aQ.mp hf;obtain ⟨he1,he2⟩:=iA.mp he;have h:=(co.qn he1 (of_decide_eq_true he2)).mul (RO.aqs f4 hsh he1 0);exact (wZ (h.le (show 1000*2^150<=2^160 by decide +kernel)) (VG Oo)).fq
  refine iH e2 (pM.of r2) (mO fl ok.big.1 (aV ok.big.2 (aJ Dd Dd)) (by rw [aA];omega) (aJ Dd Dd)) λv H3 s3 r3=>?_;rw [wI (f:=λe:dH=>cL cs e.1.sum*(bR F es e.1*wq x.2 e.1*s0 e)) λe _=>⟨bG _,cW _⟩] at r3;have ef:eW (es.filter RI) (λe:dH=>cL cs e.1.sum*(bR F es e.1*wq x.2 e.1*s0 e))=jH F es (wq x.2) (cL cs):=by
   unfold jH;exact vD λe _ he=>by rw [Classical.not_not.mp (of_decide_eq_false he)];grind
  rw [ef] at r3;exact k v H3 ((s1.trans s2).trans s3) r3
end
abbrev YT:Stmt:=(top 37)
theorem aAY:bS ["trial","rule","found","way"] ["trial","rule"] (aO YT):=⟨rfl,rfl,rfl,Kk,rfl,Kk,Kk⟩
abbrev SZ:Stmt:=(top 38)
theorem aCf:bS ["trial","rule","aim","mix"] ["trial","rule","aim"] (aO SZ):=⟨rfl,rfl,rfl,Kk,rfl,Kk,Kk⟩
abbrev ST:Stmt:=(top 42)
theorem aCc:bS ["trial","rule","aim","prices","dues"] ["trial","rule","aim","prices"] (aO ST):=⟨rfl,rfl,rfl,Kk,rfl,Kk,Kk⟩
structure RM(W:Nat)(ws:List (Str × List Fr)):Prop where
 w:ws.length=W
 sh:∀x∈ws,∀f∈x.2,Fn fC 1 f
 b:∀x∈ws,EW 10 x.2
theorem qJ{ws:List (Str × List Fr)}{i:Nat}{x:Str × List Fr}(h:ws[i]?=some x):jL (fW ws) i=wq x.2:=by
 funext c
 unfold jL;rw [gQ (show (fW ws)[i]?=some x.2 by rw [aN,h];rfl)]
def wrF(F W:Nat)(es:List dH)(ss:List (List Fr))(w:Nat):Fr:=eS (1-iK F es (jL ss w) w)
@[irreducible] def pW(K:PySem.W.Frag):Sp:=λvs H Q _=>∃(t r:V) (es:List dH) (F W M:Nat) (fs:List Str) (ws:List (Str × List Fr)),vs=[t,r]/\cA H (pT fs ws) t/\yC K H es r/\rG F W M es/\1<=F/\F<=4/\M<=6/\W<=4/\RM W ws/\∀v H',aU H H'->cA H' (rT ((List.range W).map (wrF F W es (fW ws)))) v->Q v H'
theorem FM{K:PySem.W.Frag}{H:Hp}{Q:VK}{E:XK}{t r:V}{es:List dH}{F W M:Nat}{fs:List Str}{ws:List (Str × List Fr)}(h1:cA H (pT fs ws) t)(h2:yC K H es r)(h3:rG F W M es)(h4:1<=F)(h5:F<=4)(h6:M<=6)(h7:W<=4)(h8:RM W ws)(k:∀v H',aU H H'->cA H' (rT ((List.range W).map (wrF F W es (fW ws)))) v->Q v H'):pW K [t,r] H Q E:=by
 unfold pW;exact ⟨t,r,es,F,W,M,fs,ws,rfl,h1,h2,h3,h4,h5,h6,h7,h8,k⟩
structure HC(Nc W M:Nat)(es:List dH)(mix cs:List Fr):Prop where
 ml:mix.length=W
 mx:∀f∈mix,Fn fC 1 f
 co:CoC Nc es cs
@[irreducible] def sO(K:PySem.W.Frag):Sp:=λvs H Q _=>∃(t r av:V) (es:List dH) (F W M A Nc:Nat) (fs:List Str) (ws:List (Str × List Fr)) (bs mix cs:List Fr),vs=[t,r,av]/\cA H (pT fs ws) t/\yC K H es r/\cA H (pL A bs mix cs) av/\rG F W M es/\1<=F/\F<=4/\M<=6/\W<=4/\RM W ws/\HC Nc W M es mix cs/\∀v H',aU H H'->cA H' (fN (eS (vM F W es (jL (fW ws)) (cL mix) (cL cs)))) v->Q v H'
theorem KB{K:PySem.W.Frag}{H:Hp}{Q:VK}{E:XK}{t r av:V}{es:List dH}{F W M A Nc:Nat}{fs:List Str}{ws:List (Str × List Fr)}{bs mix cs:List Fr}(h1:cA H (pT fs ws) t)(h2:yC K H es r)(h0:cA H (pL A bs mix cs) av)(h3:rG F W M es)(h4:1<=F)(h5:F<=4)(h6:M<=6)(h7:W<=4)(h8:RM W ws)(h9:HC Nc W M es mix cs)(k:∀v H',aU H H'->cA H' (fN (eS (vM F W es (jL (fW ws)) (cL mix) (cL cs)))) v->Q v H'):sO K [t,r,av] H Q E:=by
 unfold sO;exact ⟨t,r,av,es,F,W,M,A,Nc,fs,ws,bs,mix,cs,rfl,h1,h2,h0,h3,h4,h5,h6,h7,h8,h9,k⟩
@[irreducible] def nQ(K:PySem.W.Frag):Sp:=λvs H Q _=>∃(t r av pv:V) (es:List dH) (F W M A Np Nc:Nat) (fs:List Str) (ws:List (Str × List Fr)) (bs mix cs ps:List Fr),vs=[t,r,av,pv]/\cA H (pT fs ws) t/\yC K H es r/\cA H (pL A bs mix cs) av/\cA H (rT ps) pv/\rG F W M es/\1<=F/\F<=4/\M<=6/\W<=4/\RM W ws/\HC Nc W M es mix cs/\0<Np/\Np<=1000000000000000/\ps.length=W/\(∀f∈ps,Fn Np 1000 f)/\∀v H',aU H H'->cA H' (fN (eS (xA F W es (jL (fW ws)) (cL mix) (cL ps) (cL cs)))) v->Q v H'
theorem CT{K:PySem.W.Frag}{H:Hp}{Q:VK}{E:XK}{t r av pv:V}{es:List dH}{F W M A Np Nc:Nat}{fs:List Str}{ws:List (Str × List Fr)}{bs mix cs ps:List Fr}(h1:cA H (pT fs ws) t)(h2:yC K H es r)(h0:cA H (pL A bs mix cs) av)(h00:cA H (rT ps) pv)(h3:rG F W M es)(h4:1<=F)(h5:F<=4)(h6:M<=6)(h7:W<=4)(h8:RM W ws)(h9:HC Nc W M es mix cs)(h10:0<Np)(h11:Np<=1000000000000000)(h12:ps.length=W)(h13:∀f∈ps,Fn Np 1000 f)(k:∀v H',aU H H'->cA H' (fN (eS (xA F W es (jL (fW ws)) (cL mix) (cL ps) (cL cs)))) v->Q v H'):nQ K [t,r,av,pv] H Q E:=by
 unfold nQ;exact ⟨t,r,av,pv,es,F,W,M,A,Np,Nc,fs,ws,bs,mix,cs,ps,rfl,h1,h2,h0,h00,h3,h4,h5,h6,h7,h8,h9,h10,h11,h12,h13,k⟩
section
variable{F W M Nc:Nat}{es:List dH}{fs:List Str}{ws:List (Str × List Fr)}{mix cs:List Fr}
theorem rG.wr(R:rG F W M es)(f4:F<=4)(T:RM W ws){w:Nat}(hw:w<W):Qn (fC^(M+M+1)) (2^161) (1-iK F es (jL (fW ws) w) w):=by
 obtain ⟨x,hx⟩:∃x,ws[w]?=some x:=⟨_,aB (by rw [T.w];exact hw)⟩;rw [qJ hx];have h:=(Qn.one' (fC^(M+M+1))).sub (R.said f4 (T.sh x (aF hx)) w);exact h.le Kk
theorem rG.ms(R:rG F W M es)(f4:F<=4)(T:RM W ws)(A:HC Nc W M es mix cs){w:Nat}(hw:w<W):Qn (Nc*fC^(M+M+2)) (2^170) (cL mix w*jH F es (jL (fW ws) w) (cL cs)):=by
 obtain ⟨x,hx⟩:∃x,ws[w]?=some x:=⟨_,aB (by rw [T.w];exact hw)⟩;rw [qJ hx];have h:=(A.mx _ (eG (a:=(0,1)) (show w<mix.length by rw [A.ml];exact hw))).q.mul (R.spent f4 (T.sh x (aF hx)) λe he hs=>A.co.qn he hs);rw [Nat.one_mul] at h;exact h.dvd ⟨1,by rw [Nat.mul_one,Nat.pow_succ (n:=fC) (m:=M+M+1)];ac_rfl⟩
theorem rG.costn(R:rG F W M es)(f4:F<=4)(w4:W<=4)(T:RM W ws)(A:HC Nc W M es mix cs):Qn (Nc*fC^(M+M+2)) (2^172) (vM F W es (jL (fW ws)) (cL mix) (cL cs)):=by
 have h:=Qn.sumR (n:=W) λw hw=>R.ms f4 T A hw;refine h.le ?_;have h1:W*2^170<=4*2^170:=bT _ w4;exact aK h1 Kk
end
section
theorem aCS(F:iV K "wrong" "wrong" YT f fd)(T:kD K mg c)(FQ51:eZ cS P w K mg base 1 "ways_of" ["trial"] iR)(FQ31:eZ cS P w K mg base 3 "less" ["one","other"] (nZ K))(FQ44:eZ cS P w K mg base 4 "said_of" ["came","way"] (lX K))(FQ19:eZ cS P w K mg base 4 "comings" ["trial","rule","way"] (kK K)):dM P w K mg base cS 5 f fd ["trial","rule"] (pW K):=by
 refine F.oky aAY λvs H Q E h=>?_;unfold pW at h;obtain ⟨t,r,es,F,W,M,fs,ws,rfl,rt,rr,RO,f1,f4,m6,w4,TQ,k⟩:=h;refine ⟨rfl,λcdv A outer s hr=>?_⟩;refine ⟨_,(aH (bJ (i:=2) aAY.nd rfl (Or.inl rfl) (gM aC))
  (aH (fD PassesOwn.never rfl (dG rfl T.b_range (aG (bH FQ51 (hr.mono Dd) (aG (aD 0) aC)) aC)) (cT (i:=3) aAY.nd rfl (Or.inl rfl)) (aX (iP (lH PySem.F.plainAttrs_list PySem.F.slot_list_append PySem.F.type_list_append mZ (aD 2) (aG (bH FQ31 (hr.mono Dd) (aG (mR (v:=.ref c.ONE) rfl T.g_ONE rfl) (aG (bH FQ44 (hr.mono Dd) (aG (bH FQ19 (hr.mono Dd) (aG (aD 0) (aG (aD 1) (aG (aD 3) aC)))) (aG (aD 3) aC))) aC))) aC)))))
  (aX (cB (kS dP (by rfl) T.b_tuple Kk (aG (aD 2) aC)))))),?_⟩
 refine AZ (by show 0<=64;decide) λL H1 hL e1 s1=>?_;refine ⟨_,rfl,?_⟩;refine kW (rt.same s1) ?_;rw [TQ.w];refine ⟨_,rfl,Oo,Oo,?_⟩;rw [Int.toNat_natCast];refine gI (λi σ H'=>∃(o3:Option V) (zs:List V),σ=[some t,some r,some (.ref L),o3]/\aR L H1 H'/\H' L=some (.lst zs)/\aT H' (((List.range i).map (wrF F W es (fW ws))).map fN) zs) ⟨_,[],rfl,(aU.refl _).but,e1,aT.nil⟩ ?_ ?_
 ·rintro i σ H2 hi ⟨o3,zs,rfl,b2,e2,r2⟩;obtain ⟨x,hx⟩:∃x,ws[i]?=some x:=⟨_,aB (by rw [TQ.w];exact hi)⟩;have hxm:=aF hx;have t2:dC H1 H2:=b2.t e1;rw [show (0:Int)+(i:Int)=(i:Int) by omega];refine ⟨_,rfl,FF e2,_,rfl,_,rfl,_,rfl,?_⟩;refine sP ((rt.same s1).flat t2 (lV _ _)) ((rr.t s1.t).t t2) RO f1 f4 m6 hx (TQ.sh x hxm) (TQ.b x hxm) λD ys H3 hD e3 r3 s3=>?_;refine ⟨_,rfl,?_⟩;refine AK e3 r3 RO f4 m6 hi (TQ.sh x hxm) λv4 H4 s4 r4=>?_;have n4:Fn (pP 1 1) (2^160) (eS (iK F es (wq x.2) i)):=(wZ (RO.said f4 (TQ.sh x hxm) i) (d46 Oo)).fq;have hoc:fP K H4 (1,1) (.ref c.ONE):=⟨c.ONE,rfl,wQ T.o_ONE⟩;refine wT hoc (fP.of r4) UX (bG _) (nJ sY (Fn.one _) Nat.one_le_two_pow) (nJ sY n4 (sU Dd)) λq5 H5 hq5 e5 s5=>?_;have ew:lO (1,1) (sX (eS (iK F es (wq x.2) i)))=wrF F W es (fW ws) i:=by
   unfold wrF;rw [qJ hx,<-BP,YN]
  rw [ew] at e5;have S5:=(s3.trans s4).trans s5;have lz:zs.length=i:=by rw [r2.len,aA,aA,bD]
  refine yL (S5 _ _ e2) Oo λH6 e6 b6=>?_;have t6:=b6.t (S5 _ _ e2);refine ⟨_,_,rfl,(b2.trans S5.but).trans b6,e6,?_⟩;rw [List.range_succ,bE,bE];exact aT.snoc (aT.flat (S5.t.trans t6) (mJ _) r2) (cA.flat t6 (cU _) (cX e5))
 ·rintro σ H2 ⟨o3,zs,rfl,b2,e2,r2⟩;refine ⟨_,rfl,L,zs,rfl,.inl ⟨fI.of e2,λl hl=>?_⟩⟩;have sl:=aU.upd (o:=.tup zs) hl;have el:(upd H2 l (.tup zs)) l=some (.tup zs):=bK;generalize upd H2 l (.tup zs)=H3 at sl el;exact k _ H3 ((aU.thru hL s1 b2).trans sl) (cA.tup el (r2.same sl))
theorem aDp(F:iV K "cost" "cost" SZ f fd)(T:kD K mg c)(FQ51:eZ cS P w K mg base 1 "ways_of" ["trial"] iR)(FQ49:eZ cS P w K mg base 3 "total" ["some"] (jB K))(FQ47:eZ cS P w K mg base 2 "times" ["one","other"] (fR K))(FQ45:eZ cS P w K mg base 6 "spent" ["trial","rule","way","costs"] (pY K)):dM P w K mg base cS 7 f fd ["trial","rule","aim"] (sO K):=by
 refine F.oky aCf λvs H Q E h=>?_;unfold sO at h;obtain ⟨t,r,av,es,F,W,M,A,Nc,fs,ws,bs,mix,cs,rfl,rt,rr,ra,RO,f1,f4,m6,w4,TQ,AQ,k⟩:=h;refine ⟨rfl,λcdv A outer s hr=>?_⟩;have ok:GY 1 Nc:=⟨Dd,Dd,AQ.co.c0,AQ.co.c1⟩;obtain ⟨aa,xb,xm,xc,rfl,haa,rxb,rxm,rxc⟩:=uZ ra;obtain ⟨am,vm,rfl,ham,rvm⟩:=jK rxm;refine ⟨_,(aH (bJ (i:=3) aCf.nd rfl (Or.inr rfl) (bX bO (aD 2) aM (λ_ _=>rfl)))
  (aX (cB (bH FQ49 (hr.mono Dd) (aG (fX (dJ.of (psc:=aO SZ) (N:=["trial","rule","aim","mix"]) (N':=["way","trial","rule","aim","mix"]) (js:=[0,1,2,3]) Kk rfl rfl rfl) (dG rfl T.b_range (aG (bH FQ51 (hr.mono Dd) (aG (aD 0) aC)) aC)) (λ_ _ _ _=>cY) (λ_ _ _ _=>(bH FQ47 (hr.mono Dd) (aG (bX (jE K) (aD 4) (aD 0) (λ_ _=>rfl)) (aG (bH FQ45 (hr.mono Dd) (aG (aD 1) (aG (aD 2) (aG (aD 0) (aG (bX (jE K) (aD 3) aM (λ_ _=>rfl)) aC))))) aC))))) aC))))),?_⟩
 refine ⟨_,rfl,?_⟩;refine mP haa rfl ?_;refine ⟨_,rfl,?_⟩;refine kW rt ?_;rw [TQ.w];refine ⟨_,rfl,Oo,Oo,?_⟩;refine jR (λi y H'=>i<W/\cA H' (fN (eS (cL mix i*jH F es (jL (fW ws) i) (cL cs)))) y) (λi y H1 H2 s ⟨h1,h2⟩=>⟨h1,h2.flat s (cU _)⟩) Oo (λi H' Q' hi s' k'=>?_) (λD ys H1 hD e1 s1 hy hr1=>?_)
 ·have hi:i<W:=Oo;obtain ⟨x,hx⟩:∃x,ws[i]?=some x:=⟨_,aB (by rw [TQ.w];exact hi)⟩;have hxm:=aF hx;obtain ⟨g,hg⟩:∃g,mix[i]?=some g:=⟨_,aB (by rw [AQ.ml];exact hi)⟩;obtain ⟨vg,hvg,rvg⟩:=fQ rvm hg;have gn:=AQ.mx g (aF hg);rw [Int.zero_add];refine ⟨_,rfl,_,rfl,?_⟩;refine mP (s' _ _ ham) (dU hvg) ?_;refine ⟨_,rfl,_,rfl,_,rfl,_,rfl,?_⟩;refine mP (s' _ _ haa) rfl ?_;refine FO (rt.same s') (rr.t s'.t) RO f1 f4 m6 hx (TQ.sh x hxm) (TQ.b x hxm) (rxc.same s') AQ.co λv2 H2 s2 r2=>?_;have n1:Fn (pP 1 Nc) 1 g:=Qn.f gn.low (wZ gn.q (by have:=d46 (Np:=1) (Nc:=Nc) (a:=1) Dd;rwa [Nat.pow_one] at this));have n2:Fn (pP 1 Nc) (2^170) (eS (jH F es (wq x.2) (cL cs))):=(wZ (RO.spent f4 (TQ.sh x hxm) λe he hs=>AQ.co.qn he hs) (VG Oo)).fq;refine eM (fP.of ((rvg.same s').same s2)) (fP.of r2) gn.low (bG _) (nJ ok n1 Nat.one_le_two_pow) (nJ ok n2 (sU Dd)) λq3 H3 hq3 e3 s3=>?_;refine k' _ H3 (s2.trans s3) ⟨hi,cX ?_⟩;have em:iZ g (eS (jH F es (wq x.2) (cL cs)))=eS (cL mix i*jH F es (jL (fW ws) i) (cL cs)):=gZ (fZ gn.low (bG _)) (bG _) (by rw [iX gn.low.pos (bG _).pos,cW,cW,wH hg,qJ hx]);rw [e3,em]
 have r1:aT H1 (((List.range W).map λi=>eS (cL mix i*jH F es (jL (fW ws) i) (cL cs))).map fN) ys:=aT.ofRange Oo hr1;have fl:∀f∈(List.range W).map (λi=>eS (cL mix i*jH F es (jL (fW ws) i) (cL cs))),Fn (pP 1 Nc) (2^170) f:=λf hf=>by
  obtain ⟨i,hi,rfl⟩:=aQ.mp hf;exact (wZ (RO.ms f4 TQ AQ (bU.mp hi)) (VG Oo)).fq
 refine iH e1 (pM.of r1) (mO fl ok.big.1 (aV ok.big.2 (aJ Dd Dd)) (by rw [aA,bD];omega) (aJ Dd Dd)) λv H3 s3 r3=>?_;rw [wI (f:=λi=>cL mix i*jH F es (jL (fW ws) i) (cL cs)) λe _=>⟨bG _,cW _⟩] at r3;exact k v H3 (s1.trans s3) r3
theorem aC6(F:iV K "priced" "priced" ST f fd)(T:kD K mg c)(FQ47:eZ cS P w K mg base 2 "times" ["one","other"] (fR K))(FQ55:eZ cS P w K mg base 5 "wrong" ["trial","rule"] (pW K))(FQ39:eZ cS P w K mg base 2 "plus" ["one","other"] (lK K))(FQ22:eZ cS P w K mg base 7 "cost" ["trial","rule","aim"] (sO K))(FQ49:eZ cS P w K mg base 3 "total" ["some"] (jB K)):dM P w K mg base cS 8 f fd ["trial","rule","aim","prices"] (nQ K):=by
 refine F.oky aCc λvs H Q E h=>?_;unfold nQ at h;obtain ⟨t,r,av,pv,es,F,W,M,A,Np,Nc,fs,ws,bs,mix,cs,ps,rfl,rt,rr,ra,rp,RO,f1,f4,m6,w4,TQ,AQ,p0,p1,pl,pn,k⟩:=h;refine ⟨rfl,λcdv A outer s hr=>?_⟩;have ok:GY Np Nc:=⟨p0,p1,AQ.co.c0,AQ.co.c1⟩;have big:=ok.big;have big3:pP Np Nc<2^3000:=aV big.2 (aJ Dd Dd);obtain ⟨ap,vp,rfl,hap,rvp⟩:=jK rp;have lvp:vp.length=W:=by rw [eY rvp,pl]
 refine ⟨_,(aH (oS (i:=4) (eJ.of (psc:=aO ST) (N:=["trial","rule","aim","prices","dues"]) (xs:=["price","share"]) (N':=["price","share"]) (js:=[]) Kk rfl rfl rfl) aCc.nd rfl rfl (pR true true rfl T.b_zip (aG (aD 3) (aG (bH FQ55 (hr.mono Dd) (aG (aD 0) (aG (aD 1) aC))) aC))) (λ_ _ _ _=>cY) (λ_ _ _ _=>(bH FQ47 (hr.mono Dd) (aG (aD 0) (aG (aD 1) aC)))))
  (aX (cB (bH FQ39 (hr.mono Dd) (aG (bH FQ22 (hr.mono Dd) (aG (aD 0) (aG (aD 1) (aG (aD 2) aC)))) (aG (bH FQ49 (hr.mono Dd) (aG (aD 4) aC)) aC)))))),?_⟩
 refine ⟨_,rfl,_,rfl,_,rfl,?_⟩;refine FM rt rr RO f1 f4 m6 w4 TQ λv1 H1 s1 r1=>?_;obtain ⟨aw,vw,rfl,haw,rvw⟩:=jK r1;have lvw:vw.length=W:=by rw [eY rvw,aA,bD]
 refine ⟨ap,aw,vp,vw,rfl,s1 _ _ hap,haw,?_⟩;have dn:∀i,i<W->Qn (Np*fC^(M+M+1)) (2^171) (cL ps i*(1-iK F es (jL (fW ws) i) i)):=λi hi=>by
  have h:=(pn _ (eG (a:=(0,1)) (show i<ps.length by omega))).q.mul (RO.wr f4 TQ hi);exact h.le Kk
 have dd:Np*fC^(M+M+1) ∣ pP Np Nc:=by
  obtain ⟨r,hr⟩:=Nat.pow_dvd_pow fC (show M+M+1<=15 by omega);exact ⟨Nc*r,by unfold pP;rw [hr];ac_rfl⟩
 refine oJ (xs:=vp) (ys:=vw) (λi y H'=>i<W/\cA H' (fN (eS (cL ps i*(1-iK F es (jL (fW ws) i) i)))) y) (λi y H1 H2 s ⟨h1,h2⟩=>⟨h1,h2.flat s (cU _)⟩) Oo (s1 _ _ hap) haw Oo (λi x y H' Q' hx hy s' k'=>?_) (λD us H2 hD e2 s2 hu hr2=>?_)
 ·have hi:i<W:=by rw [<-lvp];exact (aI.mp hx).1
  obtain ⟨g,hg,rg⟩:=dX rvp hx;obtain ⟨h',hh,rh⟩:=dX rvw hy;have eh:h'=eS (1-iK F es (jL (fW ws) i) i):=by
   rw [aN,cK hi] at hh;cases hh;rfl
  subst eh;have gn:=pn g (aF hg);refine ⟨_,rfl,_,rfl,?_⟩;have n1:Fn (pP Np Nc) 1000 g:=Qn.f gn.low (wZ gn.q ⟨Nc*fC^15,by unfold pP;ac_rfl⟩);have n2:Fn (pP Np Nc) (2^161) (eS (1-iK F es (jL (fW ws) i) i)):=(wZ (RO.wr f4 TQ hi) (d46 Oo)).fq;refine eM (fP.of (rg.same (s1.trans s'))) (fP.of (rh.same s')) gn.low (bG _) (nJ ok n1 (aK (show 1000<=2^10 by decide) (sU Dd))) (nJ ok n2 (sU Dd)) λq3 H3 hq3 e3 s3=>?_;refine k' _ H3 s3 ⟨hi,cX ?_⟩;have em:iZ g (eS (1-iK F es (jL (fW ws) i) i))=eS (cL ps i*(1-iK F es (jL (fW ws) i) i)):=gZ (fZ gn.low (bG _)) (bG _) (by rw [iX gn.low.pos (bG _).pos,cW,cW,wH hg]);rw [e3,em]
 have r2:aT H2 (((List.range W).map λi=>eS (cL ps i*(1-iK F es (jL (fW ws) i) i))).map fN) us:=aT.ofRange Oo hr2;have S2:=s1.trans s2;refine ⟨_,rfl,_,rfl,_,rfl,?_⟩;refine KB (rt.same S2) (rr.t S2.t) (ra.same S2) RO f1 f4 m6 w4 TQ AQ λv3 H3 s3 r3=>?_;refine ⟨_,rfl,?_⟩;have fl:∀f∈(List.range W).map (λi=>eS (cL ps i*(1-iK F es (jL (fW ws) i) i))),Fn (pP Np Nc) (2^171) f:=λf hf=>by
  obtain ⟨i,hi,rfl⟩:=aQ.mp hf;exact (wZ (dn i (bU.mp hi)) dd).fq
 refine iH (s3 _ _ e2) (pM.of (r2.same s3)) (mO fl big.1 big3 (by rw [aA,bD];omega) (aJ Dd Dd)) λv4 H4 s4 r4=>?_;rw [wI (f:=λi=>cL ps i*(1-iK F es (jL (fW ws) i) i)) λe _=>⟨bG _,cW _⟩] at r4;have n3:Fn (pP Np Nc) (2^172) (eS (vM F W es (jL (fW ws)) (cL mix) (cL cs))):=(wZ (RO.costn f4 w4 TQ AQ) (VG Oo)).fq;have n4:Fn (pP Np Nc) (2^173) (eS (eW (List.range W) λi=>cL ps i*(1-iK F es (jL (fW ws) i) i))):=by
  have h:=Qn.sumR (n:=W) dn;have h1:W*2^171<=4*2^171:=bT _ w4;exact (wZ (h.le (aK h1 (show 4*2^171<=2^173 by decide +kernel))) dd).fq
 refine nR (fP.of (r3.same s4)) (fP.of r4) (bG _) (bG _) (nJ ok n3 (sU Dd)) (nJ ok n4 (sU Dd)) λq5 H5 hq5 e5 s5=>?_;rw [xZ] at e5;exact k _ H5 (((S2.trans s3).trans s4).trans s5) (cX e5)
end
end Kw
namespace L2
open PySem PySem.Spec PySem.W PyProof.Rows HT
def GZ(kvs:List (List eO × V)):Prop:=∀(P:Program) (w:World),(kvs.map λp=>(tupleKind (dE P w)).hash p.1).Nodup
theorem xR{α:Type}{f:α->Int}(v:Int):∀{l:List α},(l.map f).Nodup->(l.filter λx=>f x == v).length<=1
 | [],_=>cG _
 | a::l,h=>by
  rw [bL,List.nodup_cons] at h;rw [List.filter_cons];split
  ·rename_i e
   have e:f a=v:=by simpa using e
   have:l.filter (λx=>f x == v)=[]:=List.filter_eq_nil_iff.mpr λx hx q=>h.1 (by
    have q:f x=v:=by simpa using q
    rw [e,<-q];exact List.mem_map_of_mem hx)
   rw [this];exact aL _
  ·exact xR v h.2
section
variable{X:Cx}{pins:List (Addr × Obj)}{σ:St}{H:Hp}
variable{prog:Program}{w:World}{A:Around}{E:Value->Shared->Prop}{s:Shared}
theorem KL{a:Addr}{Q:Bool->Shared->Prop}(ht:s.TypeIs (.ref a) "tuple")(h:Q false s):wpAny (model prog w) A (Builtin.Dict.quietEq (.ref a)) Q E s:=by
 unfold Builtin.Dict.quietEq;refine wpAny_bind (wpAny_specialOf ht F.slot_tuple_eq.lookup (wpAny_pure ?_));exact h
theorem EB{K:Type}[DecidableEq K]{knd:HeapKind prog w K}{id:String}{d:Addr}{o:Obj}{es ep}{xs:List (K × Addr × Value)}{Q:Array DictEntry->Shared->Prop}(ho:s.heap.get? d=some o)(hd:o.data=.dict es ep)(he:es.toList=xs.map (entryOfKey knd))(hty:∀x∈xs,s.TypeIs (.ref x.2.1) "tuple")(nd:(xs.map λx=>knd.hash x.1).Nodup)(h:Q es s) :
  wpAny (model prog w) A (Builtin.Dict.entriesForEmpty id d) Q E s:=by
 unfold Builtin.Dict.entriesForEmpty;refine wpAny_bind (wpAny_dictEntries ho hd ?_);refine wpAny_bind ?_;rw [<-Array.forIn_toList];refine wpAny_forIn_list _ (λrest _ s'=>s'=s/\∀e∈rest,e∈es.toList) _ ?_ ?_ _ _ ⟨rfl,λe h=>h⟩
 ·rintro e rest b s' ⟨rfl,hm⟩;have hme:=hm e (aW ..);rw [he] at hme;obtain ⟨x,hx,rfl⟩:=aQ.mp hme;refine wpAny_bind (KL (hty x hx) ?_);have hs:¬(es.filter λy=>y.hash == (entryOfKey knd x).hash).size > 1:=by
   rw [<-Array.length_toList,Array.toList_filter,he,List.filter_map,aA];have:=xR (f:=λx:K × Addr × Value=>knd.hash x.1) (knd.hash x.1) nd;exact Nat.not_lt.mpr this
  rw [if_pos (by rfl),if_neg hs];exact wpAny_pure ⟨rfl,λe h=>hm e (aS _ h)⟩
 ·rintro b s' ⟨rfl,_⟩;exact wpAny_pure h
theorem LB{K:Type}[DecidableEq K]{knd:HeapKind prog w K}{nm:String}{d o:Addr}{od oo:Obj}{eso:Array DictEntry}{epd epo:Nat}{xs:List (K × Addr × Value)}{Q:Unit->Shared->Prop}(hdo:d≠o)(hoS:(o == sysModules)=false)
  (hod:s.heap.get? d=some od) (hcd:od.ExactDict) (hdd:od.data=.dict #[] epd) (hoo:s.heap.get? o=some oo) (hdo':oo.data=.dict eso epo) (he:eso.toList=xs.map (entryOfKey knd)) (hty:∀x∈xs,s.TypeIs (.ref x.2.1) "tuple") (nd:(xs.map λx=>knd.hash x.1).Nodup) (hz:xs.length<=sizeLine)
  (hQ:∀h' q ep',h'.get? d=some q->q.ExactDict->q.data=.dict eso ep'->Heap.SameBut d s.heap h'->Q () { s with heap:=h' }) :
  wpAny (model prog w) A (Builtin.Dict.mergeDict nm d o) Q E s:=by
 have hes:eso.size<=sizeLine+1:=by
  have:=congrArg List.length he;rw [aA,Array.length_toList] at this;omega
 unfold Builtin.Dict.mergeDict;rw [if_neg (by simpa using hdo)];unfold Builtin.Dict.showsAll;rw [if_neg (by rw [hoS];exact bN)];refine wpAny_bind (wpAny_pure ?_);refine wpAny_bind (wpAny_dictEntries hoo hdo' ?_);dsimp only;cases xs with
 | nil =>
  have h0:eso=#[]:=by
   have:eso.toList=[]:=he;exact Array.toList_eq_nil_iff.mp this
  subst h0;rw [if_neg (by simp)];refine wpAny_bind (wpAny_dictEpoch hoo hdo' ?_);refine wpAny_bind (wpAny_dictEntries hoo hdo' ?_);refine wpAny_bind ?_;rw [Std.Legacy.Range.forIn_eq_forIn_range'];show wpAny _ _ (forIn (List.range' 0 0 1) _ _) _ _ _;refine wpAny_pure ?_;exact wpAny_pure (hQ s.heap od epd hod hcd hdd (Heap.SameBut.refl _ _))
 | cons x xs =>
  have hfew:(decide (eso.size<=8)&&eso.all λe=>(keyPart e.key).isSome)=false:=by
   rw [Bool.and_eq_false_iff]
   right
   rw [<-Array.all_toList,he]
   rfl
  rw [if_pos (by rw [hfew];rfl)];refine wpAny_bind (wpAny_dictEntries hod hdd ?_);rw [if_pos (by rfl)];refine wpAny_bind (EB (knd:=knd) hoo hdo' he hty nd ?_);have hne:(!eso.isEmpty)=true:=by
   rw [Bool.not_eq_true',<-Bool.not_eq_true];intro q;rw [Array.isEmpty_iff.mp q] at he;cases he
  rw [if_pos hne];refine wpAny_bind (wpAny_updateDictKeysTo hod hdd (wpAny_pure (hQ _ _ (epd+1) (Heap.get?_update_self _ hod (Obj.isFreed_of_dict (Obj.data_mapDictKeys hdd _))) (hcd.mapDictKeys _) (Obj.data_mapDictKeys hdd _) (Heap.SameBut.update ..))) hes)
@[irreducible] def AV:List V->Hp->VK->Prop:=λxs H Q=>∃(t:Addr) (kvs:List (List eO × V)),xs=[.ref t]/\H t=some (.dT kvs)/\GZ kvs/\kvs.length<=1000/\∀D,H D=none->Q (.ref D) (upd H D (.dT kvs))
theorem rdcd{H:Hp}{Q:VK}{t:Addr}{kvs:List (List eO × V)}(ht:H t=some (.dT kvs))(nd:GZ kvs)(hz:kvs.length<=1000)(q:∀D H',H D=none->H' D=some (.dT kvs)->aU H H'->Q (.ref D) H'):AV [.ref t] H Q:=by
 unfold AV;exact ⟨t,kvs,rfl,ht,nd,hz,λD hD=>q D _ hD bK (aU.upd hD)⟩
theorem QO(hc:X.calm=true):lE X (.type "dict") AV:=by
 unfold AV;intro pins s σ H xs us Q I r h;obtain ⟨t,kvs,rfl,ht,nd,hz,q⟩:=h;obtain ⟨u,rfl,rx⟩:=mS r;cases rx;have hA:=I.ok.hd hc;refine callType_codes (Q₁:=λobj s₁=>obj=.ref s.heap.objs.size/\s₁={ s with heap:=s.heap.push { cls:=.type "dict",data:=.dict #[] } }) F.kt_called_dict (F.kt_typeCall_dict_1 _) F.entry_dict_init (kt_code_dict_new _ ⟨rfl,rfl⟩) ?_;rintro obj s₁ ⟨rfl,rfl⟩;have hD:=I.hok.fresh (aL s.heap.objs.size);have I1:cJ X pins σ (upd H s.heap.objs.size (.dT [])) { s with heap:=s.heap.push { cls:=.type "dict",data:=.dict #[] } }:=I.laid (a:=s.heap.objs.size) (o:=.dT []) (t':=s.toks) (λ_ _ q=>aE _ q) (aL _) (xT s.heap I.big);have htD:t≠s.heap.objs.size:=λe=>by subst e;rw [hD] at ht;cases ht
 have ht1:upd H s.heap.objs.size (.dT []) t=some (.dT kvs):=by rw [dB htD];exact ht
 obtain ⟨zt,hdt,ks,rel,ot,eso,epo,h1,h2,h3,h4,h5⟩:=(show fO X.prog X.w (upd H s.heap.objs.size (.dT [])) (s.heap.push { cls:=.type "dict",data:=.dict #[] }) t (.dT kvs) from I1.hok t _ ht1);obtain ⟨zD,hdD,_⟩:=(show fO X.prog X.w (upd H s.heap.objs.size (.dT [])) (s.heap.push { cls:=.type "dict",data:=.dict #[] }) s.heap.objs.size (.dT []) from I1.hok _ _ bK);have hnew:(s.heap.push { cls:=.type "dict",data:=.dict #[] }).DictOf (dE X.prog X.w) s.heap.objs.size []:=Heap.DictOf.new s.heap;have hto:(Shared.TypeIs { s with heap:=s.heap.push { cls:=.type "dict",data:=.dict #[] } } (.ref t) "dict"):=⟨ot,h1,h2.1⟩;refine ⟨hnew.typeIs,F.args_dict_init_2 _ _,?_⟩;unfold Builtin.«dict.__init__»;refine wpAny_bind ?_;unfold Builtin.Dict.selfAndRest;refine wpAny_bind (wpAny_notOrdered_dict hnew.typeIs ?_);show wpAny _ _ (pure (s.heap.objs.size,[Value.ref t])) _ _ _;refine wpAny_pure ?_;show wpAny _ _ (Builtin.Dict.updateFrom "dict.__init__" s.heap.objs.size (.ref t) [] .none) _ _ _;unfold Builtin.Dict.updateFrom;refine wpAny_bind (wpAny_typeOf hto ?_);rw [if_neg Dd];refine wpAny_bind ?_;unfold Builtin.Dict.merge;refine wpAny_bind ?_;unfold Builtin.Dict.readDirectly;refine wpAny_bind (wpAny_isInstance hto isSubtype_dict_dict ?_);simp only [Bool.not_true,Bool.false_eq_true,if_false];refine wpAny_bind (wpAny_specialOf hto F.slot_dict_iter.lookup (wpAny_pure ?_));simp only [beq_self_eq_true,if_true];refine wpAny_bind (wpAny_pure ?_);have hkeys:kvs.map (·.1)=ks.map (·.1):=by
  clear nd hz q ht ht1 h4 h5 zt
  induction rel with
  | nil=>rfl
  | cons r _ ih=>rw [bL,bL,ih,r.1]
 have lk:ks.length=kvs.length:=by
  have:=congrArg List.length hkeys;rw [aA,aA] at this;exact this.symm
 have ndk:(ks.map λx=>(tupleKind (dE X.prog X.w)).hash x.1).Nodup:=by
  have e1:(kvs.map λp=>(tupleKind (dE X.prog X.w)).hash p.1)=ks.map λx=>(tupleKind (dE X.prog X.w)).hash x.1:=by
   have:=congrArg (List.map (tupleKind (dE X.prog X.w)).hash) hkeys;rw [List.map_map,List.map_map] at this;exact this
  rw [<-e1];exact nd X.prog X.w
 refine LB (knd:=tupleKind (dE X.prog X.w)) (Ne.symm htD) hdt (bB _ rfl) ⟨rfl,rfl,rfl⟩ rfl h1 h3 h4 (λx hx=>?_) ndk (by rw [lk];exact zt) λh' q' ep' g1 g2 g3 hs=>?_
 ·obtain ⟨o',its,n,e1,e2,_⟩:=KT.isAll I1.hok rel x hx;exact ⟨o',e1,e2⟩
 ·have I2:=tG (t':=s.toks) (ob:=.dT kvs) I1 (by rw [bK];exact True.intro) hs ⟨q',g1⟩ ⟨zt,hdD,ks,(show KT (upd H s.heap.objs.size (.dT [])) kvs ks from rel).keeps λc ys ec=>(by rw [dB (oC ec bK (λz=>nomatch z))];exact ec),q',eso,ep',g1,g2,g3,h4,h5⟩;rw [SB] at I2;show wpAny _ _ (Builtin.Dict.addKeywords s.heap.objs.size [] >>= _) _ _ _;exact wpAny_bind (wpAny_pure (wpAny_pure ⟨rfl,.ref _,_,I2,rfl,q _ hD⟩))
theorem LJ(P:Program)(w:World)(c:List Int):(tupleKind (dE P w)).hash (kT c)=reduceHash (Builtin.Tuple.tupleHashOf (c.map hashInt)):=by
 show reduceHash (Builtin.Tuple.tupleHashOf ((c.map Sum.inl).map (aBZ w)))=_;rw [List.map_map];rfl
theorem DX{kvs:List (List eO × V)}{cs:List (List Int)}(h:kvs.map (·.1)=cs.map kT)(nd:(cs.map λc=>reduceHash (Builtin.Tuple.tupleHashOf (c.map hashInt))).Nodup):GZ kvs:=λP w=>by
 have e:(kvs.map λp=>(tupleKind (dE P w)).hash p.1)=cs.map λc=>reduceHash (Builtin.Tuple.tupleHashOf (c.map hashInt)):=by
  have:=congrArg (List.map (tupleKind (dE P w)).hash) h;rw [List.map_map,List.map_map] at this;refine this.trans (gD λc _=>LJ P w c)
 rw [e];exact nd
end
end L2
namespace Kw
open PySem L2 Mf
def vR(F:Nat)(sh:Nat->Rat)(mx pr:Rat)(cs:Nat->Rat)(g:List Nat->Int)(i:Nat):Nat->List Nat->Rat
 | 0,c=>if g c=(i:Int) then 0 else pr
 | n+1,c=>if g c<0 then mx*cs c.sum+cD F (λf=>sh f*vR F sh mx pr cs g i n (bP c f)) else if g c=(i:Int) then 0 else pr
structure GOk(F W M:Nat)(g:List Nat->Int):Prop where
 lo:∀c,c.length=F->c.sum<=M->-1<=g c/\g c<(W:Int)
 last:∀c,c.length=F->c.sum=M->0<=g c
theorem YS{W v:Nat}(hv:v<W)(q ps:Nat->Rat):cD W (λi=>q i*(if (v:Int)=(i:Int) then 0 else ps i))=cD W (λw=>ps w*q w)-ps v*q v:=by
 rw [wM (λw=>ps w*q w) hv];refine cH λi _=>?_;by_cases e:i=v
 ·subst e;rw [if_pos rfl,if_pos rfl];grind
 ·rw [if_neg e,if_neg (λz=>e Oo)];grind
section
variable{F W M:Nat}{q:Nat->List Nat->Rat}{sh:Nat->Nat->Rat}{mix ps cs:Nat->Rat}{g:List Nat->Int}
def MF(F W:Nat)(q:Nat->List Nat->Rat)(sh:Nat->Nat->Rat)(mix ps cs:Nat->Rat)(g:List Nat->Int)(n:Nat)(c:List Nat):Rat:=cD W λi=>q i c*vR F (sh i) (mix i) (ps i) cs g i n c
theorem FI{n:Nat}{c:List Nat}{v:Nat}(hv:v<W)(e:g c=(v:Int)):MF F W q sh mix ps cs g n c=cD W (λw=>ps w*q w c)-ps v*q v c:=by
 rw [<-YS hv (λi=>q i c) ps];unfold MF;refine cH λi _=>?_;cases n with
 | zero=>unfold vR;rw [e]
 | succ n=>unfold vR;rw [if_neg Oo,e]
theorem WL(hq:∀i,i<W->∀c f,c.length=F->f<F->q i (bP c f)=q i c*sh i f){n:Nat}{c:List Nat}(hc:c.length=F)(e:g c<0):MF F W q sh mix ps cs g (n+1) c=cs c.sum*cD W (λv=>mix v*q v c)+cD F (λf=>MF F W q sh mix ps cs g n (bP c f)):=by
 have e1:MF F W q sh mix ps cs g (n+1) c=cD W λi=>cs c.sum*(mix i*q i c)+cD F (λf=>q i (bP c f)*vR F (sh i) (mix i) (ps i) cs g i n (bP c f)):=by
  unfold MF;refine cH λi hi=>?_;rw [vR,if_pos e];have:cD F (λf=>q i (bP c f)*vR F (sh i) (mix i) (ps i) cs g i n (bP c f))=q i c*cD F (λf=>sh i f*vR F (sh i) (mix i) (ps i) cs g i n (bP c f)):=by
   rw [<-iF];refine cH λf hf=>?_;rw [hq i hi c f hc hf];grind
  rw [this];grind
 rw [e1,wN,iF];have:=qV (List.range W) F λi f=>q i (bP c f)*vR F (sh i) (mix i) (ps i) cs g i n (bP c f);unfold MF;exact congrArg _ this
theorem WM(hq:∀i,i<W->∀c f,c.length=F->f<F->q i (bP c f)=q i c*sh i f)(G:GOk F W M g):∀(n:Nat) (c:List Nat),c.length=F->c.sum+n=M->nG W F q mix ps cs n c<=MF F W q sh mix ps cs g n c
 | 0,c,hc,hs=>by
  have h1:=G.lo c hc Oo;have h2:=G.last c hc Oo;obtain ⟨v,hv⟩:∃v:Nat,g c=(v:Int):=⟨(g c).toNat,Oo⟩;rw [FI Oo hv];exact CF W F q mix ps cs 0 c Oo
 | n+1,c,hc,hs=>by
  have h1:=G.lo c hc Oo;by_cases e:g c<0
  ·rw [WL hq hc e];have h2:=RV W F q mix ps cs n c;have h3:cD F (λj=>nG W F q mix ps cs n (bP c j))<=cD F (λf=>MF F W q sh mix ps cs g n (bP c f)):=tV λf hf=>WM hq G n _ (by rw [lD];exact hc) (by rw [gB Oo];omega);grind
  ·obtain ⟨v,hv⟩:∃v:Nat,g c=(v:Int):=⟨(g c).toNat,Oo⟩;rw [FI Oo hv];exact CF W F q mix ps cs (n+1) c Oo
open Classical in
noncomputable def XO (F W M:Nat) (q:Nat->List Nat->Rat) (mix ps cs:Nat->Rat) (c:List Nat):Int :=
 if h:∃v,v<W/\nG W F q mix ps cs (M-c.sum) c=cD W (λw=>ps w*q w c)-ps v*q v c then ((Classical.choose h:Nat):Int) else -1
theorem JH(hW:0<W)(c:List Nat):∃v,v<W/\nG W F q mix ps cs 0 c=cD W (λw=>ps w*q w c)-ps v*q v c:=by
 have h:nG W F q mix ps cs 0 c=kF (kE W λv=>ps v*q v c):=rfl;have hm:=oG (l:=kE W λv=>ps v*q v c) (λz=>by
  have:=congrArg List.length z;unfold kE at this;rw [aA,bD] at this;simp at this;omega)
 rw [<-h] at hm;exact lA.mp hm
theorem aCi(hW:0<W):GOk F W M (XO F W M q mix ps cs) where
 lo:=λc hc hs=>by
  unfold XO;split
  ·rename_i h
   have:=(Classical.choose_spec h).1;omega
  ·omega
 last:=λc hc hs=>by
  unfold XO;split
  ·omega
  ·rename_i h
   exfalso;refine h ?_;rw [hs,Nat.sub_self];exact JH hW c
theorem WN(hq:∀i,i<W->∀c f,c.length=F->f<F->q i (bP c f)=q i c*sh i f)(hW:0<W):∀(n:Nat) (c:List Nat),c.length=F->c.sum+n=M->MF F W q sh mix ps cs (XO F W M q mix ps cs) n c=nG W F q mix ps cs n c
 | n,c,hc,hs=>by
  have en:M-c.sum=n:=Oo;by_cases h:∃v,v<W/\nG W F q mix ps cs (M-c.sum) c=cD W (λw=>ps w*q w c)-ps v*q v c
  ·have e:XO F W M q mix ps cs c=((Classical.choose h:Nat):Int):=by unfold XO;rw [dif_pos h]
   have hs':=Classical.choose_spec h;rw [FI hs'.1 e,<-hs'.2,en]
  ·have e:XO F W M q mix ps cs c=-1:=by unfold XO;rw [dif_neg h]
   match n with
   | 0 =>
    exfalso;refine h ?_;rw [en];exact JH hW c
   | n+1 =>
    rw [WL hq hc (by rw [e];decide)];have hm:nG W F q mix ps cs (n+1) c∈kE W (λv=>ps v*q v c)++[cs c.sum*cD W (λv=>mix v*q v c)+cD F (λj=>nG W F q mix ps cs n (bP c j))]:=oG (by simp);rcases cE.mp hm with hm | hm
    ·exfalso;refine h ?_;rw [en];exact lA.mp hm
    ·rw [aY.mp hm];congr 1;exact cH λf hf=>WN hq hW n _ (by rw [lD];exact hc) (by rw [gB Oo];omega)
end
abbrev Tb:=List (List Int × Int)
def jV(M W k:Nat):List Int:=(List.range (W+1-(if k=M then 1 else 0))).map λ(j:Nat)=>(-1+(if k=M then 1 else 0)+(j:Int):Int)
theorem rX{M W k:Nat}{x:Int}:x∈jV M W k ↔ -1<=x/\x<(W:Int)/\(k=M->0<=x):=by
 unfold jV;rw [aQ];constructor
 ·rintro ⟨j,hj,rfl⟩;have:=bU.mp hj;split at this <;> split <;> omega
 ·rintro ⟨h1,h2,h3⟩;by_cases e:k=M
  ·have:=h3 e;exact ⟨x.toNat,bU.mpr (by rw [if_pos e];omega),by rw [if_pos e];omega⟩
  ·exact ⟨(x+1).toNat,bU.mpr (by rw [if_neg e];omega),by rw [if_neg e];omega⟩
def lB(p:Nat × Nat):List Nat:=[p.1-p.2,p.2]
def yX(M W:Nat)(ts:List Tb)(p:Nat × Nat):List Tb:=ts.flatMap λt=>(jV M W p.1).map λx=>t++[(ci (lB p),x)]
def iT(M W:Nat)(ps:List (Nat × Nat)):List Tb:=ps.foldl (yX M W) [[]]
def AlT(M W:Nat)(p:Nat × Nat)(e:List Int × Int):Prop:=e.1=ci (lB p)/\e.2∈jV M W p.1
theorem rD{M W:Nat}:∀{ps:List (Nat × Nat)}{ts:List Tb}{t:Tb},t∈ps.foldl (yX M W) ts ↔ ∃t0∈ts,∃t',Paired (AlT M W) ps t'/\t=t0++t'
 | [],ts,t=>by
  constructor
  ·intro h;exact ⟨t,h,[],.nil,by simp⟩
  ·rintro ⟨t0,h0,t',ht,rfl⟩;cases ht;simpa using h0
 | p::ps,ts,t=>by
  rw [List.foldl_cons,rD];constructor
  ·rintro ⟨t1,h1,t',ht,rfl⟩;obtain ⟨t0,h0,hm⟩:=List.mem_flatMap.mp h1;obtain ⟨x,hx,rfl⟩:=aQ.mp hm;exact ⟨t0,h0,(ci (lB p),x)::t',.cons ⟨rfl,hx⟩ ht,by simp⟩
  ·rintro ⟨t0,h0,t',ht,rfl⟩;cases ht with
   | @cons _ e _ t' r ht =>
    obtain ⟨k,x⟩:=e;obtain ⟨rfl,hx⟩:=r;exact ⟨t0++[(ci (lB p),x)],List.mem_flatMap.mpr ⟨t0,h0,aQ.mpr ⟨x,hx,rfl⟩⟩,t',ht,by simp⟩
def gT(t:Tb)(c:List Nat):Int:=((t.find? λe=>decide (e.1=ci c)).map (·.2)).getD 0
def GK(t:Tb):List (List eO × V):=t.map λe=>(kT e.1,V.int e.2)
theorem PY{t:Tb}{c:List Nat}{e:List Int × Int}(h:e∈t)(he:e.1=ci c):∃e' ∈ t,e'.1=ci c/\gT t c=e'.2/\fG (GK t) (kT (ci c))=some (.int (gT t c)):=by
 have hs:(t.find? λe=>decide (e.1=ci c)).isSome=true:=List.find?_isSome.mpr ⟨e,h,by simpa using he⟩;obtain ⟨e',h'⟩:=Option.isSome_iff_exists.mp hs;have e1:e'.1=ci c:=by simpa using List.find?_some h'
 have e2:gT t c=e'.2:=by unfold gT;rw [h'];rfl
 refine ⟨e',List.mem_of_find?_eq_some h',e1,e2,?_⟩;unfold fG GK;rw [List.find?_map,show ((λkv:List eO × V=>decide (kv.1=kT (ci c))) ∘ λe:List Int × Int=>(kT e.1,V.int e.2))=λe:List Int × Int=>decide (e.1=ci c) from funext λx=>by
  show decide (kT x.1=kT (ci c))=decide (x.1=ci c);by_cases q:x.1=ci c
  ·rw [q,cP rfl,cP rfl]
  ·rw [cO q,cO λz=>q (kM z)],h',e2]
 rfl
def rJ(M:Nat):List (Nat × Nat):=(List.range (M+1)).flatMap λk=>(List.range (k+1)).map λs=>(k,s)
theorem sZ{M:Nat}{p:Nat × Nat}:p∈rJ M↔p.2<=p.1/\p.1<=M:=by
 unfold rJ;rw [List.mem_flatMap];constructor
 ·rintro ⟨k,hk,h⟩;obtain ⟨s,hs,rfl⟩:=aQ.mp h;have:=bU.mp hk;have:=bU.mp hs;exact ⟨by show s<=k;omega,by show k<=M;omega⟩
 ·rintro ⟨h1,h2⟩;exact ⟨p.1,bU.mpr Oo,aQ.mpr ⟨p.2,bU.mpr Oo,rfl⟩⟩
theorem xI{c:List Nat}(h:c.length=2):lB (c.sum,c.getD 1 0)=c:=by
 match c,h with
 | [a,b],_ =>
  show [a+(b+0)-b,b]=[a,b];rw [show a+(b+0)-b=a by omega]
theorem XQ{M W:Nat}:∀{ps:List (Nat × Nat)}{t:Tb},Paired (AlT M W) ps t->(∀p∈ps,∃e∈t,AlT M W p e)/\(∀e∈t,∃p∈ps,AlT M W p e)
 | _,_,.nil=>⟨(λp h=>by cases h),(λe h=>by cases h)⟩
 | _,_,.cons r t=>by
  obtain ⟨h1,h2⟩:=XQ t;constructor
  ·intro p hp;rcases bF.mp hp with rfl | hp
   ·exact ⟨_,aW ..,r⟩
   ·obtain ⟨e,he,a⟩:=h1 p hp;exact ⟨e,aS _ he,a⟩
  ·intro e he;rcases bF.mp he with rfl | he
   ·exact ⟨_,aW ..,r⟩
   ·obtain ⟨p,hp,a⟩:=h2 e he;exact ⟨p,aS _ hp,a⟩
theorem xJ{p:Nat × Nat}(h:p.2<=p.1):(lB p).sum=p.1:=by
 show p.1-p.2+(p.2+0)=p.1;omega
theorem NE{M W:Nat}{t:Tb}(h:t∈iT M W (rJ M)):GOk 2 W M (gT t)/\∀c:List Nat,c.length=2->c.sum<=M->fG (GK t) (kT (ci c))=some (.int (gT t c)):=by
 obtain ⟨t0,h0,t',al,rfl⟩:=rD.mp h;cases aY.mp h0;rw [List.nil_append];obtain ⟨h1,h2⟩:=XQ al;have key:∀c:List Nat,c.length=2->c.sum<=M->gT t' c∈jV M W c.sum/\fG (GK t') (kT (ci c))=some (.int (gT t' c)):=λc hc hs=>by
  have hg:c.getD 1 0<=c.sum:=by
   match c,hc with
   | [a,b],_=>show b<=a+(b+0);omega
  obtain ⟨e,he,a⟩:=h1 (c.sum,c.getD 1 0) (sZ.mpr ⟨hg,hs⟩);obtain ⟨e',he',e1,e2,e3⟩:=PY (c:=c) he (by rw [a.1,xI hc]);obtain ⟨p,hp,b⟩:=h2 e' he';have ek:lB p=c:=kO (by rw [<-b.1,e1]);have es:p.1=c.sum:=by rw [<-ek,xJ (sZ.mp hp).1]
  refine ⟨?_,e3⟩;rw [e2,<-es];exact b.2
 refine ⟨⟨λc hc hs=>?_,λc hc hs=>?_⟩,λc hc hs=>(key c hc hs).2⟩
 ·have:=rX.mp (key c hc hs).1;omega
 ·have:=rX.mp (key c hc Oo).1;exact this.2.2 hs
theorem YI{M W:Nat}{g:List Nat->Int}(G:GOk 2 W M g):∃t∈iT M W (rJ M),∀c:List Nat,c.length=2->c.sum<=M->gT t c=g c:=by
 have al:∀ps:List (Nat × Nat),(∀p∈ps,p∈rJ M)->Paired (AlT M W) ps (ps.map λp=>(ci (lB p),g (lB p))):=λps=>by
  induction ps with
  | nil=>intro _;exact .nil
  | cons p ps ih =>
   intro h;have hp:=sZ.mp (h p (aW ..));refine .cons ⟨rfl,rX.mpr ?_⟩ (ih λp hp=>h p (aS _ hp));have h1:=G.lo (lB p) rfl (by rw [xJ hp.1];exact hp.2);exact ⟨h1.1,h1.2,λe=>G.last (lB p) rfl (by rw [xJ hp.1];exact e)⟩
 refine ⟨_,rD.mpr ⟨[],aY.mpr rfl,_,al _ λp hp=>hp,(List.nil_append _).symm⟩,λc hc hs=>?_⟩;have hg:c.getD 1 0<=c.sum:=by
  match c,hc with
  | [a,b],_=>show b<=a+(b+0);omega
 obtain ⟨e',he',e1,e2,_⟩:=PY (c:=c) (e:=(ci (lB (c.sum,c.getD 1 0)),g (lB (c.sum,c.getD 1 0)))) (aQ.mpr ⟨(c.sum,c.getD 1 0),sZ.mpr ⟨hg,hs⟩,rfl⟩:_∈(rJ M).map λp=>(ci (lB p),g (lB p))) (by show ci _=ci c;rw [xI hc]);obtain ⟨p,hp,rfl⟩:=aQ.mp he';have ek:lB p=c:=kO e1;rw [e2];show g (lB p)=g c;rw [ek]
abbrev ZT:Stmt:=(top 67)
theorem BT:bS ["_law_ways","_law_most","_law_found","_law_k","_law_seen","_law_some_here","_law_table","_law_word","_law_wider"] ["_law_ways","_law_most"] (aO ZT):=⟨rfl,rfl,rfl,Kk,rfl,Kk,Kk⟩
def MG(H:Hp)(t:Tb)(y:V):Prop:=∃D,y=.ref D/\H D=some (.dT (GK t))
theorem MG.but{H H':Hp}{L:Addr}{xs:List V}{t:Tb}{y:V}(b:aR L H H')(hL:H L=some (.lst xs))(h:MG H t y):MG H' t y:=by
 obtain ⟨D,rfl,hD⟩:=h;exact ⟨D,rfl,b.at (λz=>by rw [z,hL] at hD;cases hD) hD⟩
theorem MG.same{H H':Hp}{t:Tb}{y:V}(s:aU H H')(h:MG H t y):MG H' t y:=by
 obtain ⟨D,rfl,hD⟩:=h;exact ⟨D,rfl,s _ _ hD⟩
theorem CJ{R:Tb->V->Prop}:∀{l:List Tb}{zs:List V}{x:Tb}{v:V},Paired R l zs->R x v->Paired R (l++[x]) (zs++[v])
 | _,_,_,_,.nil,h=>.cons h .nil
 | _,_,_,_,.cons r t,h=>.cons r (CJ t h)
def GC(k:Nat):List (Nat × Nat):=(List.range k).flatMap λk=>(List.range (k+1)).map λs=>(k,s)
theorem KS(k:Nat):GC (k+1)=GC k++(List.range (k+1)).map λs=>(k,s):=by
 have h:List.range (k+1)=List.range k++[k]:=List.range_succ;show (List.range (k+1)).flatMap (λk=>(List.range (k+1)).map λs=>(k,s))=_
 conv=>lhs;rw [h]
 rw [List.flatMap_append];unfold GC;congr 1;exact List.append_nil _
def oZ(k s:Nat):List (Nat × Nat):=GC k++(List.range s).map λs=>(k,s)
theorem KO(k:Nat):oZ k 0=GC k:=by unfold oZ;rw [List.range_zero,List.map_nil,List.append_nil]
theorem KP(k s:Nat):oZ k (s+1)=oZ k s++[(k,s)]:=by unfold oZ;rw [List.range_succ,bE,List.append_assoc];rfl
theorem KQ(k:Nat):oZ k (k+1)=GC (k+1):=by unfold oZ;rw [KS]
theorem FK(M W:Nat)(ps:List (Nat × Nat))(p:Nat × Nat):iT M W (ps++[p])=yX M W (iT M W ps) p:=by unfold iT;rw [List.foldl_append];rfl
theorem FE(M W k:Nat):(jV M W k).length<=W+1:=by unfold jV;rw [aA,bD];omega
theorem JT{M W k j:Nat}(hj:j<W+1-(if k=M then 1 else 0)):(jV M W k)[j]?=some (-1+(if k=M then 1 else 0)+(j:Int)):=by
 unfold jV;rw [aN,cK hj];rfl
theorem CP{M W:Nat}{p:Nat × Nat}:∀ts:List Tb,(yX M W ts p).length<=ts.length*(W+1)
 | []=>cG _
 | t::ts=>by
  have:=CP (M:=M) (W:=W) (p:=p) ts;have h2:=FE M W p.1;unfold yX at this ⊢;rw [List.flatMap_cons,aP,aA,bQ,Nat.add_mul,Nat.one_mul];omega
theorem CK{M W:Nat}:∀(ps:List (Nat × Nat)) (ts:List Tb),(ps.foldl (yX M W) ts).length<=ts.length*(W+1)^ps.length
 | [],ts=>by simp
 | p::ps,ts=>by
  rw [List.foldl_cons,bQ,Nat.pow_succ];refine aK (CK ps _) ?_;have:=bT ((W+1)^ps.length) (CP (M:=M) (W:=W) (p:=p) ts);rw [Nat.mul_comm ((W+1)^ps.length) (W+1),<-Nat.mul_assoc];exact this
theorem sT:(∀k,k<3->∀s,s<k+1->(oZ k s).length<6)/\(∀k,k<2->∀s,s<k+1->(oZ k s).length<3):=Dd
theorem KR:∀k,k<3->∀s,s<k+1->((((oZ k s).map λp=>ci (lB p)).map λc=>reduceHash (Builtin.Tuple.tupleHashOf (c.map hashInt))).Nodup/\ci (lB (k,s)) ∉ (oZ k s).map λp=>ci (lB p)):=Kk
def WE(W M:Nat):Prop:=(W=2/\M<=2)\/(W=3/\M<=1)
theorem FJ{W M k s:Nat}(h:WE W M)(hk:k<=M)(hs:s<=k):(iT M W (oZ k s)).length*(W+1)<=729:=by
 have h1:=CK (M:=M) (W:=W) (oZ k s) [[]];have h2:=bT (W+1) h1;rw [List.length_singleton,Nat.one_mul,<-Nat.pow_succ] at h2;refine aK h2 ?_;rcases h with ⟨rfl,hM⟩ | ⟨rfl,hM⟩
 ·have:=sT.1 k Oo s Oo;exact aK (aJ Dd (show (oZ k s).length+1<=6 by omega)) Dd
 ·have:=sT.2 k Oo s Oo;exact aK (aJ Dd (show (oZ k s).length+1<=3 by omega)) Dd
theorem JK{M W:Nat}:∀{ps:List (Nat × Nat)}{t:Tb},Paired (AlT M W) ps t->t.map (·.1)=ps.map λp=>ci (lB p)
 | _,_,.nil=>rfl
 | _,_,.cons r t=>by rw [bL,bL,JK t,r.1]
theorem NF{M W:Nat}{ps:List (Nat × Nat)}{t:Tb}(h:t∈iT M W ps):t.map (·.1)=ps.map λp=>ci (lB p):=by
 obtain ⟨t0,h0,t',al,rfl⟩:=rD.mp h;cases aY.mp h0;exact JK al
theorem DU(t:Tb):(GK t).map (·.1)=(t.map (·.1)).map kT:=by unfold GK;rw [List.map_map,List.map_map];rfl
theorem PJ{t:Tb}{c:List Int}{x:Int}(h:c ∉ t.map (·.1)):iY (GK t) (kT c) (.int x)=GK (t++[(c,x)]):=by
 rw [DF]
 ·unfold GK;rw [bE];rfl
 ·cases e:fG (GK t) (kT c) with
  | none=>rfl
  | some v =>
   exfalso;have:=HQ e;rw [DU] at this;obtain ⟨y,hy,ey⟩:=aQ.mp this;exact h (by rw [<-kM ey];exact hy)
@[irreducible] def mB:Sp:=λvs H Q _=>∃W M:Nat,vs=[.int (W:Int),.int (M:Int)]/\WE W M/\∀L ys H',aU H H'->H' L=some (.lst ys)->Paired (MG H') (iT M W (rJ M)) ys->Q (.ref L) H'
theorem AM{H:Hp}{Q:VK}{E:XK}{W M:Nat}(h1:WE W M)(k:∀L ys H',aU H H'->H' L=some (.lst ys)->Paired (MG H') (iT M W (rJ M)) ys->Q (.ref L) H'):mB [.int (W:Int),.int (M:Int)] H Q E:=by
 unfold mB;exact ⟨W,M,rfl,h1,k⟩
section
theorem aDA(F:iV K "_law_tables" "_law_tables" ZT f fd)(T:kD K mg c):dM P w K mg base cS 1 f fd ["_law_ways","_law_most"] mB:=by
 refine F.oky BT λvs H Q E h=>?_;unfold mB at h;obtain ⟨W,M,rfl,sm,q⟩:=h;refine ⟨rfl,λcdv A outer s hr=>?_⟩;refine ⟨_,(aH (bJ (i:=2) BT.nd rfl (Or.inl rfl) (gM (aG lU aC)))
  (aH (fD PassesOwn.never rfl (dG rfl T.b_range (aG (bV dY (aD 1) aM) aC)) (cT (i:=3) BT.nd rfl (Or.inl rfl)) (aX (fD PassesOwn.never rfl (dG rfl T.b_range (aG (bV dY (aD 3) aM) aC)) (cT (i:=4) BT.nd rfl (Or.inl rfl)) (aH (bJ (i:=5) BT.nd rfl (Or.inl rfl) (gM aC))
  (aH (fD PassesOwn.never rfl (eI (aD 2)) (cT (i:=6) BT.nd rfl (Or.inl rfl)) (aX (fD PassesOwn.never rfl (yR rfl T.b_range (aG (bV dY (HK AE aM) (kS uW (by rfl) T.b_int Kk (aG (pS sV (aD 3) (aD 1) (nomark _)) aC))) (aG (aD 0) aC))) (cT (i:=7) BT.nd rfl (Or.inl rfl)) (aH (bJ (i:=8) BT.nd rfl (Or.inl rfl) (kS (QO rfl) (by rfl) T.b_dict Kk (aG (aD 6) aC)))
  (aH (iQ hr.u1 (aD 8) (dS (aG (bV uJ (aD 3) (aD 4)) (aG (aD 4) aC))) (aD 7))
  (aX (iP (lH PySem.F.plainAttrs_list PySem.F.slot_list_append PySem.F.type_list_append mZ (aD 5) (aG (aD 8) aC)))))))))
  (aX (bJ (i:=2) BT.nd rfl (Or.inl rfl) (aD 5))))))))
  (aX (cB (aD 2))))),?_⟩
 intro D0 hD0;have s0:=aU.upd (o:=.dT []) hD0;have e0:(upd H D0 (.dT [])) D0=some (.dT []):=bK;generalize upd H D0 (.dT [])=H0 at s0 e0;refine AZ (by show 1<=64;decide) λL1 H1 hL1 e1 s1=>?_;have hM:M<=2:=by rcases sm with h | h <;> omega
 have hW:W<=3:=by rcases sm with h | h <;> omega
 refine ⟨_,rfl,_,_,rfl,rfl,_,rfl,Oo,Oo,?_⟩;rw [show ((M:Int)+1).toNat=M+1 by omega];refine gI (λk σ H'=>∃(o3 o4 o5 o6 o7 o8:Option V) (L:Addr) (ys:List V),σ=[some (.int (W:Int)),some (.int (M:Int)),some (.ref L),o3,o4,o5,o6,o7,o8]/\aU H H'/\H' L=some (.lst ys)/\Paired (MG H') (iT M W (GC k)) ys) ⟨_,_,_,_,_,_,L1,_,rfl,s0.trans s1,e1,.cons ⟨D0,rfl,s1 _ _ e0⟩ .nil⟩ ?_ ?_
 ·rintro k σ Ha hk ⟨o3,o4,o5,o6,o7,o8,L,ys,rfl,sa,ea,pa⟩;refine ⟨_,rfl,_,_,rfl,rfl,_,rfl,Oo,Oo,?_⟩;rw [show ((0:Int)+(k:Nat)+1).toNat=k+1 by omega];refine gI (λs σ H'=>∃(o4 o5 o6 o7 o8:Option V) (L:Addr) (ys:List V),σ=[some (.int (W:Int)),some (.int (M:Int)),some (.ref L),some (.int (0+(k:Nat))),o4,o5,o6,o7,o8]/\aU H H'/\H' L=some (.lst ys)/\Paired (MG H') (iT M W (oZ k s)) ys) ⟨_,_,_,_,_,L,ys,rfl,sa,ea,by rw [KO];exact pa⟩ ?_ ?_
  ·rintro s' σ Hb hs ⟨o4,o5,o6,o7,o8,L,ys,rfl,sb,eb,pb⟩;clear ea pa sa;refine AZ (by show 0<=64;decide) λL2 Hc hL2 ec sc'=>?_;have nL:L≠L2:=λz=>by rw [z,hL2] at eb;cases eb
   have bnd:=FJ (k:=k) (s:=s') sm Oo Oo;have lys:ys.length=(iT M W (oZ k s')).length:=pb.length.symm;refine ⟨_,rfl,L,rfl,⟨_,fI.of (sc' _ _ eb)⟩,?_⟩;refine kA (xs:=ys) (λi σ H'=>∃(o6 o7 o8:Option V) (zs:List V),σ=[some (.int (W:Int)),some (.int (M:Int)),some (.ref L),some (.int (0+(k:Nat))),some (.int (0+(s':Nat))),some (.ref L2),o6,o7,o8]/\aR L2 Hc H'/\H' L2=some (.lst zs)/\Paired (MG H') (((iT M W (oZ k s')).take i).flatMap λt=>(jV M W k).map λx=>t++[(ci (lB (k,s')),x)]) zs/\zs.length<=i*(W+1)) ⟨_,_,_,[],rfl,(aU.refl _).but,ec,.nil,cG _⟩ (λi σ H' _ ⟨_,_,_,_,_,b',_⟩=>fI.of (b'.at nL (sc' _ _ eb))) ?_ ?_
   ·rintro i y σ Hd hy ⟨o6,o7,o8,zs,rfl,bd,ed,pd,ld⟩;have hi:i<ys.length:=(aI.mp hy).1;obtain ⟨t,ht,rt⟩:=rB pb hy;have htm:=aF ht;have hkeys:=NF htm;obtain ⟨hnd,hnew⟩:=KR k Oo s' Oo;have hmul:(i+1)*(W+1)<=729:=aK (bT _ Oo) bnd;rw [Nat.add_mul,Nat.one_mul] at hmul;refine ⟨_,rfl,?_⟩;refine ⟨_,rfl,_,rfl,⟨rfl,.inr ⟨_,rfl,?_⟩⟩⟩;refine ⟨_,_,rfl,rfl,?_⟩;have hdec:(if decide (V.int (0+(k:Nat))=V.int (M:Int))=true then (1:Int) else 0)=if k=M then 1 else 0:=by
     by_cases e:k=M
     ·rw [if_pos e,if_pos (cP (by rw [e,Int.zero_add]))]
     ·rw [if_neg e,if_neg];intro z;have:=of_decide_eq_true z;injection this with this;exact e Oo
    rw [hdec];obtain ⟨u,hu,u1⟩:∃u:Nat,(if k=M then (1:Int) else 0)=(u:Int)/\u<=1:=by
     split
     ·exact ⟨1,rfl,Dd⟩
     ·exact ⟨0,rfl,Dd⟩
    have hu':(if k=M then (1:Nat) else 0)=u:=by
     split at hu <;> rename_i e
     ·rw [if_pos e];omega
     ·rw [if_neg e];omega
    refine ⟨_,rfl,?_⟩;refine ⟨_,_,rfl,⟨Oo,Oo,Oo,Oo⟩,?_⟩;rw [hu];have hwl:(jV M W k).length=W+1-u:=by unfold jV;rw [aA,bD,hu']
    rw [show ((W:Int)-(-1+(u:Int))).toNat=W+1-u by omega];refine gI (λj σ H'=>∃(o7 o8:Option V) (zs:List V),σ=[some (.int (W:Int)),some (.int (M:Int)),some (.ref L),some (.int (0+(k:Nat))),some (.int (0+(s':Nat))),some (.ref L2),some y,o7,o8]/\aR L2 Hc H'/\H' L2=some (.lst zs)/\Paired (MG H') ((((iT M W (oZ k s')).take i).flatMap λt=>(jV M W k).map λx=>t++[(ci (lB (k,s')),x)])++((jV M W k).take j).map λx=>t++[(ci (lB (k,s')),x)]) zs/\zs.length<=i*(W+1)+j) ⟨_,_,zs,rfl,bd,ed,by rw [List.take_zero,List.map_nil,List.append_nil];exact pd,ld⟩ ?_ ?_
    ·rintro j σ He hj ⟨o7',o8',zs',rfl,be,ee,pe,le⟩;obtain ⟨D,rfl,hD⟩:=(rt.same sc').but be ec;refine ⟨_,rfl,?_⟩;refine rdcd hD (DX (DU t) (by rw [hkeys];exact hnd)) (by rw [show (GK t).length=(t.map (·.1)).length by unfold GK;rw [aA,aA],hkeys,aA];have:=sT.1 k Oo s' Oo;omega) λD6 H6 hD6 e6 s6=>?_;refine ⟨_,rfl,_,rfl,_,rfl,_,rfl,_,_,rfl,rfl,_,rfl,?_⟩;refine rK (by show 2<=64;decide) λq7 H7 hq7 e7 s7=>?_;have e7':H7 q7=some (.tup ((ci (lB (k,s'))).map V.int)):=by
      rw [e7];show some (HO.tup [V.int ((0+(k:Int))-(0+(s':Int))),V.int (0+(s':Int))])=some (HO.tup [V.int ((k-s':Nat):Int),V.int ((s':Nat):Int)]);rw [show (0+(k:Int))-(0+(s':Int))=((k-s':Nat):Int) by omega,Int.zero_add]
     have s67:=s6.trans s7;have nD:D6≠L2:=λz=>by rw [z,ee] at hD6;cases hD6
     refine RK (s7 _ _ e6) e7' (by rw [show (GK t).length=(t.map (·.1)).length by unfold GK;rw [aA,aA],hkeys,aA];have:=sT.1 k Oo s' Oo;omega) λH8 e8 b8=>?_;rw [PJ (by rw [hkeys];exact hnew)] at e8;have h8L:H8 L2=some (.lst zs'):=b8.at (Ne.symm nD) (s67 _ _ ee);refine ⟨_,rfl,FF h8L,_,rfl,?_⟩;refine yL h8L Oo λH9 e9 b9=>?_;have keep:∀(x:Addr) (ob:HO),x≠L2->He x=some ob->H9 x=some ob:=λx ob n hx=>b9.at n (b8.at (λz=>by rw [z,hD6] at hx;cases hx) (s67 _ _ hx));refine ⟨_,_,zs' ++ [.ref D6],rfl,λx ob hx=>?_,e9,?_,by rw [aP,List.length_singleton];omega⟩
     ·have n:=gX.ne hx;rw [gX.at n] at hx;exact gX.of n (keep x ob n (be.at n hx))
     ·have hw:=JT (M:=M) (W:=W) (k:=k) (j:=j) (by rw [hu'];exact hj);rw [eP,hw,bE,<-List.append_assoc];refine CJ (Paired.imp' (λt y ⟨D',e1,e2⟩=>⟨D',e1,keep D' _ (λz=>by rw [z,ee] at e2;cases e2) e2⟩) pe) ⟨D6,rfl,?_⟩;rw [hu];exact b9.at nD e8
    ·rintro σ He ⟨o7',o8',zs',rfl,be,ee,pe,le⟩;refine ⟨_,_,_,zs',rfl,be,ee,?_,by rw [Nat.add_mul,Nat.one_mul];omega⟩;rw [<-hwl,cN] at pe;rw [eP,ht,List.flatMap_append];simpa using pe
   ·rintro σ Hd ⟨o6,o7,o8,zs,rfl,bd,ed,pd,ld⟩;refine ⟨_,rfl,?_⟩;refine ⟨_,_,_,_,_,L2,zs,rfl,aU.thru (sb.free hL2) (sb.trans sc') bd,ed,?_⟩;rw [lys,cN] at pd;rw [KP,FK];exact pd
  ·rintro σ Hb ⟨o4,o5,o6,o7,o8,L,ys,rfl,sb,eb,pb⟩;rw [KQ] at pb;exact ⟨_,_,_,_,_,_,L,ys,rfl,sb,eb,pb⟩
 ·rintro σ Hb ⟨o3,o4,o5,o6,o7,o8,L,ys,rfl,sb,eb,pb⟩;refine ⟨_,rfl,?_⟩;exact q L ys Hb sb eb pb
end
theorem HX{W:Int}(hW:0<W):∀ps:List Int,rH ((ps.map λx=>lw x W).map rv)=(ps.sum:Rat)/(W:Rat)
 | []=>by
  have:=kG hW;show (0:Rat)=_;rw [show (([]:List Int).sum:Rat)=0 from rfl];grind
 | x::ps=>by
  have:=kG hW;rw [bL,bL,nM,HX hW ps,DB hW,List.sum_cons,Rat.intCast_add];grind
theorem FA.syc{m:Nat}{fs:List Fr}(h:FA m fs):SyC m fs:=by
 refine ⟨h.len,h.at,?_⟩;obtain ⟨ps,W,h1,h2,h3,h4,h5,h6,rfl⟩:=h.ex;rw [HX h4,h3];have:=kG h4;grind
theorem vJ{fs:List Fr}(h:∀f∈fs,EZ f):∀f∈fs,Fn (dens fs) 1000 f:=λf hf=>(pG h f hf).le Dd
section
variable{H:Hp}{tv av pv:V}{fs:List Str}{ws:List (Str × List Fr)}{bs mix ps cs:List Fr}{F W M Mr:Nat}{es:List dH}{best:List Nat->Nat}
theorem jT.trq(I:jT H tv av pv fs ws bs mix ps cs F W M):RM W ws:=⟨I.T.w,λx hx f hf=>((I.T.sh x hx).at f hf).1,I.T.b⟩
theorem jT.aimq(I:jT H tv av pv fs ws bs mix ps cs F W M)(R:rG F W Mr es)(hM:Mr<=M):HC (dens cs) W Mr es mix cs :=
 ⟨I.mx.len,λf hf=>(I.mx.at f hf).1,⟨qQ I.c,tF I.c (by have:=I.cl;have:=I.m;omega),vJ I.c,λe he hs=>by have:=R.on e he hs;have:=I.cl;omega⟩⟩
theorem jT.np(I:jT H tv av pv fs ws bs mix ps cs F W M):0<dens ps/\dens ps<=1000000000000000:=⟨qQ I.p,tF I.p (by have:=I.pl;have:=I.w;omega)⟩
theorem jT.wg(I:jT H tv av pv fs ws bs mix ps cs F W M):QZ ws bs F W M fC fC (dens ps) (dens cs) 999 27720 mix ps cs:=by
 refine ⟨I.wo,I.T.b,I.bl,λf hf=>(I.b f hf).1,Dd,?_⟩;have h1:lJ M fC fC (dens ps) (dens cs)*27720<2^300*27720:=Nat.mul_lt_mul_of_pos_right I.n.2 Dd;have h2:(2:Nat)^300*27720<=2^300*2^15:=iU _ Dd;rw [<-Nat.pow_add] at h2;exact aV h1 (aK h2 (aJ Dd Dd))
theorem UF{b:Nat}(h:b<=W):SyC (1+W) (AX W b):=by
 refine ⟨by unfold AX;rw [aA,bD],λf hf=>?_,SE W b h⟩;obtain ⟨k,_,rfl⟩:=aQ.mp hf;split
 ·exact ⟨Fn.one fC,Dd⟩
 ·exact ⟨(Fn.zero fC).le Dd,Dd⟩
theorem TD(P:yD F W M best)(bw:∀c∈rise F M,best c<=W)(few:(rise F M).length<=64):rG F W M (rul F W M best) where
 rl:=OA P.f1 P.f4 P.m5 P.on
 sum:=λe he=>by
  obtain ⟨c,hc,rfl⟩:=aQ.mp he;exact (IB P.f1 hc).2
 sy:=λe he=>by
  obtain ⟨c,hc,rfl⟩:=aQ.mp he;exact UF (bw c ((mW P.f1).subset hc))
 few:=by unfold rul;rw [aA];exact aK (mW P.f1).length_le few
 on:=λe he h0=>by
  obtain ⟨c,hc,rfl⟩:=aQ.mp he;refine P.on c (cF λq=>h0 ?_);rw [uH,if_neg q]
theorem aA2{c:List Nat}{b:Nat}{ss:List (List Fr)}(h:MK F W M ss mix ps cs c b):b<=W:=by
 rcases h with ⟨h,_⟩ | ⟨v,hv,h,_⟩ <;> omega
theorem jT.bestp(I:jT H tv av pv fs ws bs mix ps cs F W M)(P:yD F W M best)(hb:∀c∈rise F M,MK F W M (fW ws) mix ps cs c (best c)):eS (xA F W (rul F W M best) (jL (fW ws)) (cL mix) (cL ps) (cL cs))=HE F W M (fW ws) mix ps cs (List.replicate F 0):=by
 have hx:∀w,w<W->∃x,ws[w]?=some x/\x∈ws:=λw hw=>by
  have h:=aB (show w<ws.length by rw [I.T.w];exact hw);exact ⟨_,h,aF h⟩
 have:=OL (OA (W:=W) P.f1 P.f4 P.m5 P.on) (wor F W M (fW ws) mix ps cs) (λw hw=>?_) (λw hw c hc=>?_) (OB P.f1 hb)
 ·rw [<-this]
 ·obtain ⟨x,h1,h2⟩:=hx w hw;rw [qJ h1];exact HI (λf hf=>((I.T.sh x h2).at f hf).1.low) F
 ·obtain ⟨x,h1,h2⟩:=hx w hw;rw [qJ h1];have hl:=(I.T.sh x h2).len;have h:=YB (fs:=x.2) (λf hf=>((I.T.sh x h2).at f hf).1.low) (I.T.sh x h2).syc.one (c:=c) Oo;rw [hl] at h;exact h
end
theorem pQ.fr(f:Fr):pQ 2 (fN f):=pQ.tup λd hd'=>by
 rcases bF.mp hd' with rfl | hd'
 ·exact pQ.int _
 ·rw [aY.mp hd'];exact pQ.int _
abbrev sQ4:Stmt:=(top 68)
theorem ME:bS ["_law_trial_here","_law_aim_here","_law_prices","_law_table","_law_way","_law_found","_law_rows","_law_row","_law_share","_law_paid","_law_counts","_law_word","_law_face"] ["_law_trial_here","_law_aim_here","_law_prices","_law_table","_law_way"] (aO sQ4):=⟨rfl,rfl,rfl,Kk,rfl,Kk,Kk⟩
@[irreducible] def TK:V->List V->Hp->VK->Prop:=aAa
theorem aBW{X:Cx}:RP X "list.pop" TK:=by unfold TK;exact aAC
theorem ppI{H:Hp}{l:Addr}{xs:List V}{y:V}{Q:VK}(h:H l=some (.lst (xs++[y])))(q:∀H',H' l=some (.lst xs)->aR l H H'->Q y H'):TK (.ref l) [] H Q:=by
 unfold TK aAa;refine ⟨l,xs++[y],y,rfl,rfl,h,?_,?_⟩
 ·rw [aP,List.length_singleton,Nat.add_sub_cancel,cI (aL _),Nat.sub_self];rfl
 ·rw [List.dropLast_concat];exact q _ bK aR.self
abbrev Rw:=List Nat × Rat × Rat
abbrev wY(r:Rw):PyData:=.tuple [mL r.1,fN (eS r.2.1),fN (eS r.2.2)]
theorem uC(r:Rw):fM (wY r)=true:=by show (fM (mL r.1)&&(fM (fN (eS r.2.1))&&(fM (fN (eS r.2.2))&&true)))=true;rw [mK];rfl
theorem uB:∀rs:List Rw,hJ (rs.map wY)=true
 | []=>rfl
 | r::rs=>by show (fM (wY r)&&hJ (rs.map wY))=true;rw [uC,uB rs];rfl
theorem ZX{H:Hp}{r:Rw}{v:V}(h:cA H (wY r) v):∃b cu y z,v=.ref b/\H b=some (.tup [.ref cu,y,z])/\H cu=some (.tup (r.1.map EY))/\cA H (fN (eS r.2.1)) y/\cA H (fN (eS r.2.2)) z:=by
 obtain ⟨b,xs,rfl,hb,h⟩:=kH h;unfold aT aT aT aT at h;obtain ⟨u,_,rfl,h1,y,_,rfl,h2,z,_,rfl,h3,rfl⟩:=h;obtain ⟨cu,rfl,hcu⟩:=gK h1;exact ⟨b,cu,y,z,rfl,hb,hcu,h2,h3⟩
theorem vH{H:Hp}:∀{ds:List PyData}{d:PyData}{zs:List V},aT H (ds++[d]) zs->∃zs' y,zs=zs' ++ [y]/\aT H ds zs'/\cA H d y
 | [],d,zs,h=>by
  rw [List.nil_append] at h;unfold aT aT at h;obtain ⟨y,_,rfl,h1,rfl⟩:=h;exact ⟨[],y,rfl,aT.nil,h1⟩
 | e::ds,d,zs,h=>by
  rw [List.cons_append] at h;unfold aT at h;obtain ⟨x,xs,rfl,h1,h2⟩:=h;obtain ⟨zs',y,rfl,h3,h4⟩:=vH h2;exact ⟨x::zs',y,rfl,aT.cons h1 h3,h4⟩
def pK(row:List Nat):List Nat:=[row.count 0,row.count 1]
theorem zU(row:List Nat){f:Nat}(hf:f<2):pK (row++[f])=bP (pK row) f:=by
 have:f=0\/f=1:=Oo;rcases this with rfl | rfl
 ·show [(row++[0]).count 0,(row++[0]).count 1]=[row.count 0+1,row.count 1];rw [List.count_append,List.count_append];rfl
 ·show [(row++[1]).count 0,(row++[1]).count 1]=[row.count 0,row.count 1+1];rw [List.count_append,List.count_append];rfl
theorem EM:∀{row:List Nat},(∀x∈row,x<2)->(pK row).sum=row.length
 | [],_=>rfl
 | x::row,h=>by
  have ih:=EM (row:=row) λy hy=>h y (aS _ hy);have hx:=h x (aW ..);have:x=0\/x=1:=Oo;have ih:row.count 0+(row.count 1+0)=row.length:=ih;rcases this with rfl | rfl
  ·show (0::row).count 0+((0::row).count 1+0)=row.length+1;rw [List.count_cons,List.count_cons];simp;omega
  ·show (1::row).count 0+((1::row).count 1+0)=row.length+1;rw [List.count_cons,List.count_cons];simp;omega
theorem EI(row:List Nat)(m:Nat):(ci row).count (m:Int)=row.count m:=by
 induction row with
 | nil=>rfl
 | cons x row ih =>
  show (((x:Nat):Int)::ci row).count (m:Int)=(x::row).count m;rw [List.count_cons,List.count_cons,ih];by_cases e:x=m
  ·subst e;simp
  ·have:¬(x:Int)=(m:Int):=λz=>e Oo;simp [e,this]
structure aA8(M Nc:Nat)(r:Rw):Prop where
 len:r.1.length<=M
 two:∀x∈r.1,x<2
 sh:Qn (fC^r.1.length) 1 r.2.1
 pd:Qn (fC*Nc) (999*r.1.length) r.2.2
def SD(M:Nat)(r:Rw):Nat:=2^(M+1-r.1.length)-1
def OX(M:Nat)(rs:List Rw):Nat:=(rs.map (SD M)).sum
theorem oF(M:Nat)(rs:List Rw)(r:Rw):OX M (rs++[r])=OX M rs+SD M r:=by unfold OX;rw [bE,List.sum_append];simp
theorem HV{M:Nat}{r:Rw}(h:r.1.length<=M):1<=SD M r:=by
 unfold SD;have:=aJ (show 0<2 by decide) (show 1<=M+1-r.1.length by omega);omega
theorem SC{M:Nat}{r a b:Rw}(h:r.1.length<M)(ha:a.1.length=r.1.length+1)(hb:b.1.length=r.1.length+1):SD M a+SD M b+1=SD M r:=by
 unfold SD;rw [ha,hb,show M+1-r.1.length=(M+1-(r.1.length+1))+1 by omega,Nat.pow_succ];have:=Nat.pow_pos (n:=M+1-(r.1.length+1)) (show 0<2 by decide);omega
theorem PF{M:Nat}:∀{rs:List Rw},(∀r∈rs,r.1.length<=M)->rs.length<=OX M rs
 | [],_=>cG _
 | r::rs,h=>by
  have h1:=PF (rs:=rs) λr hr=>h r (aS _ hr);have h2:=HV (h r (aW ..));unfold OX at h1 ⊢;rw [bL,List.sum_cons,bQ];omega
def YH(M:Nat)(gv:Nat->List Nat->Rat)(r:Rw):Rat:=r.2.1*(r.2.2+gv (M-r.1.length) (pK r.1))
theorem tyU{K:PySem.W.Frag}{H:Hp}{l:Addr}{xs:List V}(h:H l=some (.tup xs)):tyV K "tuple" (.ref l) H:=.inr (.inl ⟨rfl,.inr ⟨xs,h⟩⟩)
theorem DD(rs:List Rw):SeqAt.shaped (.list (rs.map wY))=true:=(pQ.lst (n:=3) λd hd'=>by
 obtain ⟨r,_,rfl⟩:=aQ.mp hd';refine pQ.tup (n:=2) λd hd'=>?_;simp only [bF,List.not_mem_nil,or_false] at hd';rcases hd' with rfl | rfl | rfl
 ·refine pQ.tup (n:=1) λd hd'=>?_;obtain ⟨z,_,rfl⟩:=aQ.mp hd';exact pQ.int _
 ·exact pQ.fr _
 ·exact pQ.fr _).ok
theorem QD(rs:List Rw):PyData.eqv (.list (rs.map wY)) (.list [])=decide (rs=[]):=by
 cases rs with
 | nil=>rfl
 | cons c cs=>show PyData.eqvAll (wY c::cs.map wY) []=_;simp [PyData.eqvAll]
theorem eN{M l Np Nc:Nat}(hl:l<=M):fC^l*(Np*(fC*Nc)) ∣ lJ M fC fC Np Nc:=⟨fC^(M-l),by
 show Np*Nc*fC*fC^M=fC^l*(Np*(fC*Nc))*fC^(M-l);have:fC^M=fC^l*fC^(M-l):=by rw [<-Nat.pow_add];congr 1;omega
 rw [this];ac_rfl⟩
theorem YG{M:Nat}{gv:Nat->List Nat->Rat}{r:Rw}{sh:Nat->Rat}{mc:Rat}(hl:r.1.length<M)(h1:sh 0+sh 1=1)(e:gv (M-r.1.length) (pK r.1)=mc+cD 2 (λf=>sh f*gv (M-(r.1.length+1)) (bP (pK r.1) f))) :
  YH M gv (r.1++[0],r.2.1*sh 0,r.2.2+mc)+YH M gv (r.1++[1],r.2.1*sh 1,r.2.2+mc)=YH M gv r:=by
 unfold YH;rw [e,dW,dW,gG];show r.2.1*sh 0*(r.2.2+mc+gv (M-(r.1++[0]).length) (pK (r.1++[0])))+r.2.1*sh 1*(r.2.2+mc+gv (M-(r.1++[1]).length) (pK (r.1++[1])))=_;rw [zU _ Dd,zU _ Dd,aP,aP,List.length_singleton,List.length_singleton];have:sh 1=1-sh 0:=by grind
 rw [this];grind
theorem vAt{H:Hp}{fs:List Fr}{vs:List V}{j:Nat}(r:aT H (fs.map fN) vs)(hj:j<fs.length)(low:∀f∈fs,cV f):∃v,vs[j]?=some v/\cA H (fN (eS (cL fs j))) v:=by
 have h:=aB hj;obtain ⟨v,h1,h2⟩:=fQ r h;refine ⟨v,h1,?_⟩;rw [wH h,QA (low _ (List.getElem_mem hj))];exact h2
theorem aAN{F:Nat}{sh:Nat->Rat}{mx pr:Rat}{cs:Nat->Rat}{g:List Nat->Int}{i n:Nat}{c:List Nat}(h:¬g c<0):vR F sh mx pr cs g i n c=if g c=(i:Int) then 0 else pr:=by
 cases n with
 | zero=>rfl
 | succ n=>rw [vR,if_neg h]
@[irreducible] def mD(K:PySem.W.Frag):Sp:=λvs H Q _=>∃(tv av pv:V) (D:Addr) (kvs:List (List eO × V)) (fs:List Str) (ws:List (Str × List Fr)) (bs mix ps cs:List Fr) (W M i:Nat) (x:Str × List Fr) (g:List Nat->Int),vs=[tv,av,pv,.ref D,.int (i:Int)]/\jT H tv av pv fs ws bs mix ps cs 2 W M/\M<=2/\H D=some (.dT kvs)/\(∀c:List Nat,c.length=2->c.sum<=M->fG kvs (kT (ci c))=some (.int (g c)))/\GOk 2 W M g/\i<W/\ws[i]?=some x /\
 ∀v H',aU H H'->cA H' (fN (eS (vR 2 (cL x.2) (cL mix i) (cL ps i) (cL cs) g i M [0,0]))) v->Qn (lJ M fC fC (dens ps) (dens cs)) 21000 (vR 2 (cL x.2) (cL mix i) (cL ps i) (cL cs) g i M [0,0])->Q v H'
theorem AN{K:PySem.W.Frag}{H:Hp}{Q:VK}{E:XK}{tv av pv:V}{D:Addr}{kvs:List (List eO × V)}{fs:List Str}{ws:List (Str × List Fr)}{bs mix ps cs:List Fr}{W M i:Nat}{x:Str × List Fr}{g:List Nat->Int}(h1:jT H tv av pv fs ws bs mix ps cs 2 W M)(h2:M<=2)(h3:H D=some (.dT kvs))(h4:∀c:List Nat,c.length=2->c.sum<=M->fG kvs (kT (ci c))=some (.int (g c)))(h5:GOk 2 W M g)(h6:i<W)(h7:ws[i]?=some x)
  (k:∀v H',aU H H'->cA H' (fN (eS (vR 2 (cL x.2) (cL mix i) (cL ps i) (cL cs) g i M [0,0]))) v->Qn (lJ M fC fC (dens ps) (dens cs)) 21000 (vR 2 (cL x.2) (cL mix i) (cL ps i) (cL cs) g i M [0,0])->Q v H'):mD K [tv,av,pv,.ref D,.int (i:Int)] H Q E:=by
 unfold mD;exact ⟨tv,av,pv,D,kvs,fs,ws,bs,mix,ps,cs,W,M,i,x,g,rfl,h1,h2,h3,h4,h5,h6,h7,k⟩
section
theorem oQ4(F:iV K "_law_by_rows" "_law_by_rows" sQ4 f fd)(T:kD K mg c)(FQ8:eZ cS P w K mg base 2 "_law_plus" ["_law_one","_law_other"] (nV K))(FQ12:eZ cS P w K mg base 2 "_law_times" ["_law_one","_law_other"] (nU K)):dM P w K mg base cS 3 f fd ["_law_trial_here","_law_aim_here","_law_prices","_law_table","_law_way"] (mD K):=by
 refine F.oky ME λvs H Q E h=>?_;unfold mD at h;obtain ⟨tv,av,pv,D,kvs,fs,ws,bs,mix,ps,cs,W,M,i,x,g,rfl,I,m2,hD,hval,G,hi,hx,k⟩:=h;refine ⟨rfl,λcdv A outer s hr=>?_⟩;refine ⟨_,(aH (bJ (i:=5) ME.nd rfl (Or.inl rfl) (dS (aG aM (aG aM aC))))
  (aH (bJ (i:=6) ME.nd rfl (Or.inl rfl) (gM (aG (dS (aG (dS aC) (aG (dS (aG aM (aG aM aC))) (aG (dS (aG aM (aG aM aC))) aC)))) aC)))
  (aH (sE PassesOwn.never (gC (GF hr.units) (aD 6) (gM aC) (nomark _)) (aH (YA (YE PySem.F.plainAttrs_list PySem.F.slot_list_pop PySem.F.type_list_pop aBW (aD 6)) (rS rfl (fK (cT (i:=7) ME.nd rfl (Or.inl rfl)) (fK (cT (i:=8) ME.nd rfl (Or.inl rfl)) (fK (cT (i:=9) ME.nd rfl (Or.inl rfl)) oT)))))
  (aH (bJ (i:=10) ME.nd rfl (Or.inl rfl) (dS (aG (lH PySem.F.plainAttrs_tuple PySem.F.slot_tuple_count PySem.F.type_tuple_count OY (aD 7) (aG aM aC)) (aG (lH PySem.F.plainAttrs_tuple PySem.F.slot_tuple_count PySem.F.type_tuple_count OY (aD 7) (aG aM aC)) aC))))
  (aH (bJ (i:=11) ME.nd rfl (Or.inl rfl) (fU hr.u1 (aD 3) (aD 10)))
  (aX (lT (gC xD (aD 11) aM (nomark _)) (aH (bJ (i:=9) ME.nd rfl (Or.inl rfl) (bH FQ8 (hr.mono Dd) (aG (aD 9) (aG (bH FQ12 (hr.mono Dd) (aG (bX bO (bX bO (aD 1) aM (λ_ _=>rfl)) (aD 4) (λ_ _=>rfl)) (aG (bX bO (bX bO (aD 1) aM (λ_ _=>rfl)) (jO nC (by rfl) T.b_len Kk (aG (aD 7) aC)) (λ_ _=>rfl)) aC))) aC))))
  (aX (fD PassesOwn.never rfl (dG rfl T.b_range (aG aM aC)) (cT (i:=12) ME.nd rfl (Or.inl rfl)) (aX (iP (lH PySem.F.plainAttrs_list PySem.F.slot_list_append PySem.F.type_list_append mZ (aD 6) (aG (dS (aG (bV (vW K) (aD 7) (dS (aG (aD 12) aC))) (aG (bH FQ12 (hr.mono Dd) (aG (aD 8) (aG (bX bO (bX bO (bX bO (bX bO (aD 0) aM (λ_ _=>rfl)) (aD 4) (λ_ _=>rfl)) aM (λ_ _=>rfl)) (aD 12) (λ_ _=>rfl)) aC))) (aG (aD 9) aC)))) aC))))))) (aX (lT (gC sV (aD 11) (aD 4) (nomark _)) (aX (bJ (i:=5) ME.nd rfl (Or.inl rfl) (bH FQ8 (hr.mono Dd) (aG (aD 5) (aG (bH FQ12 (hr.mono Dd) (aG (aD 8) (aG (aD 9) aC))) aC))))) (aX (bJ (i:=5) ME.nd rfl (Or.inl rfl) (bH FQ8 (hr.mono Dd) (aG (aD 5) (aG (bH FQ12 (hr.mono Dd) (aG (aD 8) (aG (bH FQ8 (hr.mono Dd) (aG (aD 9) (aG (bX bO (aD 2) (aD 4) (λ_ _=>rfl)) aC))) aC))) aC)))))))))))))
  (aX (cB (aD 5)))))),?_⟩
 refine rK (by show 2<=64;decide) λq1 H1 hq1 e1 s1=>?_;refine rK (by show 0<=64;decide) λq2 H2 hq2 e2 s2=>?_;refine rK (by show 2<=64;decide) λq3 H3 hq3 e3 s3=>?_;refine rK (by show 2<=64;decide) λq4 H4 hq4 e4 s4=>?_;refine rK (by show 3<=64;decide) λq5 H5 hq5 e5 s5=>?_;refine AZ (by show 1<=64;decide) λL H6 hL e6 s6=>?_;obtain ⟨gv,hgv⟩:∃gv,gv=vR 2 (cL x.2) (cL mix i) (cL ps i) (cL cs) g i:=⟨_,rfl⟩;have S6:=((((s1.trans s2).trans s3).trans s4).trans s5).trans s6;have s36:=(s4.trans s5).trans s6;obtain ⟨N,hN⟩:∃N,N=lJ M fC fC (dens ps) (dens cs):=⟨_,rfl⟩;have hN0:0<N/\N<2^300:=by rw [hN];exact I.n
 have sz:∀{q:Rat} {B:Nat},Qn N B q->B<=100000->oP 4000 (eS q):=λh hB=>qS h.fq hN0.1 (aV hN0.2 (aJ Dd Dd)) (aK hB (aK (show 100000<=2^20 by decide) (aJ Dd Dd)));have dN:∀{l:Nat},l<=M->fC^l*(dens ps*(fC*dens cs)) ∣ N:=λh=>by rw [hN];exact eN h
 have hxm:=aF hx;have hsx:=I.T.sh x hxm;have lx:x.2.length=2:=hsx.len;have one:cL x.2 0+cL x.2 1=1:=by
  have h1:=hsx.syc.one;rw [HW,lx,dW,dW,gG] at h1;grind
 have shq:∀f,f<2->Qn fC 1 (cL x.2 f):=λf hf=>(hsx.at _ (eG (a:=(0,1)) Oo)).1.q;have mxq:Qn fC 1 (cL mix i):=(I.mx.at _ (eG (a:=(0,1)) (by rw [I.mx.len];exact hi))).1.q;have csq:∀l,l<M->Qn (dens cs) 999 (cL cs l):=λl hl=>(pG I.c _ (eG (a:=(0,1)) (by rw [I.cl];exact hl))).q;have prq:Qn (dens ps) 999 (cL ps i):=(pG I.p _ (eG (a:=(0,1)) (by rw [I.pl];exact hi))).q;obtain ⟨at_,af,aw,xf,xw,rfl,hat,hf,hw,rf,rw'⟩:=HS I.rt;obtain ⟨u,hu,ru⟩:=fQ rw' hx;obtain ⟨b,us,rfl,hb,rus⟩:=kH ru;obtain ⟨y,z,rfl,hy,hz⟩:=tO rus;obtain ⟨as_,xs,rfl,has,rxs⟩:=jK hz;obtain ⟨aa,xb,xm,xc,rfl,haa,rxb,rxm,rxc⟩:=uZ I.ra;obtain ⟨am,vm,rfl,ham,rvm⟩:=jK rxm;obtain ⟨ac,vc,rfl,hac,rvc⟩:=jK rxc;obtain ⟨ap,vp,rfl,hap,rvp⟩:=jK I.rp;refine vS (λm σ H'=>∃(o7 o8 o9 o10 o11 o12:Option V) (rs:List Rw) (zs:List V) (fq:Rat) (v:V),σ=[some (.ref at_),some (.ref aa),some (.ref ap),some (.ref D),some (.int (i:Int)),some v,some (.ref L),o7,o8,o9,o10,o11,o12]/\m=OX M rs/\aU H H'/\H' L=some (.lst zs)/\aT H' (rs.map wY) zs/\cA H' (fN (eS fq)) v/\fq+eW rs (YH M gv)=gv M [0,0]/\m<=7/\Qn N (3000*(7-m)) fq/\(∀r∈rs,aA8 M (dens cs) r))
  (λσ H'=>∃(o7 o8 o9 o10 o11 o12:Option V) (v:V),σ=[some (.ref at_),some (.ref aa),some (.ref ap),some (.ref D),some (.int (i:Int)),some v,some (.ref L),o7,o8,o9,o10,o11,o12]/\aU H H'/\cA H' (fN (eS (gv M [0,0]))) v/\Qn N 21000 (gv M [0,0]))
  (OX M [([],1,0)]) ⟨_,_,_,_,_,_,[([],1,0)],_,0,_,rfl,rfl,S6,e6,aT.cons (cA.tup (s6 _ _ e5) (aT.cons (pJ ?_) (aT.cons (cX ?_) (aT.cons (cX ?_) aT.nil)))) aT.nil,cX ?_,?_,?_,Qn.zero _ _,?_⟩ ?_ ?_
 ·exact ((s3.trans s4).trans s5).trans s6 _ _ e2
 ·rw [BP];exact s36 _ _ e3
 ·rw [xO];exact (s5.trans s6) _ _ e4
 ·rw [xO];exact ((((s2.trans s3).trans s4).trans s5).trans s6) _ _ e1
 ·rw [eE,iG];show (0:Rat)+(1*(0+gv (M-0) [0,0])+0)=gv M [0,0];rw [Nat.sub_zero];grind
 ·show (2^(M+1-0)-1)+0<=7;have:=aJ (show 0<2 by decide) (show M+1-0<=3 by omega);omega
 ·intro r hr';rw [aY.mp hr'];exact ⟨cG _,(λx hx=>by cases hx),Qn.one' _,Qn.zero _ _⟩
 ·rintro m σ Ha ⟨o7,o8,o9,o10,o11,o12,rs,zs,fq,v,rfl,rfl,Sa,ea,ra,rva,sum,m7,fqn,rok⟩;refine ⟨_,rfl,?_⟩;refine AZ (by show 0<=64;decide) λqa Hb hqa eb sb=>?_;refine reD (cA.lst (sb _ _ ea) (ra.same sb)) (cA.lst eb aT.nil) (DD rs) rfl ?_;rw [QD];refine ⟨_,rfl,?_⟩;by_cases hrs:rs=[]
  ·rw [cP hrs];refine PR ⟨_,_,_,_,_,_,v,rfl,Sa.trans sb,?_,?_⟩
   ·subst hrs;rw [iG] at sum;rw [<-sum,show fq+0=fq by grind];exact rva.same sb
   ·subst hrs;rw [iG] at sum;rw [<-sum,show fq+0=fq by grind];exact fqn.le Oo
  ·rw [cO hrs];refine PP ?_;obtain ⟨rs',r,rfl⟩:∃rs' r,rs=rs' ++ [r]:=⟨_,_,(List.dropLast_concat_getLast hrs).symm⟩;rw [bE] at ra;obtain ⟨zs',y,rfl,ra',ry⟩:=vH ra;have ro:=rok r (bI _ (aY.mpr rfl));have rok':∀r∈rs',aA8 M (dens cs) r:=λr hr=>rok r (bZ _ hr);have lrs':=PF λr hr=>(rok' r hr).len;have lzs:zs'.length=rs'.length:=by rw [eY ra']
   rw [oF] at m7 fqn;have sz1:=HV ro.len;rw [qW] at sum;refine ⟨_,rfl,FF (sb _ _ ea),?_⟩;refine ppI (sb _ _ ea) λHc ec bc=>?_;have eLb:=sb _ _ ea;have tbc:dC Hb Hc:=bc.t eLb;have tac:dC Ha Hc:=sb.t.trans tbc;have nLH:∀{a:Addr} {ob:HO},H a=some ob->a≠L:=λh e=>by
    rw [e,show H L=none from ((((s1.trans s2).trans s3).trans s4).trans s5).free hL] at h;cases h
   have Sc:aU H Hc:=λa ob h=>bc.at (nLH h) (sb _ _ (Sa _ _ h));obtain ⟨br,cu,vy,vz,rfl,hbr,hcu,rvy,rvz⟩:=ZX (ry.flat tac (uC r));have rva':=rva.flat tac (cU _);have ra2:=aT.flat tac (uB rs') ra';refine ⟨br,_,rfl,jM.of hbr,rfl,_,_,rfl,_,_,rfl,_,_,rfl,rfl,?_⟩;refine ⟨_,rfl,tyU hcu,?_⟩;refine aB8 (ns:=ci r.1) (by rw [eK];exact hcu) ?_;refine ⟨_,rfl,tyU hcu,?_⟩;refine aB8 (ns:=ci r.1) (by rw [eK];exact hcu) ?_;rw [show (ci r.1).count 0=r.1.count 0 from EI r.1 0,show (ci r.1).count 1=r.1.count 1 from EI r.1 1];refine rK (by show 2<=64;decide) λqd Hd hqd ed sd=>?_;have Sd:=Sc.trans sd;have csum:(pK r.1).sum=r.1.length:=EM ro.two;have hv:=hval (pK r.1) rfl (by rw [csum];exact ro.len);refine ⟨_,rfl,_,rfl,?_⟩;refine LL (Sd _ _ hD) (c:=ci (pK r.1)) ed hv ?_;refine ⟨_,rfl,_,_,rfl,rfl,_,rfl,?_⟩;have hlo:=G.lo (pK r.1) rfl (by rw [csum];exact ro.len);have sq:Qn N 1 r.2.1:=ro.sh.dvd (cC (fJ _ _) (dN ro.len));have pq:Qn N 2000 r.2.2:=(ro.pd.dvd (cC (cC (Nat.dvd_mul_left _ _) (Nat.dvd_mul_left _ _)) (dN ro.len))).le (by have:=ro.len;omega);refine rZ (λneg=>?_) (λnn=>?_)
   ·have hlt:r.1.length<M:=by
     rcases Nat.lt_or_ge r.1.length M with h | h
     ·exact h
     ·have:=G.last (pK r.1) rfl (by rw [csum];have:=ro.len;omega);omega
    obtain ⟨v1,hv1,rv1⟩:=vAt rvm (j:=i) (by rw [I.mx.len];exact hi) λf hf=>(I.mx.at f hf).1.low;obtain ⟨v2,hv2,rv2⟩:=vAt rvc (j:=r.1.length) (by rw [I.cl];exact hlt) λf hf=>(pG I.c f hf).low;obtain ⟨mc,hmc⟩:∃mc,mc=cL mix i*cL cs r.1.length:=⟨_,rfl⟩;have mcq:Qn (fC*dens cs) 999 mc:=by rw [hmc];exact (mxq.mul (csq _ hlt)).le Oo
    refine ⟨_,rfl,_,rfl,?_⟩;refine mP (Sd _ _ haa) rfl ?_;refine ⟨_,rfl,?_⟩;refine mP (Sd _ _ ham) (dU hv1) ?_;refine ⟨_,rfl,?_⟩;refine mP (Sd _ _ haa) rfl ?_;refine ⟨_,rfl,?_⟩;refine rlT (sd _ _ hcu) ?_;rw [aA];refine mP (Sd _ _ hac) (dU hv2) ?_;have n1:Qn N 1 (cL mix i):=mxq.dvd (cC (cC (cC (fJ _ _) (Nat.dvd_mul_left _ _)) (Nat.dvd_mul_left _ _)) (dN ro.len));have n2:Qn N 999 (cL cs r.1.length):=(csq _ hlt).dvd (cC (cC (cC (Nat.dvd_mul_left _ _) (Nat.dvd_mul_left _ _)) (Nat.dvd_mul_left _ _)) (dN ro.len));have n3:Qn N 999 mc:=mcq.dvd (cC (cC (Nat.dvd_mul_left _ _) (Nat.dvd_mul_left _ _)) (dN ro.len));refine mU (fP.of (rv1.same Sd)) (fP.of (rv2.same Sd)) (bG _) (bG _) (sz n1 Dd) (sz n2 Dd) λqe He hqe ee se=>?_;rw [BA,<-hmc] at ee;refine mC (fP.of ((rvz.same sd).same se)) (fP.of (cX ee)) (bG _) (bG _) (sz pq Dd) (sz n3 Dd) λqf Hf hqf ef sf=>?_;rw [xZ] at ef;have sce:aU Hc Hf:=(sd.trans se).trans sf;have Sf:=Sc.trans sce;have eLf:Hf L=some (.lst zs'):=sce _ _ ec;refine ⟨_,rfl,Dd,Dd,?_⟩;refine gI (n:=2) (λj σ H'=>∃(o12:Option V) (ys:List V),σ=[some (.ref at_),some (.ref aa),some (.ref ap),some (.ref D),some (.int (i:Int)),some v,some (.ref L),some (.ref cu),some vy,some (.ref qf),some (.ref qd),some (.int (g (pK r.1))),o12]/\aR L Hf H'/\H' L=some (.lst ys)/\aT H' ((rs' ++ (List.range j).map λf=>((r.1++[f],r.2.1*cL x.2 f,r.2.2+mc):Rw)).map wY) ys) ⟨_,zs',rfl,(aU.refl _).but,eLf,by rw [List.range_zero,List.map_nil,List.append_nil];exact ra2.same sce⟩ ?_ ?_
    ·rintro j σ Hg hj ⟨o12',ys,rfl,bg,eg,rg⟩;have tfg:dC Hf Hg:=bg.t eLf;have Sg:aU H Hg:=λa ob h=>bg.at (nLH h) (Sf _ _ h);have hcug:Hg cu=some (.tup (r.1.map EY)):=tfg _ _ (sce _ _ hcu);obtain ⟨v3,hv3,rv3⟩:=vAt rxs (j:=j) Oo λf hf=>(hsx.at f hf).1.low;have lys:ys.length<=20:=by
      rw [eY rg,aP,aA,bD];omega
     rw [show (0:Int)+(j:Nat)=(j:Int) from Int.zero_add _];refine ⟨_,rfl,FF eg,_,rfl,?_⟩;refine ⟨_,rfl,?_⟩;refine rK (by show 1<=64;decide) λqh Hh hqh eh sh'=>?_;refine VP (sh' _ _ hcug) eh (by rw [aA];have:=ro.len;show r.1.length+1<=1000;omega) λqi Hi si ei=>?_;have s1':=sh'.trans si;have Si:=Sg.trans s1';refine ⟨_,rfl,_,rfl,?_⟩;refine mP (Si _ _ hat) rfl ?_;refine ⟨_,rfl,?_⟩;refine mP (Si _ _ hw) (dU hu) ?_;refine mP (Si _ _ hb) rfl ?_;refine ⟨_,rfl,?_⟩;refine mP (Si _ _ has) (dU hv3) ?_;have n4:Qn N 1 (cL x.2 j):=(shq j hj).dvd (cC (cC (cC (fJ _ _) (Nat.dvd_mul_left _ _)) (Nat.dvd_mul_left _ _)) (dN ro.len));refine mU (fP.of (((rvy.same sce).flat tfg (cU _)).same s1')) (fP.of (rv3.same Si)) (bG _) (bG _) (sz sq Dd) (sz n4 Dd) λqj Hj hqj ej sj=>?_;rw [BA] at ej;refine ⟨_,rfl,?_⟩;refine rK (by show 3<=64;decide) λqk Hk hqk ek sk=>?_;have s2':=s1'.trans (sj.trans sk);refine yL (s2' _ _ eg) Oo λHl el bl=>?_;have tkl:dC Hk Hl:=bl.t (s2' _ _ eg);refine ⟨_,_,rfl,(bg.trans s2'.but).trans bl,el,?_⟩;have er:((List.range (j+1)).map λf=>((r.1++[f],r.2.1*cL x.2 f,r.2.2+mc):Rw))=((List.range j).map λf=>((r.1++[f],r.2.1*cL x.2 f,r.2.2+mc):Rw))++[(r.1++[j],r.2.1*cL x.2 j,r.2.2+mc)]:=by rw [List.range_succ,bE];rfl
     rw [er,<-List.append_assoc,bE];refine aT.snoc (aT.flat (s2'.t.trans tkl) (uB _) rg) (cA.flat tkl (uC _) (cA.tup ek (aT.cons (pJ ?_) (aT.cons (cX (sk _ _ ej)) (aT.cons (cX ((s2'.t) _ _ (tfg _ _ ef))) aT.nil)))));rw [(sj.trans sk) _ _ ei,bE];rfl
    ·rintro σ Hg ⟨o12',ys,rfl,bg,eg,rg⟩;have tfg:dC Hf Hg:=bg.t eLf;have Sg:aU H Hg:=λa ob h=>bg.at (nLH h) (Sf _ _ h);have e2:((List.range 2).map λf=>((r.1++[f],r.2.1*cL x.2 f,r.2.2+mc):Rw))=[(r.1++[0],r.2.1*cL x.2 0,r.2.2+mc),(r.1++[1],r.2.1*cL x.2 1,r.2.2+mc)]:=rfl;rw [e2] at rg;have two:=SC (M:=M) (r:=r) (a:=(r.1++[0],r.2.1*cL x.2 0,r.2.2+mc)) (b:=(r.1++[1],r.2.1*cL x.2 1,r.2.2+mc)) hlt (by simp) (by simp);have mu2:OX M (rs' ++ [(r.1++[0],r.2.1*cL x.2 0,r.2.2+mc),(r.1++[1],r.2.1*cL x.2 1,r.2.2+mc)])+1=OX M rs' + SD M r:=by
      rw [<-two,List.append_cons rs',oF,oF];omega
     have ev:gv (M-r.1.length) (pK r.1)=mc+cD 2 (λf=>cL x.2 f*gv (M-(r.1.length+1)) (bP (pK r.1) f)):=by
      rw [hgv,show M-r.1.length=(M-(r.1.length+1))+1 by omega,vR,if_pos neg,csum,hmc]
     refine ⟨_,?_,_,_,_,_,_,_,rs' ++ [(r.1++[0],r.2.1*cL x.2 0,r.2.2+mc),(r.1++[1],r.2.1*cL x.2 1,r.2.2+mc)],ys,fq,v,rfl,rfl,Sg,eg,rg,((rva'.same sce).flat tfg (cU _)),?_,Oo,fqn.le (iU _ Oo),?_⟩
     ·rw [oF];omega
     ·rw [List.append_cons rs',qW,qW,<-sum,<-YG hlt one ev];grind
     ·have kid:∀f,f<2->aA8 M (dens cs) (r.1++[f],r.2.1*cL x.2 f,r.2.2+mc):=λf hf=>by
       refine ⟨by simp;omega,λy hy=>?_,?_,?_⟩
       ·rcases cE.mp hy with hy | hy
        ·exact ro.two y hy
        ·rw [aY.mp hy];exact hf
       ·have:=ro.sh.mul (shq f hf);show Qn (fC^(r.1++[f]).length) 1 (r.2.1*cL x.2 f);rw [aP,List.length_singleton,Nat.pow_succ];exact this
       ·have:=ro.pd.add mcq;show Qn (fC*dens cs) (999*(r.1++[f]).length) (r.2.2+mc);rw [aP,List.length_singleton,Nat.mul_add];exact this
      intro r' hr';rcases cE.mp hr' with h | h
      ·exact rok' r' h
      ·simp only [bF,List.not_mem_nil,or_false] at h;rcases h with rfl | rfl
       ·exact kid 0 Dd
       ·exact kid 1 Dd
   ·have pq2:Qn (dens ps*(fC*dens cs)) (999*r.1.length) r.2.2:=ro.pd.dvd (Nat.dvd_mul_left _ _);refine ⟨_,rfl,_,rfl,⟨rfl,_,rfl,?_⟩⟩;have egv:gv (M-r.1.length) (pK r.1)=if g (pK r.1)=(i:Int) then 0 else cL ps i:=by rw [hgv];exact aAN nn
    have fq0:Qn N 100000 fq:=fqn.le Oo;refine rZ (λeq=>?_) (λne=>?_)
    ·injection eq with eq;have cq:Qn N 3000 (r.2.1*r.2.2):=((ro.sh.mul ro.pd).dvd (cC (Nat.mul_dvd_mul_left _ (Nat.dvd_mul_left _ _)) (dN ro.len))).le (by have:=ro.len;omega);refine ⟨_,rfl,_,rfl,_,rfl,?_⟩;refine mU (fP.of (rvy.same sd)) (fP.of (rvz.same sd)) (bG _) (bG _) (sz sq Dd) (sz pq Dd) λqe He hqe ee se=>?_;rw [BA] at ee;refine mC (fP.of ((rva'.same sd).same se)) (fP.of (cX ee)) (bG _) (bG _) (sz fq0 Dd) (sz cq Dd) λqf Hf hqf ef sf=>?_;rw [xZ] at ef;have sce:aU Hc Hf:=(sd.trans se).trans sf;refine ⟨OX M rs',by rw [oF];omega,_,_,_,_,_,_,rs',zs',fq+r.2.1*r.2.2,_,rfl,rfl,Sc.trans sce,sce _ _ ec,ra2.same sce,cX ef,?_,Oo,(fqn.add cq).le Oo,rok'⟩;rw [<-sum];unfold YH;rw [egv,if_pos eq];grind
    ·have ne':¬g (pK r.1)=(i:Int):=λz=>ne (by rw [z]);obtain ⟨v1,hv1,rv1⟩:=vAt rvp (j:=i) (by rw [I.pl];exact hi) λf hf=>(pG I.p f hf).low;have n1:Qn N 999 (cL ps i):=prq.dvd (cC (cC (fJ _ _) (Nat.dvd_mul_left _ _)) (dN ro.len));have sumq:Qn (dens ps*(fC*dens cs)) 2997 (r.2.2+cL ps i):=(pq2.add (prq.dvd (fJ _ _))).le (by have:=ro.len;omega);have sumN:Qn N 2997 (r.2.2+cL ps i):=sumq.dvd (cC (Nat.dvd_mul_left _ _) (dN ro.len));have cq:Qn N 3000 (r.2.1*(r.2.2+cL ps i)):=((ro.sh.mul sumq).dvd (dN ro.len)).le Oo;refine ⟨_,rfl,_,rfl,_,rfl,_,rfl,?_⟩;refine ⟨_,rfl,?_⟩;refine mP (Sd _ _ hap) (dU hv1) ?_;refine mC (fP.of (rvz.same sd)) (fP.of (rv1.same Sd)) (bG _) (bG _) (sz pq Dd) (sz n1 Dd) λqe He hqe ee se=>?_;rw [xZ] at ee;refine mU (fP.of ((rvy.same sd).same se)) (fP.of (cX ee)) (bG _) (bG _) (sz sq Dd) (sz sumN Dd) λqg Hg hqg eg sg=>?_;rw [BA] at eg;refine mC (fP.of (((rva'.same sd).same se).same sg)) (fP.of (cX eg)) (bG _) (bG _) (sz fq0 Dd) (sz cq Dd) λqf Hf hqf ef sf=>?_;rw [xZ] at ef;have sce:aU Hc Hf:=((sd.trans se).trans sg).trans sf;refine ⟨OX M rs',by rw [oF];omega,_,_,_,_,_,_,rs',zs',fq+r.2.1*(r.2.2+cL ps i),_,rfl,rfl,Sc.trans sce,sce _ _ ec,ra2.same sce,cX ef,?_,Oo,(fqn.add cq).le Oo,rok'⟩;rw [<-sum];unfold YH;rw [egv,if_neg ne'];grind
 ·rintro σ Ha ⟨o7,o8,o9,o10,o11,o12,v,rfl,Sa,rva,qn⟩;refine ⟨_,rfl,?_⟩;rw [hgv] at rva qn;rw [hN] at qn;exact k v Ha Sa rva qn
end
abbrev KG:Stmt:=(top 69)
theorem xX:bS ["_law_script","_law_feed_here","_law_ways","_law_most","_law_trial_here","_law_aim_here","_law_prices","_law_least","_law_table","_law_found"] ["_law_script"] (aO KG):=⟨rfl,rfl,rfl,Kk,rfl,Kk,Kk⟩
theorem KI{F:Nat}(f1:1<=F)(M:Nat):(rise F M)[0]?=some (List.replicate F 0):=by
 unfold rise;rw [List.range_succ_eq_map,List.flatMap_cons,xU F f1]
 rfl
def EX(W M:Nat)(ws:List (Str × List Fr))(mix ps cs:List Fr)(t:Tb):Rat:=cD W λi=>vR 2 (cL (ws.getD i ("",[])).2) (cL mix i) (cL ps i) (cL cs) (gT t) i M [0,0]
section
variable{H:Hp}{tv av pv:V}{fs:List Str}{ws:List (Str × List Fr)}{bs mix ps cs:List Fr}{W M:Nat}
theorem jT.hq(I:jT H tv av pv fs ws bs mix ps cs 2 W M):∀i,i<W->∀c f,c.length=2->f<2->jL (fW ws) i (bP c f)=jL (fW ws) i c*cL (ws.getD i ("",[])).2 f:=λi hi c f hc hf=>by
 have hx:=aB (show i<ws.length by rw [I.T.w];exact hi);have hm:=aF hx;have low:∀f∈(ws[i]'(by rw [I.T.w];exact hi)).2,cV f:=λf hf=>((I.T.sh _ hm).at f hf).1.low;rw [qJ hx,bM,hx,Option.getD_some,sG low,sG low,uD _ _ _ (by rw [(I.T.sh _ hm).len];exact hf) (by rw [(I.T.sh _ hm).len,hc])]
theorem jT.root(I:jT H tv av pv fs ws bs mix ps cs 2 W M)(g:List Nat->Int):MF 2 W (jL (fW ws)) (λi=>cL (ws.getD i ("",[])).2) (cL mix) (cL ps) (cL cs) g M [0,0]=cD W λi=>vR 2 (cL (ws.getD i ("",[])).2) (cL mix i) (cL ps i) (cL cs) g i M [0,0]:=by
 unfold MF;refine cH λi hi=>?_;have hx:=aB (show i<ws.length by rw [I.T.w];exact hi);have hm:=aF hx;have:jL (fW ws) i [0,0]=1:=by
  rw [qJ hx];exact HI (λf hf=>((I.T.sh _ hm).at f hf).1.low) 2
 rw [this];grind
theorem jT.wr(I:jT H tv av pv fs ws bs mix ps cs 2 W M):wor 2 W M (fW ws) mix ps cs [0,0]=nG W 2 (jL (fW ws)) (cL mix) (cL ps) (cL cs) M [0,0]:=rfl
theorem jT.tab_ge(I:jT H tv av pv fs ws bs mix ps cs 2 W M){t:Tb}(h:t∈iT M W (rJ M)):wor 2 W M (fW ws) mix ps cs [0,0]<=EX W M ws mix ps cs t:=by
 unfold EX;rw [I.wr,<-I.root];exact WM I.hq (NE h).1 M [0,0] rfl (Nat.zero_add _)
theorem DY{F:Nat}{sh:Nat->Rat}{mx pr:Rat}{cs:Nat->Rat}{g g':List Nat->Int}{i M:Nat}(h:∀c:List Nat,c.length=2->c.sum<=M->g c=g' c)(hF:F<=2):∀(n:Nat) (c:List Nat),c.length=2->c.sum+n=M->vR F sh mx pr cs g i n c=vR F sh mx pr cs g' i n c
 | 0,c,hc,hs=>by unfold vR;rw [h c hc Oo]
 | n+1,c,hc,hs=>by
  rw [vR,vR,h c hc Oo,cH λf hf=>by rw [DY h hF n (bP c f) (by rw [lD];exact hc) (by rw [gB Oo];omega)]]
theorem jT.tab_eq(I:jT H tv av pv fs ws bs mix ps cs 2 W M):∃t∈iT M W (rJ M),EX W M ws mix ps cs t=wor 2 W M (fW ws) mix ps cs [0,0]:=by
 have hW:0<W:=by have:=I.w;omega
 obtain ⟨t,ht,hg⟩:=YI (aCi (F:=2) (W:=W) (M:=M) (q:=jL (fW ws)) (mix:=cL mix) (ps:=cL ps) (cs:=cL cs) hW);refine ⟨t,ht,?_⟩;have e:=WN (M:=M) (mix:=cL mix) (ps:=cL ps) (cs:=cL cs) I.hq hW M [0,0] rfl (Nat.zero_add _);rw [I.wr,<-e,I.root];unfold EX;exact cH λi hi=>DY hg Dd M [0,0] rfl (Nat.zero_add _)
end
def LsT(H:Hp)(N:Nat)(pr:Tb->Rat)(ts:List Tb)(ol:Option V):Prop:=(ts=[]/\ol=some .non)\/∃v m,ol=some v/\cA H (fN (eS m)) v/\Qn N 100000 m/\(∃t∈ts,pr t=m)/\∀t∈ts,m<=pr t
theorem LsT.same{H H':Hp}{N:Nat}{pr:Tb->Rat}{ts:List Tb}{ol:Option V}(s:aU H H')(h:LsT H N pr ts ol):LsT H' N pr ts ol:=by
 rcases h with h | ⟨v,m,h1,h2,h3⟩
 ·exact .inl h
 ·exact .inr ⟨v,m,h1,h2.same s,h3⟩
theorem zK(c:List Nat)(f:Fr):SeqAt.shaped (.tuple [mL c,fN f])=true:=(pQ.tup (n:=2) λd hd'=>by
 rcases bF.mp hd' with rfl | hd'
 ·refine pQ.tup (n:=1) λd hd'=>?_;obtain ⟨z,_,rfl⟩:=aQ.mp hd';exact pQ.int _
 ·rw [aY.mp hd'];exact pQ.fr _).ok
theorem EA{i:Nat}{v v':V}{σ:St}{H:Hp}{Q:St->Hp->Prop}(e:v=v')(h:Q (σ.set i (some v')) H):oH i v σ H Q:=by rw [e];exact h
theorem aDC{r:R2}{v:V}{tb:TE}{σ:St}{H:Hp}{Q:VK}(h:tb σ H λy H2=>r v y H2 Q):RG r (tC v) tb σ H Q:=h
theorem aDD{r:List V->Hp->VK->Prop}{ta:TE}{σ:St}{H:Hp}{Q:VK}(h:ta σ H λx H1=>r [x] H1 Q):tCB r (NI ta YL) σ H Q:=h
theorem lC{t:VK->Prop}{Q:VK}(R:VK)(h1:∀Q':VK,(∀x H,R x H->Q' x H)->t Q')(h2:∀x H,R x H->Q x H):t Q:=h1 Q h2
section
theorem aDi(F:iV K "law" "law" KG f fd)(T:kD K mg c)
  (FQ6:eZ cS P w K mg base 1 "_law_feed" ["_law_script"] (sN K)) (FQ5:eZ cS P w K mg base 1 "_law_draw" ["_law_feed_here","_law_many"] lL)
  (FQ14:eZ cS P w K mg base 3 "_law_trial" ["_law_feed_here","_law_faces","_law_ways"] nS) (FQ1:eZ cS P w K mg base 3 "_law_aim" ["_law_feed_here","_law_ways","_law_most"] sL) (FQ10:eZ cS P w K mg base 2 "_law_some" ["_law_feed_here"] qZ)
  (FQ11:eZ cS P w K mg base 1 "_law_tables" ["_law_ways","_law_most"] mB) (FQ4:eZ cS P w K mg base 3 "_law_by_rows" ["_law_trial_here","_law_aim_here","_law_prices","_law_table","_law_way"] (mD K)) (FQ13:eZ cS P w K mg base 3 "_law_total" ["_law_some_here"] (nT K)) (FQ2:eZ cS P w K mg base 1 "_law_below" ["_law_one","_law_other"] (mV K))
  (FQ54:eZ cS P w K mg base 7 "worths" ["trial","aim","prices"] nO) (FQ18:eZ cS P w K mg base 9 "best_rule" ["trial","aim","prices"] (qF K)) (FQ41:eZ cS P w K mg base 8 "priced" ["trial","rule","aim","prices"] (nQ K)):dM P w K mg base cS 10 f fd ["_law_script"] (tY K):=by
 refine F.oky xX λvs H Q E h=>?_;unfold tY at h;obtain ⟨a,ns,rfl,hS,hl,k⟩:=h;refine ⟨rfl,λcdv A outer s hr=>?_⟩;refine ⟨_,(aH (bJ (i:=1) xX.nd rfl (Or.inr rfl) (bH FQ6 (hr.mono Dd) (aG (aD 0) aC)))
  (aH (bJ (i:=2) xX.nd rfl (Or.inl rfl) (bV dY aM (kS uW (by rfl) T.b_int Kk (aG (pS sV (bH FQ5 (hr.mono Dd) (aG (aD 1) (aG aM aC))) aM (nomark _)) aC))))
  (aH (bJ (i:=3) xX.nd rfl (Or.inl rfl) (bV dY aM (kS uW (by rfl) T.b_int Kk (aG (YF (pS sV (aD 2) aM (nomark _)) (YD (pS sV (bH FQ5 (hr.mono Dd) (aG (aD 1) (aG aM aC))) aM (nomark _)))) aC))))
  (aH (bJ (i:=4) xX.nd rfl (Or.inr rfl) (bH FQ14 (hr.mono Dd) (aG (aD 1) (aG aM (aG (aD 2) aC)))))
  (aH (bJ (i:=5) xX.nd rfl (Or.inr rfl) (bH FQ1 (hr.mono Dd) (aG (aD 1) (aG (aD 2) (aG (aD 3) aC)))))
  (aH (bJ (i:=6) xX.nd rfl (Or.inr rfl) (kS dP (by rfl) T.b_tuple Kk (aG (fX (dJ.of (psc:=aO KG) (N:=["_law_script","_law_feed_here","_law_ways","_law_most","_law_trial_here","_law_aim_here","_law_prices","_law_least","_law_table","_law_found"]) (N':=["_law_way","_law_feed_here"]) (js:=[1]) Kk rfl rfl rfl) (dG rfl T.b_range (aG (aD 2) aC)) (λ_ _ _ _=>cY) (λ_ _ _ _=>(bH FQ10 (hr.mono Dd) (aG (aD 1) aC)))) aC)))
  (aH (bJ (i:=7) xX.nd rfl (Or.inl rfl) MV)
  (aH (fD PassesOwn.never rfl (eI (bH FQ11 (hr.mono Dd) (aG (aD 2) (aG (aD 3) aC)))) (cT (i:=8) xX.nd rfl (Or.inr rfl)) (aH (bJ (i:=9) xX.nd rfl (Or.inl rfl) (bH FQ13 (hr.mono Dd) (aG (fX (dJ.of (psc:=aO KG) (N:=["_law_script","_law_feed_here","_law_ways","_law_most","_law_trial_here","_law_aim_here","_law_prices","_law_least","_law_table","_law_found"]) (N':=["_law_way","_law_trial_here","_law_aim_here","_law_prices","_law_table"]) (js:=[4,5,6,8]) Kk rfl rfl rfl) (dG rfl T.b_range (aG (aD 2) aC)) (λ_ _ _ _=>cY) (λ_ _ _ _=>(bH FQ4 (hr.mono Dd) (aG (aD 1) (aG (aD 2) (aG (aD 3) (aG (aD 4) (aG (aD 0) aC)))))))) aC)))
  (aX (lT (HG (XY (aBn (gC aAy (aD 7) MV (nomark _)) (XX (wE (bH FQ2 (hr.mono Dd) (aG (aD 9) (aG (aD 7) aC)))))))) (aX (bJ (i:=7) xX.nd rfl (Or.inl rfl) (aD 9))) iO))))
  (aH (lT (gC (GF hr.units) (bX bO (bH FQ54 (hr.mono Dd) (aG (aD 4) (aG (aD 5) (aG (aD 6) aC)))) aM (λ_ _=>rfl)) (dS (aG (dS (aG aM (aG aM aC))) (aG (aD 7) aC))) (nomark _)) (aX (cB WK)) iO)
  (aX (cB (pS (aAz hr.units) (bH FQ41 (hr.mono Dd) (aG (aD 4) (aG (bH FQ18 (hr.mono Dd) (aG (aD 4) (aG (aD 5) (aG (aD 6) aC)))) (aG (aD 5) (aG (aD 6) aC))))) (aD 7) (nomark _))))))))))))),?_⟩
 refine ⟨_,rfl,?_⟩;refine KA hS hl λp L H1 F1 s1 hp1 hL1=>?_;refine ⟨_,rfl,?_⟩;refine dQ (n:=999999) (F1.less Dd) Dd Kk λx2 H2 a2 b2 F2 s2=>?_;refine ⟨rfl,.inr ⟨_,rfl,_,_,rfl,rfl,?_⟩⟩;obtain ⟨W,hW,W23⟩:∃W:Nat,(2:Int)+(if decide (V.int x2=V.int 0)=true then 1 else 0)=(W:Int)/\(W=2\/W=3):=by
  split
  ·exact ⟨3,rfl,.inr rfl⟩
  ·exact ⟨2,rfl,.inl rfl⟩
 refine EA (congrArg V.int hW) ?_;dsimp only;refine aCR (aDE (aDC (aDD ?_)));refine lC (t:=NK _ _ _ _) (λx H'=>∃b:Bool,x=.bl b/\dA H' p L 999990/\(b=true->W=2)) (λQ' mono=>?_) ?_
 ·refine ⟨_,rfl,rfl,_,rfl,?_⟩;refine rZ (λeq=>?_) (λne=>?_)
  ·injection eq with eq;refine ⟨_,rfl,?_⟩;refine dQ (n:=999998) F2 Dd Kk λx3 H3 a3 b3 F3 s3=>?_;refine ⟨rfl,?_⟩;exact mono _ _ ⟨_,rfl,F3.less Dd,λ_=>Oo⟩
  ·exact mono _ _ ⟨false,rfl,F2.less Dd,λh=>by cases h⟩
 ·rintro _ H3 ⟨b,rfl,F3,hb⟩;refine .inr ⟨_,rfl,_,_,rfl,rfl,?_⟩;obtain ⟨M,hM,sm,M1⟩:∃M:Nat,(1:Int)+(if b=true then 1 else 0)=(M:Int)/\WE W M/\1<=M:=by
   cases b with
   | true=>exact ⟨2,rfl,.inl ⟨hb rfl,Dd⟩,Dd⟩
   | false=>exact ⟨1,rfl,by rcases W23 with h | h;exact .inl ⟨h,Dd⟩;exact .inr ⟨h,Dd⟩,Dd⟩
  refine EA (congrArg V.int hM) ?_;have M2:M<=2:=by rcases sm with h | h <;> omega
  have W2:2<=W:=Oo;have W4:W<=3:=Oo;refine ⟨_,rfl,_,rfl,?_⟩;refine CU (n:=999900) (F:=2) (W:=W) (F3.less Dd) Dd Dd W2 Oo λtv fs ws H7 F7 s7 rt TT=>?_;refine ⟨_,rfl,_,rfl,_,rfl,?_⟩;refine JZ (n:=999800) (W:=W) (M:=M) (F7.less Dd) Oo Oo Oo λav bs mix cs H10 F10 s10 ra lbs fbs shm lcs fcs=>?_;refine ⟨_,rfl,_,rfl,Oo,Oo,?_⟩;refine tH (dA.like (p:=p) (L:=L) λi=>999800-3*i) F10 (λi y H'=>∃f:Fr,cA H' (fN f) y/\EZ f) (λi y Ha Hb s ⟨x,h1,h2⟩=>⟨x,h1.flat s (cU x),h2⟩) Oo (λi H' Q' hi F' s' k'=>?_) (λD ys H11 hD e11 F11 s11 hy11 hr11=>?_)
  ·refine ⟨_,rfl,?_⟩;refine yY (n:=999800-3*(i+1)) (F'.less Oo) λv f H2 T2 s2 r2 f2=>?_;exact k' _ H2 T2 s2 ⟨f,r2,f2⟩
  obtain ⟨ps,lps,rps,fps⟩:=BO hr11;refine ⟨D,_,rfl,.inl ⟨fI.of e11,λl12 hl12=>?_⟩⟩;have s12:=aU.upd (o:=.tup ys) hl12;have e12:(upd H11 l12 (.tup ys)) l12=some (.tup ys):=bK;generalize upd H11 l12 (.tup ys)=H12 at s12 e12;have t7:dC H7 H12:=((F7.t s10).trans (F10.t s11)).trans s12.t;have t10:dC H10 H12:=(F10.t s11).trans s12.t;have hrise:(rise 2 M).length<=20:=by
   have:M=1\/M=2:=Oo;rcases this with rfl | rfl <;> decide
  have I12:jT H12 tv av (.ref l12) fs ws bs mix ps cs 2 W M:=⟨rt.flat t7 (lV _ _),ra.flat t10 (vA _ _ _ _),cA.tup e12 (rps.same s12),TT,⟨Dd,Dd⟩,⟨W2,Oo⟩,⟨Oo,hrise⟩,lbs,fbs,shm,Oo,fps,lcs,fcs⟩;clear rt ra rps e12 t7 t10 F11 F10 F7 s7 s10 s11 s12 hr11 e11 F3 F2 s2 hl12 hD TT shm lbs fbs lcs fcs fps lps;refine ⟨_,rfl,_,rfl,?_⟩;refine AM sm λL8 ys8 H8 s8 e8 p8=>?_;have I8:=I12.t s8.t;refine ⟨L8,rfl,⟨_,fI.of e8⟩,?_⟩;have hn:=I8.n;obtain ⟨N,hN⟩:∃N,N=lJ M fC fC (dens ps) (dens cs):=⟨_,rfl⟩;rw [<-hN] at hn;have sz:∀{q:Rat} {B:Nat},Qn N B q->B<=100000->oP 4000 (eS q):=λh hB=>qS h.fq hn.1 (aV hn.2 (aJ Dd Dd)) (aK hB (aK (show 100000<=2^20 by decide) (aJ Dd Dd)));refine kA (xs:=ys8) (λj σ H'=>∃(ol o8 o9:Option V),σ=[some (.ref a),some (.ref p),some (.int (W:Int)),some (.int (M:Int)),some tv,some av,some (.ref l12),ol,o8,o9]/\aU H8 H'/\LsT H' N (EX W M ws mix ps cs) ((iT M W (rJ M)).take j) ol) ⟨_,_,_,rfl,aU.refl _,.inl ⟨rfl,rfl⟩⟩ (λj σ H' _ ⟨_,_,_,_,s',_⟩=>fI.of (s' _ _ e8)) ?_ ?_
  ·rintro j y σ H9 hy ⟨ol,o8,o9,rfl,S9,least⟩;obtain ⟨t,ht,rt⟩:=rB p8 hy;have htm:=aF ht;obtain ⟨D,rfl,hD⟩:=rt.same S9;have I9:=I8.t S9.t;obtain ⟨G,hval⟩:=NE htm;obtain ⟨gvt,hgvt⟩:∃gvt:Nat->Rat,gvt=λi=>vR 2 (cL (ws.getD i ("",[])).2) (cL mix i) (cL ps i) (cL cs) (gT t) i M [0,0]:=⟨_,rfl⟩;have hpr:EX W M ws mix ps cs t=cD W gvt:=by rw [hgvt];rfl
   refine ⟨_,rfl,_,rfl,Oo,Oo,?_⟩;rw [Int.toNat_natCast];refine jR (λi y H'=>∃f:Fr,cA H' (fN f) y/\f=eS (gvt i)/\Qn N 21000 (gvt i)) (λi y H1 H2 s ⟨f,r,h⟩=>⟨f,r.flat s (cU _),h⟩) Oo (λi H' Q' hi s' k'=>?_) (λD2 ys2 H10 hD2 e10 s10 hy10 hr10=>?_)
   ·refine ⟨_,rfl,_,rfl,_,rfl,_,rfl,_,rfl,?_⟩;rw [show (0:Int)+(i:Nat)=(i:Int) from Int.zero_add _];have hx:ws[i]?=some (ws.getD i ("",[])):=by
     have:=aB (show i<ws.length by rw [I9.T.w];exact hi);rw [bM,this];rfl
    refine AN (I9.t s'.t) M2 (s' _ _ hD) hval G hi hx λv H2 s2 r2 q2=>?_;rw [<-hN] at q2;exact k' v H2 s2 ⟨_,r2,by rw [hgvt],by rw [hgvt];exact q2⟩
   obtain ⟨ffs,lf,rf,pf⟩:=IT (P:=λi f=>f=eS (gvt i)/\Qn N 21000 (gvt i)) hr10;have ef:ffs=(List.range W).map λi=>eS (gvt i):=by
    refine List.ext_getElem? λi=>?_;rw [aN];by_cases hi:i<W
    ·rw [cK hi];have h:=aB (show i<ffs.length by omega);rw [h,(pf i _ h).1];rfl
    ·rw [dF Oo,dF (by rw [bD];omega)];rfl
   have gq:∀i,i<W->Qn N 21000 (gvt i):=λi hi=>(pf i _ (aB (show i<ffs.length by omega))).2;have fl:∀f∈ffs,Fn N 21000 f:=λf hf=>by
    obtain ⟨i,h⟩:=eT.mp hf;rw [(pf i f h).1];exact (pf i f h).2.fq
   refine CV e10 (pM.of rf) (mO fl hn.1 (aV hn.2 (aJ Dd Dd)) Oo (aK (show 21000<=2^20 by decide) (aJ Dd Dd))) λv11 H11 s11 r11=>?_;rw [ef,wI (f:=gvt) λi _=>⟨bG _,cW _⟩,show eW (List.range W) gvt=EX W M ws mix ps cs t from hpr.symm] at r11;have pq:Qn N 100000 (EX W M ws mix ps cs t):=by rw [hpr];exact (Qn.sumR gq).le Oo
   have S11:=s10.trans s11;have least':=least.same S11;have htake:(iT M W (rJ M)).take (j+1)=(iT M W (rJ M)).take j++[t]:=by rw [eP,ht];rfl
   refine ⟨λb H'=>H'=H11/\(b=true->∀t' ∈ (iT M W (rJ M)).take j,EX W M ws mix ps cs t<=EX W M ws mix ps cs t')/\(b=false->∃v m,ol=some v/\cA H11 (fN (eS m)) v/\Qn N 100000 m/\(∃t∈(iT M W (rJ M)).take j,EX W M ws mix ps cs t=m)/\(∀t∈(iT M W (rJ M)).take j,m<=EX W M ws mix ps cs t)/\m<=EX W M ws mix ps cs t),?_,?_⟩
   ·rcases least' with ⟨h0,rfl⟩ | ⟨v,m,rfl,rv',mq,hex,hall⟩
    ·refine ⟨_,rfl,rfl,_,rfl,?_⟩;refine PP ⟨rfl,λ_ t' ht'=>by (rw [h0] at ht';cases ht'),λh=>by cases h⟩
    ·obtain ⟨bv,rfl,hbv⟩:=QB rv';refine ⟨_,rfl,rfl,_,rfl,?_⟩;refine PR ?_;refine ⟨_,rfl,_,rfl,?_⟩;refine yZ (fP.of r11) (fP.of rv') (sz pq Dd) (sz mq Dd) ?_;have lt:=WX (bG (EX W M ws mix ps cs t)).pos (bG m).pos;rw [cW,cW] at lt;refine ⟨_,rfl,rfl,λh t' ht'=>?_,λh=>?_⟩
     ·have h1:=lt.mp (of_decide_eq_true h);have h2:=hall t' ht';grind
     ·refine ⟨_,m,rfl,rv',mq,hex,hall,?_⟩;have h1:¬EX W M ws mix ps cs t<m:=λq=>of_decide_eq_false h (lt.mpr q);grind
   ·rintro b H' ⟨rfl,hT,hF⟩;cases b with
    | true =>
     refine PP ⟨_,rfl,?_⟩;refine ⟨_,_,_,rfl,S9.trans S11,.inr ⟨v11,EX W M ws mix ps cs t,rfl,r11,pq,⟨t,by rw [htake];exact bI _ (aY.mpr rfl),rfl⟩,λt' ht'=>?_⟩⟩;rw [htake] at ht';rcases cE.mp ht' with h | h
     ·exact hT rfl t' h
     ·rw [aY.mp h];exact Rat.le_refl
    | false =>
     obtain ⟨v,m,rfl,rv',mq,⟨t0,ht0,e0⟩,hall,hle⟩:=hF rfl;refine PR ?_;refine ⟨_,_,_,rfl,S9.trans S11,.inr ⟨v,m,rfl,rv',mq,⟨t0,by rw [htake];exact bZ _ ht0,e0⟩,λt' ht'=>?_⟩⟩;rw [htake] at ht';rcases cE.mp ht' with h | h
     ·exact hall t' h
     ·rw [aY.mp h];exact hle
  ·rintro σ H9 ⟨ol,o8,o9,rfl,S9,least⟩;rw [<-p8.length,cN] at least;have I9:=I8.t S9.t;obtain ⟨tb,htb,etb⟩:=I9.tab_eq;rcases least with ⟨h0,_⟩ | ⟨v,m,rfl,rv',mq,⟨t0,ht0,e0⟩,hall⟩
   ·rw [h0] at htb;cases htb
   have em:m=wor 2 W M (fW ws) mix ps cs [0,0]:=by
    have h1:=hall tb htb;have h2:=I9.tab_ge ht0;rw [e0] at h2;rw [etb] at h1;grind
   subst em;refine ⟨_,rfl,_,rfl,_,rfl,?_⟩;refine CQ I9.rt I9.T.f I9.ra I9.rp I9.wo I9.T.b λv17 H17 s17 r17=>?_;obtain ⟨a17,x17,rfl,h17,rx17⟩:=kH r17;have I17:=I9.t s17.t;obtain ⟨y0,hy0,ry0⟩:=aT.atX (i:=0) (a:=List.replicate 2 0) rx17 (KI Oo M);refine mP h17 (dU (j:=0) hy0) ?_;refine rK (by show 2<=64;decide) λq18 H18 hq18 e18 s18=>?_;refine ⟨_,rfl,?_⟩;refine rK (by show 2<=64;decide) λq19 H19 hq19 e19 s19=>?_;have S19:=(s17.trans s18).trans s19;refine reD (ry0.same (s18.trans s19)) (cA.tup e19 (aT.cons (d:=mL [0,0]) (pJ (s19 _ _ e18)) (aT.cons (rv'.same S19) aT.nil))) ?_ ?_ ?_
   ·exact zK _ _
   ·exact zK _ _
   ·have e0:HE 2 W M (fW ws) mix ps cs (List.replicate 2 0)=eS (wor 2 W M (fW ws) mix ps cs [0,0]):=rfl;rw [e0,show (List.replicate 2 0:List Nat)=[0,0] from rfl,xS (.tuple [mL [0,0],fN (eS (wor 2 W M (fW ws) mix ps cs [0,0]))]) rfl];refine ⟨_,rfl,PR ?_⟩;have I19:=I9.t S19.t;refine ⟨_,rfl,_,rfl,_,rfl,_,rfl,?_⟩;refine FS I19.rt I19.T.f I19.ra I19.rp I19.wg λrv best H20 s20 rw20 PL hbst=>?_;have I20:=I19.t s20.t;have bw:∀c∈rise 2 M,best c<=W:=λc hc=>aA2 (hbst c hc);have RO:=TD PL bw (by have:=I20.m;omega);refine ⟨_,rfl,_,rfl,?_⟩;refine CT I20.rt rw20 I20.ra I20.rp RO Dd Dd Oo Oo I20.trq (I20.aimq RO (aL _)) I20.np.1 I20.np.2 I20.pl (vJ I20.p) λv21 H21 s21 r21=>?_;rw [I20.bestp PL hbst,e0] at r21;refine ⟨_,rfl,?_⟩;refine reD r21 (rv'.same ((S19.trans s20).trans s21)) ?_ ?_ ?_
    ·exact (pQ.fr _).ok
    ·exact (pQ.fr _).ok
    ·rw [xS (fN (eS (wor 2 W M (fW ws) mix ps cs [0,0]))) rfl];exact k H21
end
theorem UT{K:PySem.W.Frag}{C:Addr}:∀f∈([]:List Str),lF K C f:=λ_ h=>by cases h
theorem qK{K:PySem.W.Frag}{C:Addr}{g:Str}{fs:List Str}(h:lF K C g)(r:∀f∈fs,lF K C f):∀f∈g::fs,lF K C f:=λf hf=>by
 rcases bF.mp hf with rfl | hf
 ·exact h
 ·exact r f hf
theorem aDI{α:Type}{us:List α}(h:us.length=1):∃a,us=[a]:=match us,h with | [a],_=>⟨a,rfl⟩
theorem aDH{α:Type}{us:List α}(h:us.length=2):∃a b,us=[a,b]:=match us,h with | [a,b],_=>⟨a,b,rfl⟩
theorem aBX{α:Type}{us:List α}(h:us.length=3):∃a b c,us=[a,b,c]:=match us,h with | [a,b,c],_=>⟨a,b,c,rfl⟩
theorem aDG{α:Type}{us:List α}(h:us.length=4):∃a b c d,us=[a,b,c,d]:=match us,h with | [a,b,c,d],_=>⟨a,b,c,d,rfl⟩
theorem aDF{α:Type}{us:List α}(h:us.length=5):∃a b c d e,us=[a,b,c,d,e]:=match us,h with | [a,b,c,d,e],_=>⟨a,b,c,d,e,rfl⟩
theorem aAR{K:PySem.W.Frag}{x q:Str}{st:Stmt}{f:Addr}{fd:FuncData}(F:iV K x q st f fd)(P:FuncData->Prop)(h:P fd):∃fd,P fd:=⟨fd,h⟩
inductive Dn (K:PySem.W.Frag) (n:Str) (st:Stmt):Prop
 | mk {f:Addr} {oc:Value} {od:Option Addr} {kV dc pm:Value} {an:Option Addr} {cd ct:Value} {sl:Array (Option Value)} (a:PySem.W.nsIn K mainGlobals n=some (some (.ref f))) (l:K.lookup f=some ⟨oc,od,.func (PySem.W.fnOf n n (pH st) (kP st) (aO st) .none kV dc pm an cd ct),sl⟩) (c:PySem.W.codeIn K cd n=true) (k:PySem.W.keepIn K (.ref f)=true):Dn K n st
theorem fnd(l:PySem.W.OpenLaw)(w:World){K:PySem.W.Frag}{h:Heap}{mg:Str->Option Value}(X:K.In h)(G:h.Ns mainGlobals mg)(base:Heap){n:Str}{st:Stmt}{L:Nat}{ps:List Str}{sp:Sp}(d:Dn K n st)(o:∀{f:Addr}{fd:FuncData},iV K n n st f fd->dM l.prog w K mg base cS L f fd ps sp)(b:∀(kV doc pm:Value) (an:Option Addr) (cdv ct:Value) (us:List Value),us.length=ps.length->bindArgs (PySem.W.fnOf n n (pH st) (kP st) (aO st) .none kV doc pm an cdv ct) ⟨us,[]⟩=pure (ps.zip us):=by intro _ _ _ _ _ _ us hl;first | (obtain ⟨_,rfl⟩:=aDI hl;rfl) | (obtain ⟨_,_,rfl⟩:=aDH hl;rfl) | (obtain ⟨_,_,_,rfl⟩:=aBX hl;rfl) | (obtain ⟨_,_,_,_,rfl⟩:=aDG hl;rfl) | (obtain ⟨_,_,_,_,_,rfl⟩:=aDF hl;rfl)):eZ cS l.prog w K mg base L n ps sp:=by
 obtain ⟨a,l',c,k⟩:=d;exact ⟨_,_,o (BN l' c k),PySem.W.mg_of X G a,k,(BN l' c k).binds b⟩
open PySem.W (nsIn fnOf codeIn keepIn mg_of mg_none_of) in
theorem aA5{l:PySem.W.OpenLaw}{w:World}{K:PySem.W.Frag}{h:Heap}{mg:Str->Option Value}{fa:Addr}{c_ONE:Addr}{c_NOUGHT:Addr}{c_Weighing:Addr}{tok_LOOKS_ON:Tok}(X:K.In h)(G:h.Ns mainGlobals mg)(hfa:mg "law" = some (.ref fa))
  (u_ONE:nsIn K mainGlobals "ONE" = some (some (.ref c_ONE)))
  (u_NOUGHT:nsIn K mainGlobals "NOUGHT" = some (some (.ref c_NOUGHT)))
  (u_Weighing:nsIn K mainGlobals "Weighing" = some (some (.ref c_Weighing)))
  (u_LOOKS_ON:nsIn K mainGlobals "LOOKS_ON" = some (some (.int 0 tok_LOOKS_ON)))
  (mi_Weighing:PySem.W.makesIn K c_Weighing=true)
  (pg_Weighing:PySem.W.plainGet K c_Weighing Str.empty=true)
  (hd_Weighing:PySem.W.hasDictIn K c_Weighing=true)
  (po_Weighing:PySem.W.plainOver K c_Weighing=true)
  (sa_Weighing:PySem.W.findIn K (.ref c_Weighing) "__setattr__" = some (some (.builtin "object.__setattr__")))
  (n0_Weighing:PySem.W.findIn K (.ref c_Weighing) "rising" = some none)
  (n1_Weighing:PySem.W.findIn K (.ref c_Weighing) "units" = some none)
  (n2_Weighing:PySem.W.findIn K (.ref c_Weighing) "weights" = some none)
  (n3_Weighing:PySem.W.findIn K (.ref c_Weighing) "cost_unit" = some none)
  (n4_Weighing:PySem.W.findIn K (.ref c_Weighing) "costs" = some none)
  (o_ONE:sB K c_ONE [1,1]=true)
  (o_NOUGHT:sB K c_NOUGHT [0,1]=true)
  (d0:Dn K "_law_feed" sQ6)
  (d1:Dn K "_law_draw" sQ5)
  (d2:Dn K "_law_frac" sQ7)
  (d3:Dn K "_law_shares" sQ9)
  (d4:Dn K "_law_trial" NW)
  (d5:Dn K "_law_bound" sQ3)
  (d6:Dn K "_law_some" ZU)
  (d7:Dn K "_law_aim" sQ1)
  (d8:Dn K "common_divisor" ZO)
  (d9:Dn K "plus" ZC)
  (d10:Dn K "times" YZ)
  (d11:Dn K "less" ZG)
  (d12:Dn K "is_less" ZI)
  (d13:Dn K "total" YX)
  (d14:Dn K "least_place" ZH)
  (d15:Dn K "ways_of" YV)
  (d16:Dn K "way_shares" YW)
  (d17:Dn K "power" ZB)
  (d18:Dn K "weight" YU)
  (d19:Dn K "faces_of" ZK)
  (d20:Dn K "counts_that_are" NU)
  (d21:Dn K "all_counts" ZQ)
  (d22:Dn K "one_more" ZE)
  (d23:Dn K "ones_more" SW)
  (d24:Dn K "sums_at" DA)
  (d25:Dn K "worths" SN)
  (d26:Dn K "_law_plus" sQ8)
  (d27:Dn K "_law_times" ZS)
  (d28:Dn K "_law_total" ZR)
  (d29:Dn K "_law_below" sQ2)
  (d30:Dn K "common_lower" ZN)
  (d31:Dn K "times_whole" YY)
  (d32:Dn K "in_units" ZJ)
  (d33:Dn K "look_cost" SY)
  (a34:PySem.W.findIn K (.ref c_Weighing) "__init__" = some (some (.ref f34))) (l34:K.lookup f34=some ⟨oc34,od34,.func (fnOf "__init__" "Weighing.__init__" (pH TC) (kP TC) (aO TC) .none kV34 dc34 pm34 an34 cd34 ct34),sl34⟩) (c34:codeIn K cd34 "Weighing.__init__" = true) (k34:keepIn K (.ref f34)=true) (fn34:PySem.W.isFn K (.ref f34)=true) (kp34:keepIn K (.ref c_Weighing)=true)
  (d35:Dn K "weights_at" SO)
  (d36:Dn K "best_places" KH)
  (d37:Dn K "looks_on" ZF)
  (d38:Dn K "noughts" SX)
  (d39:Dn K "plain_table" SU)
  (d40:Dn K "counts_behind" ZM)
  (d41:Dn K "counts_come_to" ZL)
  (d42:Dn K "rule_within" SS)
  (d43:Dn K "best_rule" NV)
  (d44:Dn K "rule_faces" ZA)
  (d45:Dn K "amounts" TB)
  (d46:Dn K "comings" ZP)
  (d47:Dn K "said_of" SR)
  (d48:Dn K "onwards" SV)
  (d49:Dn K "spent" SQ)
  (d50:Dn K "wrong" YT)
  (d51:Dn K "cost" SZ)
  (d52:Dn K "priced" ST)
  (d53:Dn K "_law_tables" ZT)
  (d54:Dn K "_law_by_rows" sQ4)
  (d55:Dn K "law" KG) (z0:nsIn K mainGlobals "list" = some none) (z1:nsIn K mainGlobals "len" = some none) (z2:nsIn K mainGlobals "abs" = some none) (z3:nsIn K mainGlobals "range" = some none) (z4:nsIn K mainGlobals "sum" = some none) (z5:nsIn K mainGlobals "zip" = some none) (z6:nsIn K mainGlobals "reversed" = some none) (z7:nsIn K mainGlobals "tuple" = some none) (z8:nsIn K mainGlobals "repr" = some none) (z9:nsIn K mainGlobals "sorted" = some none) (z10:nsIn K mainGlobals "int" = some none) (z11:nsIn K mainGlobals "dict" = some none) (z12:nsIn K mainGlobals "min" = some none) (z13:nsIn K mainGlobals "isinstance" = some none) :
  ∃fd:FuncData,(∀(s:Shared) (v:Value),BindsTo s fd ⟨[v],[]⟩ [("_law_script",v)])/\∀base:Heap,K.In base->base.Ns mainGlobals mg->dM l.prog w K mg base cS 10 fa fd ["_law_script"] (tY K):=by
 obtain ⟨a55,l55,c55,k55⟩:=d55;have e:=hfa.symm.trans (mg_of X G a55);cases e;generalize hcl:(⟨c_ONE,c_NOUGHT,c_Weighing,tok_LOOKS_ON⟩:Cl)=c;have T:kD K mg c:=by rw [<-hcl];exact ⟨mg_none_of X G z0,mg_none_of X G z1,mg_none_of X G z2,mg_none_of X G z3,mg_none_of X G z4,mg_none_of X G z5,mg_none_of X G z6,mg_none_of X G z7,mg_none_of X G z8,mg_none_of X G z9,mg_none_of X G z10,mg_none_of X G z11,mg_none_of X G z12,mg_none_of X G z13,mg_of X G u_ONE,mg_of X G u_NOUGHT,mg_of X G u_LOOKS_ON,mg_of X G u_Weighing,⟨⟨pg_Weighing,hd_Weighing,po_Weighing,sa_Weighing⟩,(qK n0_Weighing (qK n1_Weighing (qK n2_Weighing (qK n3_Weighing (qK n4_Weighing UT)))))⟩,o_ONE,o_NOUGHT⟩
 have F55:=BN (st:=KG) l55 c55 k55;refine aAR F55 _ ⟨λs v=>.of_eq rfl,λbase _ _=>?_⟩;have N:=@fnd l w K h mg X G base;have GQ6:=N d0 λF=>oQ6 F T;have GQ5:=N d1 λF=>oQ5 F T;have GQ7:=N d2 λF=>oQ7 F T;have GQ9:=N d3 λF=>oQ9 F T GQ5 GQ7;have GQ14:=N d4 λF=>aDx F T GQ5 GQ9;have GQ3:=N d5 λF=>oQ3 F T GQ5 GQ7;have GQ10:=N d6 λF=>aDB F T GQ5 GQ7;have GQ1:=N d7 λF=>oQ1 F T GQ3 GQ9 GQ10;have GQ20:=N d8 λF=>aDr F T;have GQ39:=N d9 λF=>aC8 F T GQ20;have GQ47:=N d10 λF=>aC0 F T GQ20;have GQ31:=N d11 λF=>aDg F T GQ39;have GQ28:=N d12 λF=>aDj F T;have GQ49:=N d13 λF=>aCY F T GQ39;have GQ30:=N d14 λF=>aDh F T GQ28;have GQ51:=N d15 λF=>aCW F T;have GQ50:=N d16 λF=>aCX F T;have GQ40:=N d17 λF=>aC7 F T;have GQ52:=N d18 λF=>aCV F T GQ50 GQ47 GQ40;have GQ26:=N d19 λF=>aDl F T;have GQ25:∀n:Nat,eZ cS l.prog w K mg base (1+n) "counts_that_are" ["faces","many"] (mF n):=λn=>by
  induction n with
  | zero=>exact N d20 λF=>aCC F T
  | succ n ih=>exact N d20 λF=>aDm n F T ih
 have GQ15:=N d21 λF=>aDw F T (GQ25 4);have GQ35:=N d22 λF=>aDc F T;have GQ36:=N d23 λF=>aDb F T GQ35;have GQ46:=N d24 λF=>aC1 F T GQ52 GQ51 GQ47 GQ49 GQ31 GQ36 GQ39;have GQ54:=N d25 λF=>aCT F T GQ15 GQ26 GQ46 GQ30;have GQ8:=N d26 λF=>oQ8 F T GQ7;have GQ12:=N d27 λF=>aDz F T GQ7;have GQ13:=N d28 λF=>aDy F T GQ8;have GQ2:=N d29 λF=>oQ2 F T;have GQ21:=N d30 λF=>aDq F T GQ20;have GQ48:=N d31 λF=>aCZ F T;have GQ27:=N d32 λF=>aDk F T GQ48;have GQ32:=N d33 λF=>aDf F T GQ47 GQ52 GQ51 GQ49;have F34:=BN (st:=TC) l34 c34 k34;have b34:=F34.binds (ps:=["self","trial","aim"]) λ_ _ _ _ _ _ us hl=>by obtain ⟨_,_,_,rfl⟩:=aBX (show us.length=3 from hl);rfl
 have GQ0:FnO l.prog w K mg base 7 c.Weighing ["self","trial","aim"] (qY c.Weighing):=⟨_,_,oQ0 F34 T GQ15 GQ26 GQ51 GQ52 GQ21 GQ27 GQ32,⟨(by rw [<-hcl];exact mi_Weighing),(by rw [<-hcl];exact a34),fn34,(by rw [<-hcl];exact kp34)⟩,b34⟩;have GQ53:=N d35 λF=>aCU F T;have GQ17:=N d36 λF=>aDu F T GQ53 GQ36;have GQ33:=N d37 λF=>aDe F T;have GQ34:=N d38 λF=>aDd F T;have GQ38:=N d39 λF=>aC9 F T;have GQ23:=N d40 λF=>aDo F T GQ33 GQ36;have GQ24:=N d41 λF=>aDn F T GQ34 GQ23;have GQ43:=N d42 λF=>aC4 F T GQ24;have GQ18:=N d43 λF=>aDt F T GQ0 GQ47 GQ21 GQ48 GQ17 GQ43 GQ26 GQ38;have GQ42:=N d44 λF=>aC5 F T;have GQ16:=N d45 λF=>aDv F T GQ34 GQ42 GQ33 GQ47 GQ36 GQ39;have GQ19:=N d46 λF=>aDs F T GQ16 GQ47 GQ52;have GQ44:=N d47 λF=>aC3 F T GQ49 GQ47;have GQ37:=N d48 λF=>aDa F T GQ19 GQ47 GQ33;have GQ45:=N d49 λF=>aC2 F T GQ49 GQ47 GQ37;have GQ55:=N d50 λF=>aCS F T GQ51 GQ31 GQ44 GQ19;have GQ22:=N d51 λF=>aDp F T GQ51 GQ49 GQ47 GQ45;have GQ41:=N d52 λF=>aC6 F T GQ47 GQ55 GQ39 GQ22 GQ49;have GQ11:=N d53 λF=>aDA F T;have GQ4:=N d54 λF=>oQ4 F T GQ8 GQ12;exact aDi F55 T GQ6 GQ5 GQ14 GQ1 GQ10 GQ11 GQ4 GQ13 GQ2 GQ54 GQ18 GQ41
end Kw
namespace PySem.W.Fast
def tw8907242643830589601 := ()
def tw5233698995422710760 := ()
def tw17566865026226816348 := ()
def tw6076276430224424090 := ()
def tw1780673448328382966 := ()
def tw14552299884164902080 := ()
def tw16585314280598801463 := ()
def tw4274201023509520971 := ()
def tw12041288358081113364 := ()
def tw4749353490273301142 := ()
def tw8842986126907810963 := ()
def tw6572712922515613154 := ()
def tw6776529941997552113 := ()
def tw6057584266901382445 := ()
def tw8215179744366960038 := ()
def tw8014886620127767148 := ()
def tw11380583858974522456 := ()
def tw17165146634352572344 := ()
def tw12121134294804211829 := ()
def tw11929471254310834271 := ()
def tw5952231723167937883 := ()
def tw17829769892222407164 := ()
def tw2423275215337061652 := ()
def tw16597435945769516612 := ()
def tw7874677034546674026 := ()
def tw4409267399943256230 := ()
def tw9314190035080226925 := ()
def tw10259476034823537292 := ()
def tw18235917798066163195 := ()
def tw7091912042089699013 := ()
def tw8826428357141974870 := ()
def tw6644702967919484482 := ()
def tw143960920863998237 := ()
def tw11936735062926573128 := ()
end PySem.W.Fast
open PySem PySem.W PyProof.Rows
set_option maxRecDepth 100000 in
set_option maxHeartbeats 0 in
theorem PySem.Challenge.cw_earlystop_k48_whole_no_plain_rule_is_che_holds : PySem.Challenge.rw_earlystop_k48_whole_no_plain_rule_is_che.Holds := by
  w_on;o_law;k_head;(case hw=>w_witness2)
  k_fill
  refine L2.MY (l:=PySem.Challenge.rw_earlystop_k48_whole_no_plain_rule_is_che) (n:=63) (k:=10) (x := "_law_script") (CX:=L2.cS) (sp:=λK=>Kw.tY K) rfl Dd rfl ⟨rfl,Dd,Dd,rfl⟩ (λw h Y=>PySem.W.kIn_of Y) ?F (λK H a ns hl _ hS=>Kw.NQ hS hl) (λ_ _ _ _ z=>z)
  case F =>
    intro w mg fa h KX G hmg
    refine' Kw.aA5 KX G hmg ?u_ONE ?u_NOUGHT ?u_Weighing ?u_LOOKS_ON ?mi_Weighing ?pg_Weighing ?hd_Weighing ?po_Weighing ?sa_Weighing ?n0_Weighing ?n1_Weighing ?n2_Weighing ?n3_Weighing ?n4_Weighing ?o_ONE ?o_NOUGHT ?d0 ?d1 ?d2 ?d3 ?d4 ?d5 ?d6 ?d7 ?d8 ?d9 ?d10 ?d11 ?d12 ?d13 ?d14 ?d15 ?d16 ?d17 ?d18 ?d19 ?d20 ?d21 ?d22 ?d23 ?d24 ?d25 ?d26 ?d27 ?d28 ?d29 ?d30 ?d31 ?d32 ?d33 ?a34 ?l34 ?c34 ?k34 ?fn34 ?kp34 ?d35 ?d36 ?d37 ?d38 ?d39 ?d40 ?d41 ?d42 ?d43 ?d44 ?d45 ?d46 ?d47 ?d48 ?d49 ?d50 ?d51 ?d52 ?d53 ?d54 ?d55 ?z0 ?z1 ?z2 ?z3 ?z4 ?z5 ?z6 ?z7 ?z8 ?z9 ?z10 ?z11 ?z12 ?z13
    (case u_ONE|u_NOUGHT|u_Weighing|u_LOOKS_ON|mi_Weighing|pg_Weighing|hd_Weighing|po_Weighing|sa_Weighing|n0_Weighing|n1_Weighing|n2_Weighing|n3_Weighing|n4_Weighing|a34|l34|c34|k34|fn34|kp34|z0|z1|z2|z3|z4|z5|z6|z7|z8|z9|z10|z11|z12|z13=>k_is);(case d0|d1|d2|d3|d4|d5|d6|d7|d8|d9|d10|d11|d12|d13|d14|d15|d16|d17|d18|d19|d20|d21|d22|d23|d24|d25|d26|d27|d28|d29|d30|d31|d32|d33|d35|d36|d37|d38|d39|d40|d41|d42|d43|d44|d45|d46|d47|d48|d49|d50|d51|d52|d53|d54|d55=>refine' Kw.Dn.mk ?a ?l ?c ?k;(case a=>k_is);(case l=>k_is);(case c=>k_is);(case k=>k_is));(case o_ONE=>kernel_rfl);(case o_NOUGHT=>kernel_rfl)
