import PyProof.Rows.All
import Wide.All
import OpenK.AllK
import Wide.FinOn
import Lean
import PyProof.EqAt
import PyProof.EqKinds
import PyProof.TupleCall
import KE.IntBitsLaws
import PyProof.ZipIter
import KE.KRevIter
import PyProof.ListMulRoad
import PyProof.AutoListH
import PyProof.Rows.SeqMore
import PyProof.Rows.SumAny
import PyProof.SliceStr2
import PyProof.WalksMore
import KE.KSortTup
import PyProof.AttrMissHeap
import PyProof.TupleIter
import KE.KDictOf
import PyProof.DictWalks
import PyProof.DictValues
import KE.KDictList
import PyProof.Rows.MinMaxN
import PyProof.Rows.TupDisplay
import PyProof.DictTruth
import PyProof.Rows.SortRev
import PyProof.Rows.CallKwBuiltin
import PyProof.ListRange
import PySem.Challenge.RW_earlystop_k47_best_rules
set_option Elab.async false
set_option linter.all false
set_option maxHeartbeats 0
set_option maxRecDepth 100000
theorem Oo{p:Prop}(h:p:=by omega):p:=h
theorem Dd{p:Prop}(h:p:=by decide):p:=h
theorem Kk{p:Prop}(h:p:=by decide +kernel):p:=h
namespace PySem
abbrev aA:=@List.length_map
abbrev aB:=@List.getElem?_eq_getElem
abbrev aC:=@Heap.get?_push_of_some
abbrev aF:=@List.getElem?_eq_some_iff
abbrev aG:=@List.mem_of_getElem?
abbrev aI:=@Nat.le_refl
abbrev aK:=@Nat.le_trans
abbrev aM:=@List.getElem?_map
abbrev aN:=@List.mem_append_right
abbrev aO:=@Nat.lt_of_lt_of_le
abbrev aP:=@Nat.pow_le_pow_right
abbrev aR:=@List.mem_cons_of_mem
abbrev aS:=@List.size_toArray
abbrev aT:=@Heap.lt_size
abbrev aU:=@List.mem_cons_self
abbrev aV:=@List.mem_map
abbrev aZ:=@List.length_range
abbrev bA:=@Nat.lt_of_le_of_lt
abbrev bB:=@Heap.get?_push_size
abbrev bC:=@List.mem_cons
abbrev bE:=@List.length_append
abbrev bF:=@List.map_append
abbrev bG:=@List.mem_singleton
abbrev bH:=@List.map_cons
abbrev bI:=@Nat.lt_irrefl
abbrev bJ:=@List.getD_eq_getElem?_getD
abbrev bN:=@Bool.false_ne_true
abbrev bO:=@Nat.mul_le_mul_right
abbrev bR:=@List.mem_range
abbrev bU:=@List.length_cons
abbrev bV:=@List.mem_append_left
abbrev bX:=@List.mem_append
abbrev bY:=@Classical.byContradiction
abbrev cE:=@Nat.zero_le
abbrev cG:=@Nat.ne_of_lt
abbrev cH:=@decide_eq_false
abbrev cJ:=@List.getElem?_range
abbrev cK:=@List.getElem?_append_left
abbrev cL:=@List.length_take
abbrev cM:=@Bool.and_eq_true
abbrev cO:=@decide_eq_true
abbrev cR:=@List.take_length
abbrev cU:=@List.getElem?_append_right
abbrev cV:=@List.mem_iff_getElem?
abbrev cW:=@List.mem_filter
abbrev dM:=@List.length_replicate
abbrev dX:=@Option.map_eq_some_iff
abbrev eB:=@List.map_congr_left
abbrev eC:=@Heap.get?_update_ne
abbrev eY:=@List.getElem?_eq_none
abbrev fA:=@Int.natAbs_mul
abbrev fC:=@Heap.size_push
abbrev fQ:=@Option.some.inj
abbrev gK:=@List.take_add_one
abbrev jS:=@Nat.le_of_dvd
abbrev lO:=@Nat.dvd_trans
abbrev mY:=@Nat.mul_pos
end PySem
open PySem
namespace L2
open PySem PySem.Spec PyProof.Rows
abbrev eZ:=Sum Int Str
def zI:eZ->Value->Bool
 | .inl k,v=>Value.isInt k v
 | .inr x,v=>Value.isStrOf x v
def aDr(w:World):eZ->Int
 | .inl k=>hashInt k
 | .inr x=>hashStr w x
theorem gJ:∀{k:eZ}{v:Value},zI k v=true->(∃i t,k=Sum.inl i/\v=Value.int i t)\/(∃x t,k=Sum.inr x/\v=Value.str x t)
 | .inl i,v,h=>by
  obtain ⟨t,e⟩:=Value.isInt_shape (k:=i) (v:=v) h;exact .inl ⟨i,t,rfl,e⟩
 | .inr x,v,h=>by
  obtain ⟨t,e⟩:=Value.isStrOf_shape (x:=x) (v:=v) h;exact .inr ⟨x,t,rfl,e⟩
theorem LO(i:Int)(t:Tok):zI (.inl i) (.int i t)=true:=by simp [zI,Value.isInt]
theorem LN(x:Str)(t:Tok):zI (.inr x) (.str x t)=true:=by simp [zI,Value.isStrOf]
theorem aAE(a b:Int):decide ((Sum.inl a:eZ)=Sum.inl b)=(a == b):=by
 by_cases e:a=b
 ·subst e;simp
 ·have h:¬(Sum.inl a:eZ)=Sum.inl b:=λq=>e (Sum.inl.inj q);rw [cH h];exact (beq_eq_false_iff_ne.mpr e).symm
theorem aAB(a b:Str):decide ((Sum.inr a:eZ)=Sum.inr b)=decide (a=b):=by
 by_cases e:a=b
 ·subst e;simp
 ·have h:¬(Sum.inr a:eZ)=Sum.inr b:=λq=>e (Sum.inr.inj q);rw [cH h,cH e]
theorem aAD(a:Int)(b:Str):decide ((Sum.inl a:eZ)=Sum.inr b)=false:=cH (λq=>nomatch q)
theorem aAC(a:Str)(b:Int):decide ((Sum.inr a:eZ)=Sum.inl b)=false:=cH (λq=>nomatch q)
def fS(prog:Program)(w:World):PySem.KeyKind prog w eZ where
 is:=zI
 hash:=aDr w
 inj:=λv a b ha hb=>by
  rcases gJ ha with ⟨i,t,rfl,rfl⟩ | ⟨x,t,rfl,rfl⟩
  ·rcases gJ hb with ⟨j,u,rfl,e⟩ | ⟨y,u,rfl,e⟩
   ·injection e with e1 _;rw [e1]
   ·exact nomatch e
  ·rcases gJ hb with ⟨j,u,rfl,e⟩ | ⟨y,u,rfl,e⟩
   ·exact nomatch e
   ·injection e with e1 _;rw [e1]
 byValue:=λk v h=>by
  rcases gJ h with ⟨i,t,rfl,rfl⟩ | ⟨x,t,rfl,rfl⟩ <;> rfl
 pyHash:=λhv h=>by
  rcases gJ hv with ⟨i,t,rfl,rfl⟩ | ⟨x,t,rfl,rfl⟩
  ·exact wpAny_pyHash_int h
  ·exact wpAny_pyHash_str h
 eqBool:=λhu hv h=>by
  rcases gJ hu with ⟨i,t,rfl,rfl⟩ | ⟨x,t,rfl,rfl⟩
  ·rcases gJ hv with ⟨j,u,rfl,rfl⟩ | ⟨y,u,rfl,rfl⟩
   ·rw [aAE] at h;exact wpAny_eqBool_int h
   ·rw [aAD] at h;exact SeqAt.EqAt.int_str i t y u _ _ _ _ h
  ·rcases gJ hv with ⟨j,u,rfl,rfl⟩ | ⟨y,u,rfl,rfl⟩
   ·rw [aAC] at h;exact SeqAt.EqAt.str_int x t j u _ _ _ _ h
   ·rw [aAB] at h;exact wpAny_eqBool_str h
 «strs» := λk x t v h=>by
  rcases gJ h with ⟨i,u,rfl,e⟩ | ⟨y,u,rfl,e⟩
  ·exact nomatch e
  ·injection e with e1 _;subst e1;cases v <;> rfl
theorem EC(prog:Program)(w:World)(i:Int)(t:Tok):(fS prog w).is (.inl i) (.int i t)=true:=LO i t
theorem EB(prog:Program)(w:World)(x:Str)(t:Tok):(fS prog w).is (.inr x) (.str x t)=true:=LN x t
inductive V where
 | non | bl (b:Bool) | int (i:Int) | str (x:Str) | byt (b:Array UInt8) | flt (b:UInt64) | ref (a:Addr) | ty (n:String)
 deriving DecidableEq
def dJ:V->Value->Prop
 | .non,u=>u=Value.none
 | .bl b,u=>u=Value.bool b
 | .int i,u=>∃t,u=Value.int i t
 | .str x,u=>∃t,u=Value.str x t
 | .byt b,u=>∃t,u=Value.bytes b t
 | .flt b,u=>∃t,u=Value.float b t
 | .ref a,u=>u=Value.ref a
 | .ty n,u=>u=Value.type n
abbrev cZ:List V->List Value->Prop:=Paired dJ
theorem cZ.length{xs:List V}{us:List Value}(r:cZ xs us):xs.length=us.length:=Paired.length r
theorem cZ.get:∀{xs:List V}{us:List Value}{i:Nat}{x:V},cZ xs us->xs[i]?=some x->∃u,us[i]?=some u/\dJ x u
 | _,_,_,_,.nil,e=>by simp at e
 | _,_,0,_,.cons r _,e=>by simp at e;subst e;exact ⟨_,rfl,r⟩
 | _,_,i+1,x,.cons _ t,e=>by
  obtain ⟨u,h1,h2⟩:=cZ.get (i:=i) (x:=x) t (by simpa using e);exact ⟨u,by simpa using h1,h2⟩
theorem cZ.set{x:V}{u:Value}(r:dJ x u):∀{xs:List V}{us:List Value}(i:Nat),cZ xs us->cZ (xs.set i x) (us.set i u)
 | _,_,_,.nil=>.nil
 | _,_,0,.cons _ t=>.cons r t
 | _,_,i+1,.cons q t=>.cons q (cZ.set r i t)
theorem cZ.append:∀{xs ys:List V}{us ws:List Value},cZ xs us->cZ ys ws->cZ (xs++ys) (us++ws)
 | _,_,_,_,.nil,s=>s
 | _,_,_,_,.cons r t,s=>.cons r (cZ.append t s)
theorem cZ.take:∀{xs:List V}{us:List Value}(n:Nat),cZ xs us->cZ (xs.take n) (us.take n)
 | _,_,0,_=>.nil
 | _,_,_+1,.nil=>.nil
 | _,_,n+1,.cons r t=>.cons r (cZ.take n t)
theorem cZ.drop:∀{xs:List V}{us:List Value}(n:Nat),cZ xs us->cZ (xs.drop n) (us.drop n)
 | _,_,0,r=>r
 | _,_,_+1,.nil=>.nil
 | _,_,n+1,.cons _ t=>cZ.drop n t
def rW:Option V->Option Value->Prop
 | some v,some u=>dJ v u
 | none,none=>True
 | _,_=>False
def KV{κ:Type}:List (κ × V)->List (κ × Value)->Prop:=Paired λ(p:κ × V) (q:κ × Value)=>p.1=q.1/\dJ p.2 q.2
def kV:eZ->V
 | .inl i=>.int i
 | .inr x=>.str x
inductive HO where
 /-- a list -/
 | lst (xs:List V)
 /-- a tuple (never changes) -/
 | tup (xs:List V)
 /-- a dict whose keys are ints and texts;one whose keys are tuples of ints and texts (the empty one is both) -/
 | dK (kvs:List (eZ × V)) | dT (kvs:List (List eZ × V))
 /-- a set of ints: its members,its size -/
 | set (S:Int->Bool) (n:Nat)
 /-- an instance of the class at C,its dict at dx,its attributes -/
 | ins (C dx:Addr) (fs:List (Str × V))
 /-- the dict of the instance at x -/
 | own (x:Addr)
 /-- the dict of an exception -/
 | xd (fs:List (Str × V))
 /-- a bound method,f of x -/
 | met (f x:Addr)
 /-- a range object lo,lo+1,.. below hi -/
 | rng (lo hi:Int)
 /-- a thing that is known to the object (the script;a dict while a loop walks it): read,never written while it is so -/
 | frz (o:Obj) (u:HO)
 /-- a code object's table -/
 | tbl (ps:Array Value)
 /-- any other thing,by what is true of its one object (a def of one's own: SetO a S n:=HO.ext λh=>..) -/
 | ext (φ:Heap->Prop)
abbrev Hp:=Addr->Option HO
def upd(H:Hp)(a:Addr)(o:HO):Hp:=λb=>if b=a then some o else H b
theorem bM{H:Hp}{a:Addr}{o:HO}:upd H a o a=some o:=by unfold upd;rw [if_pos rfl]
theorem cX{H:Hp}{a b:Addr}{o:HO}(h:b≠a):upd H a o b=H b:=by unfold upd;rw [if_neg h]
theorem pC{H:Hp}{a b:Addr}{o u:HO}(h:H a=some o)(h':H b=some u)(d:o≠u):a≠b:=by
 intro e;subst e;rw [h] at h';exact d (fQ h')
theorem cY{H:Hp}{a b:Addr}{o:HO}(h:H a=some o)(h':H b=none):a≠b:=by
 intro e;subst e;rw [h] at h';cases h'
section
variable(P:Program)(w:World)
def fE(H:Hp)(h:Heap)(a:Addr):HO->Prop
 | .lst xs=>xs.length<=sizeLine/\∃(its:List Value) (n:Nat),cZ xs its/\h.get? a=some { cls:=.type "list",data:=.seq its.toArray n }
 | .tup xs=>(xs.length<=sizeLine/\∃o,h.get? a=some o/\o.dict=none)/\∃its:List Value,cZ xs its/\IsTup h a its.toArray
 | .dK kvs=>kvs.length<=sizeLine/\(a == sysModules)=false/\∃vs,KV kvs vs/\h.DictOf (fS P w) a vs
 | .dT kvs=>kvs.length<=sizeLine/\(a == sysModules)=false/\∃xs:List (List eZ × Addr × Value),
   Paired (λ(p:List eZ × V) (q:List eZ × Addr × Value)=>p.1=q.1/\H q.2.1=some (.tup (p.1.map kV))/\dJ p.2 q.2.2) kvs xs /\
   ∃o es ep,h.get? a=some o/\o.ExactDict/\o.data=.dict es ep/\es.toList=xs.map (entryOfKey (tupleKind (fS P w)))/\(xs.map (·.1)).Nodup
 | .set S n=>h.SetOf (intKind P w) a S n
 | .ins C dx fs=>H dx=some (.own a)/\fs.length<=1000/\dx≠a/\h.get? a=some (PySem.W.instObj C dx) /\
   ∃mA,h.Ns1 dx mA/\(∀f,rW (fs.lookup f) (mA f))/\PySem.Within mA (fs.map (·.1))
 | .own _=>∃o,h.get? a=some o
 | .xd fs=>∃mA,h.Ns1 a mA/\∀f,rW (fs.lookup f) (mA f)
 | .rng lo hi=>∃t u v,h.get? a=some { cls:=.type "range",data:=.fields #[.int lo t,.int hi u,.int 1 v] }
 | .frz o u=>h.get? a=some o/\fE H h a u
 | .tbl ps=>h.get? a=some { cls:=.none,data:=.fields ps }
 | .met f x=>h.get? a=some (PySem.W.methodObj (.ref f) (.ref x))
 | .ext φ=>φ h/\(∃o,h.get? a=some o)/\∀h1 h2:Heap,φ h1->(∀o,h1.get? a=some o->h2.get? a=some o)->φ h2
def pF(H:Hp)(h:Heap):Prop:=∀a o,H a=some o->fE P w H h a o
end
section
variable{P:Program}{w:World}{H H':Hp}{h h':Heap}{a:Addr}{o:HO}
theorem fE.lt(x:fE P w H h a o):a<h.objs.size:=by
 cases o with
 | lst xs=>obtain ⟨_,_,_,_,e⟩:=x;exact aT e
 | tup xs=>obtain ⟨_,_,_,p⟩:=x;exact p.lt
 | dK kvs=>obtain ⟨_,_,_,_,o,_,_,e,_⟩:=x;exact aT e
 | dT kvs=>obtain ⟨_,_,_,_,o,_,_,e,_⟩:=x;exact aT e
 | set S n=>obtain ⟨o,_,_,_,e,_⟩:=x;exact aT e
 | ins C dx fs=>obtain ⟨_,_,_,e,_⟩:=x;exact aT e
 | own y=>obtain ⟨_,e⟩:=x;exact aT e
 | xd fs=>obtain ⟨_,⟨_,_,_,e,_⟩,_⟩:=x;exact aT e
 | rng lo hi=>obtain ⟨_,_,_,e⟩:=x;exact aT e
 | frz ob u=>obtain ⟨e,_⟩:=x;exact aT e
 | tbl ps=>exact aT (show h.get? a=some _ from x)
 | met f y=>exact aT (show h.get? a=some _ from x)
 | ext φ=>obtain ⟨_,⟨_,e⟩,_⟩:=x;exact aT e
theorem Paired.mapP{α β:Type}{F G:α->β->Prop}:∀{l₁:List α}{l₂:List β},Paired F l₁ l₂->(∀a b,F a b->G a b)->Paired G l₁ l₂
 | _,_,.nil,_=>.nil
 | _,_,.cons r t,f=>.cons (f _ _ r) (Paired.mapP t f)
theorem fE.stay(x:fE P w H h a o)(k:∀b u,(b=a\/H b=some (.own a))->h.get? b=some u->h'.get? b=some u)
  (ho:∀b,H b=some (.own a)->H' b=some (.own a)) (ht:∀b xs,H b=some (.tup xs)->H' b=some (.tup xs)):fE P w H' h' a o:=by
 induction o with
 | lst xs=>obtain ⟨z,its,n,r,e⟩:=x;exact ⟨z,its,n,r,k _ _ (.inl rfl) e⟩
 | tup xs=>obtain ⟨⟨z,on,en,dn⟩,its,r,ob,e,c⟩:=x;exact ⟨⟨z,on,k _ _ (.inl rfl) en,dn⟩,its,r,ob,k _ _ (.inl rfl) e,c⟩
 | dK kvs=>obtain ⟨z,y,vs,r,ob,es,ep,e,c⟩:=x;exact ⟨z,y,vs,r,ob,es,ep,k _ _ (.inl rfl) e,c⟩
 | dT kvs =>
  obtain ⟨z,y,xs,r,ob,es,ep,e,c⟩:=x;exact ⟨z,y,xs,Paired.mapP r λp q z=>⟨z.1,ht _ _ z.2.1,z.2.2⟩,ob,es,ep,k _ _ (.inl rfl) e,c⟩
 | set S n=>obtain ⟨ob,es,ep,t,e,c⟩:=x;exact ⟨ob,es,ep,t,k _ _ (.inl rfl) e,c⟩
 | ins C dx fs =>
  obtain ⟨d,z,ne,e,mA,⟨od,es,ep,e2,c⟩,r⟩:=x;exact ⟨ho _ d,z,ne,k _ _ (.inl rfl) e,mA,⟨od,es,ep,k _ _ (.inr d) e2,c⟩,r⟩
 | own y=>obtain ⟨ob,e⟩:=x;exact ⟨ob,k _ _ (.inl rfl) e⟩
 | xd fs=>obtain ⟨mA,⟨od,es,ep,e,c⟩,r⟩:=x;exact ⟨mA,⟨od,es,ep,k _ _ (.inl rfl) e,c⟩,r⟩
 | rng lo hi=>obtain ⟨t,u,v,e⟩:=x;exact ⟨t,u,v,k _ _ (.inl rfl) e⟩
 | frz ob u ih=>obtain ⟨e,q⟩:=x;exact ⟨k _ _ (.inl rfl) e,ih q⟩
 | tbl ps =>
  have e:h.get? a=some { cls:=.none,data:=.fields ps }:=x;show h'.get? a=some { cls:=.none,data:=.fields ps };exact k a _ (.inl rfl) e
 | met f y =>
  have e:h.get? a=some (PySem.W.methodObj (.ref f) (.ref y)):=x;show h'.get? a=some (PySem.W.methodObj (.ref f) (.ref y));exact k a _ (.inl rfl) e
 | ext φ=>obtain ⟨p,⟨o,e⟩,st⟩:=x;exact ⟨st _ _ p λo q=>k _ _ (.inl rfl) q,⟨o,k _ _ (.inl rfl) e⟩,st⟩
theorem pF.lt(x:pF P w H h)(e:H a=some o):a<h.objs.size:=(x a o e).lt
theorem pF.fresh(x:pF P w H h)(e:h.objs.size<=a):H a=none:=by
 cases q:H a with
 | none=>rfl
 | some u=>exact absurd (aO (x.lt q) e) (bI _)
theorem pF.kept(x:pF P w H h)(k:∀b u,h.get? b=some u->h'.get? b=some u):pF P w H h':=λa o e =>
 (x a o e).stay (λb u _ q=>k b u q) (λ_ q=>q) λ_ _ q=>q
theorem pF.laid(x:pF P w H h)(k:∀b u,h.get? b=some u->h'.get? b=some u)(hp:h.objs.size<=a)(new:fE P w (upd H a o) h' a o):pF P w (upd H a o) h':=λb u e=>by
 have hn:=x.fresh hp;by_cases hb:b=a
 ·subst hb;rw [bM] at e;cases e;exact new
 ·rw [cX hb] at e;exact (x b u e).stay (λc v _ q=>k c v q) (λc q=>by rw [cX (cY q hn)];exact q) λc xs q=>by rw [cX (cY q hn)];exact q
end
def Rd(H:Hp)(a:Addr)(u:HO):Prop:=H a=some u\/∃o,H a=some (.frz o u)
theorem Rd.ok{P:Program}{w:World}{H:Hp}{h:Heap}{a:Addr}{u:HO}(r:Rd H a u)(x:pF P w H h):fE P w H h a u:=by
 rcases r with r | ⟨o,r⟩
 ·exact x a u r
 ·obtain ⟨_,q⟩:=x a _ r;exact q
def Mut:Option HO->Prop
 | some (.lst _)=>True
 | some (.dK _)=>True
 | some (.dT _)=>True
 | some (.set _ _)=>True
 | some (.ins _ _ _)=>True
 | some (.ext _)=>True
 | _=>False
section
variable{P:Program}{w:World}{H:Hp}{h h':Heap}{x e:Addr}{o':HO}
theorem pF.write(ok:pF P w H h)(mu:Mut (H x))(he:e=x\/H e=some (.own x))(k:∀b u,b≠e->h.get? b=some u->h'.get? b=some u)(heo:∃u,h'.get? e=some u)
  (new:fE P w (upd H x o') h' x o'):pF P w (upd H x o') h':=λb u q=>by
 have nown:∀c y,H c=some (.own y)->c≠x:=λc y r z=>by subst z;rw [r] at mu;exact mu
 have ntup:∀c xs,H c=some (.tup xs)->c≠x:=λc xs r z=>by subst z;rw [r] at mu;exact mu
 by_cases hb:b=x
 ·subst hb;rw [bM] at q;cases q;exact new
 ·rw [cX hb] at q;by_cases hbe:b=e
  ·have q':H b=some (.own x):=by
    rcases he with z | z
    ·exact absurd (hbe.trans z) hb
    ·rw [hbe];exact z
   rw [q] at q';cases q';obtain ⟨v,hv⟩:=heo;exact ⟨v,by rw [hbe];exact hv⟩
  ·refine (ok b u q).stay (λc v hc r=>k c v ?_ r) (λc r=>by rw [cX (nown c b r)];exact r) λc xs r=>by rw [cX (ntup c xs r)];exact r
   rcases hc with rfl | hc
   ·exact hbe
   ·rintro rfl;rcases he with z | z
    ·exact nown c b hc z
    ·rw [hc] at z;cases z;exact hb rfl
end
structure Un(fs ex:List Addr)(H H':Hp)(h h':Heap):Prop where
 keep:∀b o,h.get? b=some o->H b=none->b ∉ fs->b ∉ ex->h'.get? b=some o
 slot:∀b o,h.get? b=some o->H b=none->b∈fs->b ∉ ex->∃sl,h'.get? b=some { o with slots:=sl }
 free:∀b o,h.get? b=some o->H b=none->b ∉ ex->H' b=none
 there:∀b o,h.get? b=some o->b ∉ ex->∃o',h'.get? b=some o'
 tups:∀b xs,H b=some (.tup xs)->H' b=some (.tup xs)
 frzs:∀b o u,H b=some (.frz o u)->H' b=some (.frz o u)
 tbls:∀b ps,H b=some (.tbl ps)->∃more,H' b=some (.tbl (ps++more))
section
variable{fs fs' ex ex':List Addr}{H H1 H2:Hp}{h h1 h2 h':Heap}{a x e:Addr}{o:HO}
theorem Un.any(u:Un fs ex H H1 h h1){b:Addr}{ob:Obj}(q:h.get? b=some ob)(n:H b=none)(hx:b ∉ ex):∃sl,h1.get? b=some { ob with slots:=sl }:=by
 by_cases hb:b∈fs
 ·exact u.slot b ob q n hb hx
 ·exact ⟨ob.slots,u.keep b ob q n hb hx⟩
theorem Un.kept(k:∀b u,h.get? b=some u->h'.get? b=some u):Un fs ex H H h h' :=
 ⟨λb ob q _ _ _=>k b ob q,λb ob q _ _ _=>⟨ob.slots,k b ob q⟩,λ_ _ _ n _=>n,λb ob q _=>⟨ob,k b ob q⟩,λ_ _ q=>q,λ_ _ _ q=>q,λ_ ps q=>⟨#[],by rw [q];simp⟩⟩
theorem Un.refl:Un fs ex H H h h:=Un.kept λ_ _ q=>q
theorem Un.laid(k:∀b u,h.get? b=some u->h'.get? b=some u)(hp:h.objs.size<=a)(hn:H a=none):Un fs ex H (upd H a o) h h' where
 keep:=λb u q _ _ _=>k b u q
 slot:=λb u q _ _ _=>⟨u.slots,k b u q⟩
 free:=λb u q n _=>by rw [cX (cG (aO (aT q) hp))];exact n
 there:=λb u q _=>⟨u,k b u q⟩
 tups:=λb xs q=>by rw [cX (cY q hn)];exact q
 frzs:=λb u xs q=>by rw [cX (cY q hn)];exact q
 tbls:=λb ps q=>⟨#[],by rw [cX (cY q hn),q];simp⟩
theorem Un.write(mu:Mut (H x))(he:e=x\/H e=some (.own x))(k:∀b u,b≠e->h.get? b=some u->h'.get? b=some u)(heo:∃u,h'.get? e=some u):Un fs ex H (upd H x o) h h':=by
 have hx:∀b,H b=none->b≠x:=λb n z=>by subst z;rw [n] at mu;exact mu
 have hb:∀b,H b=none->b≠e:=λb n z=>by
  subst z;rcases he with r | r
  ·exact hx b n r
  ·rw [n] at r;cases r
 have hm:∀b u,H b=some u->¬Mut (some u)->b≠x:=λb u q nm z=>by subst z;rw [q] at mu;exact nm mu
 refine ⟨λb u q n _ _=>k b u (hb b n) q,λb u q n _ _=>⟨u.slots,k b u (hb b n) q⟩,λb u q n _=>by rw [cX (hx b n)];exact n,λb u q _=>?_,
  λb xs q=>by rw [cX (hm b _ q λz=>z)];exact q,λb u xs q=>by rw [cX (hm b _ q λz=>z)];exact q,λb ps q=>⟨#[],by rw [cX (hm b _ q λz=>z),q];simp⟩⟩
 by_cases hbe:b=e
 ·subst hbe;exact heo
 ·exact ⟨u,k b u hbe q⟩
end
def trk(h:Heap)(H:Hp):List Addr:=(List.range h.objs.size).filter λa=>(H a).isSome
def BT(h:Heap)(H:Hp):Heap:=PySem.W.hideAll h (trk h H)
theorem LU(h:Heap)(H:Hp):(BT h H).objs.size=h.objs.size:=PySem.W.hideAll_size _ _
theorem QN{h:Heap}{H:Hp}{b:Addr}{o:Obj}(e:h.get? b=some o)(n:H b=none):(BT h H).get? b=some o :=
 PySem.W.hideAll_get _ e λhm=>by
  have q:(H b).isSome=true:=(cW.mp hm).2;rw [n] at q;simp at q
theorem WG{h:Heap}{H:Hp}{b:Addr}{o:Obj}(e:(BT h H).get? b=some o):h.get? b=some o/\H b=none:=by
 have e':h.get? b=some o:=PySem.W.of_hideAll (trk h H) e;refine ⟨e',?_⟩;cases q:H b with
 | none=>rfl
 | some x =>
  have hm:b∈trk h H:=cW.mpr ⟨bR.mpr (aT e'),by simp [q]⟩;have z:(BT h H).get? b=none:=PySem.W.hideAll_none (trk h H) hm;rw [z] at e;cases e
structure Mod(K:PySem.W.Frag)(mg:Str->Option Value)(base:Heap):Prop where
 kin:K.In base
 glob:base.Ns mainGlobals mg
 blt:∃mb,base.Ns builtinsNs mb/\∀x:Str,x ≠ "__name__" -> mb x=bootBuiltins x
 nolimit:base.NoLimit
/-- the context: a def's body (or a comprehension's block) running. base: fixed through the whole law;s₀,H₀: the entry;outer: the frames whose slots others may change (a def's callers);stack: all frames that run;
   ex: iterators that were made ahead of the entry and are walked here (a comprehension's);fn: the names whose cells were made at the entry (a def: all;a comprehension's block: its own);calm: not within an except suite;pn: pins that every state bears;xe: what is wanted of an exception that leaves the code -/
structure Cx where
 prog:Program
 w:World
 K:PySem.W.Frag
 mg:Str->Option Value
 base:Heap
 A:Around
 N:List Str
 s₀:Shared
 H₀:Hp
 env:Env
 outer:List Env
 stack:List Env
 ex:List Addr
 fn:Str->Bool
 calm:Bool
 pn:List (Addr × Obj)
 xe:Value->Shared->Prop
def frs(l:List Env):List Addr:=l.filterMap (·.frame)
abbrev Cx.fs(X:Cx):List Addr:=frs X.outer
def Vis(sc:Scope)(x:Str):Prop:=sc.names.lookup x=some .local\/sc.names.lookup x=some .cell\/sc.names.lookup x=some .free
def Loc(sc:Scope)(x:Str):Prop:=sc.names.lookup x=some .local\/sc.names.lookup x=some .cell
def aDO(env:Env)(h:Heap)(m:Str->Option Value)(x:Str)(u:Value):Prop :=
 (env.kindOf x=some .local/\m x=some u)\/((env.kindOf x=some .cell\/env.kindOf x=some .free)/\∃c,env.cells.lookup x=some c/\h.IsCell c (some u))
structure Cx.Ok(X:Cx):Prop where
 mod:Mod X.K X.mg X.base
 kind:X.env.scope.kind=.function
 glob:X.env.globals=mainGlobals
 blt:X.env.builtins=builtinsNs
 above:X.s₀.heap.objs.size<=X.env.locals
 inj:∀x y c,X.env.cells.lookup x=some c->X.env.cells.lookup y=some c->x=y
 has:∀x,(X.env.kindOf x=some .cell\/X.env.kindOf x=some .free)->∃c,X.env.cells.lookup x=some c
 cab:∀x c,X.fn x=true->X.env.cells.lookup x=some c->X.s₀.heap.objs.size<=c
 hd:X.calm=true->X.A.handled=none
 frames:X.A.frames=some X.stack
 stk:X.stack=X.outer\/(X.stack=X.env::X.outer/\X.env.frame=some X.env.locals)
 exf:∀b∈X.ex,b≠X.env.locals/\∀x c,X.env.cells.lookup x=some c->c≠b
 bs:∀b o,X.base.get? b=some o->X.s₀.heap.get? b=some o/\X.H₀ b=none
 bsz:X.base.objs.size<=X.s₀.heap.objs.size
 noex:∀b o,X.base.get? b=some o->b ∉ X.ex
 exfs:∀b∈X.ex,b ∉ X.fs
 funs:X.s₀.heap.FunFrames X.base X.outer
 frf:∀b∈X.fs,X.H₀ b=none
structure cF(X:Cx)(pins:List (Addr × Obj))(σ:List (Option V))(H:Hp)(s:Shared):Prop where
 ok:X.Ok
 os:s.os=X.s₀.os
 bare:AllBare s.gens
 base:Un X.fs X.ex X.H₀ H X.s₀.heap s.heap
 loc:∃m,s.heap.Ns X.env.locals m/\∀(i:Nat) (x:Str) (v:V),X.N[i]?=some x->σ[i]?=some (some v)->Vis X.env.scope x->∃u,dJ v u/\aDO X.env s.heap m x u
 cell:∀x c,X.env.cells.lookup x=some c->∃v,s.heap.IsCell c v
 free:H X.env.locals=none
 freeC:∀x c,X.env.cells.lookup x=some c->H c=none
 pin:∀p∈X.pn++pins,s.heap.get? p.1=some p.2/\H p.1=none/\p.1≠X.env.locals/\p.1 ∉ X.fs/\∀v,p.2.data ≠ .cell v
 hok:pF X.prog X.w H s.heap
 len:σ.length=X.N.length
section
variable{X:Cx}{pins:List (Addr × Obj)}{σ:List (Option V)}{H H':Hp}{s:Shared}{h':Heap}
theorem Cx.Ok.nofr(ok:X.Ok){b:Addr}{o:Obj}(e:X.base.get? b=some o):b ∉ X.fs:=λhb=>by
 have:=(ok.funs.mem hb).1;rw [e] at this;cases this
theorem cF.bs(I:cF X pins σ H s):∀b o,X.base.get? b=some o->s.heap.get? b=some o/\H b=none:=λb o e =>
 ⟨I.base.keep b o (I.ok.bs b o e).1 (I.ok.bs b o e).2 (I.ok.nofr e) (I.ok.noex b o e),I.base.free b o (I.ok.bs b o e).1 (I.ok.bs b o e).2 (I.ok.noex b o e)⟩
theorem cF.bk(I:cF X pins σ H s):∀b o,X.base.get? b=some o->s.heap.get? b=some o:=λb o e=>(I.bs b o e).1
theorem cF.mod(I:cF X pins σ H s):Mod X.K X.mg X.base:=I.ok.mod
theorem cF.kIn(I:cF X pins σ H s):X.K.In s.heap:=I.ok.mod.kin.keeps I.bk
theorem cF.lt(I:cF X pins σ H s):X.env.locals<s.heap.objs.size:=let ⟨_,hn,_⟩:=I.loc;hn.lt
theorem cF.sz(I:cF X pins σ H s):X.s₀.heap.objs.size<=s.heap.objs.size:=aK I.ok.above (Nat.le_of_lt I.lt)
theorem cF.nofs(I:cF X pins σ H s){a:Addr}(h:s.heap.objs.size<=a):a ∉ X.fs:=λhb=>by
 obtain ⟨_,o,ho,_⟩:=I.ok.funs.mem hb;exact absurd (aO (aT ho) (aK I.sz h)) (bI _)
theorem cF.cne(I:cF X pins σ H s):∀x c,X.env.cells.lookup x=some c->c≠X.env.locals:=λx c e z=>by
 obtain ⟨v,o,ho,hd⟩:=I.cell x c e;obtain ⟨m,⟨o',es,ep,ho',hd',_⟩,_⟩:=I.loc;rw [z,ho'] at ho;cases ho;rw [hd'] at hd;cases hd
theorem cF.funs(I:cF X pins σ H s):s.heap.FunFrames X.base X.outer:=by
 have all:∀(l:List Env),(∀b∈frs l,b∈X.fs)->X.s₀.heap.FunFrames X.base l->s.heap.FunFrames X.base l:=by
  intro l
  induction l with
  | nil=>intro _ _;trivial
  | cons env r ih =>
   intro hs hl;obtain ⟨hk,⟨L,o,hf,hn,ho,hd⟩,hr⟩:=hl;have hL:L∈X.fs:=hs L (by unfold frs;rw [List.filterMap_cons,hf];exact aU);obtain ⟨sl,e⟩:=I.base.slot L o ho (I.ok.frf L hL) hL λz=>I.ok.exfs L z hL;exact ⟨hk,⟨L,_,hf,hn,e,hd⟩,ih (λb hb=>hs b (by unfold frs;rw [List.filterMap_cons,hf];exact aR _ hb)) hr⟩
 exact all X.outer (λ_ hb=>hb) I.ok.funs
theorem cF.stack(I:cF X pins σ H s):s.heap.FunFrames X.base X.stack:=by
 rcases I.ok.stk with e | ⟨e,hf⟩
 ·rw [e];exact I.funs
 ·rw [e];obtain ⟨m,hn,_⟩:=I.loc;refine .cons (by rw [I.ok.kind];decide) hf hn ?_ I.funs;exact Heap.get?_none_of_le (aK I.ok.bsz I.ok.above)
theorem cF.stkSub(I:cF X pins σ H s):∀b∈frs X.stack,b∈X.env.locals::X.fs:=λb hb=>by
 rcases I.ok.stk with e | ⟨e,hf⟩
 ·rw [e] at hb;exact aR _ hb
 ·rw [e] at hb;unfold frs at hb;rw [List.filterMap_cons,hf] at hb;exact hb
theorem cF.stkFree(I:cF X pins σ H s):∀b∈frs X.stack,H b=none:=λb hb=>by
 rcases bC.mp (I.stkSub b hb) with e | hb
 ·rw [e];exact I.free
 ·obtain ⟨_,o,ho,_⟩:=I.ok.funs.mem hb;exact I.base.free b o ho (I.ok.frf b hb) λz=>I.ok.exfs b z hb
theorem cF.step{g':Array GenState}{t':Nat}{d':Drawn}{ch:List Addr}(I:cF X pins σ H s)
  (hch:∀b∈ch,(b∈X.ex\/X.s₀.heap.objs.size<=b)/\b≠X.env.locals/\(∀x c,X.env.cells.lookup x=some c->c≠b)/\∀p∈X.pn++pins,p.1≠b)
  (keep:∀b o,b≠X.env.locals->b ∉ X.fs->b ∉ ch->s.heap.get? b=some o->H b=none->h'.get? b=some o)
  (slot:∀b o,b≠X.env.locals->b∈X.fs->b ∉ ch->s.heap.get? b=some o->H b=none->∃sl,h'.get? b=some { o with slots:=sl }) (free:∀b o,b ∉ ch->s.heap.get? b=some o->H b=none->H' b=none)
  (there:∀b o,b ∉ ch->s.heap.get? b=some o->∃o',h'.get? b=some o')
  (tups:∀b xs,H b=some (.tup xs)->H' b=some (.tup xs)) (frzs:∀b o u,H b=some (.frz o u)->H' b=some (.frz o u)) (tbls:∀b ps,H b=some (.tbl ps)->∃more,H' b=some (.tbl (ps++more)))
  (ns:∀m,s.heap.Ns X.env.locals m->h'.Ns X.env.locals m) (hok:pF X.prog X.w H' h') (hg:AllBare g') :
  cF X pins σ H' { s with heap:=h',gens:=g',drawn:=d',toks:=t' }:=by
 have neL:∀b o,X.s₀.heap.get? b=some o->b≠X.env.locals:=λb o e=>cG (aO (aT e) I.ok.above);have neC:∀b o,X.s₀.heap.get? b=some o->b ∉ X.ex->b ∉ ch:=λb o e hx hb=>by
  rcases (hch b hb).1 with z | z
  ·exact hx z
  ·exact absurd (aO (aT e) z) (bI _)
 have cellK:∀x c,X.env.cells.lookup x=some c->∀v,s.heap.IsCell c v->h'.IsCell c v:=λx c e v ⟨o,ho,hd⟩=>by
  have nch:c ∉ ch:=λz=>(hch c z).2.2.1 x c e rfl;by_cases hc:c∈X.fs
  ·obtain ⟨sl,q⟩:=slot c o (I.cne x c e) hc nch ho (I.freeC x c e);exact ⟨_,q,hd⟩
  ·exact ⟨o,keep c o (I.cne x c e) hc nch ho (I.freeC x c e),hd⟩
 refine ⟨I.ok,I.os,hg,⟨λb o e n hb hx=>?_,λb o e n hb hx=>?_,λb o e n hx=>?_,λb o e hx=>?_,λb xs e=>tups b xs (I.base.tups b xs e),λb o xs e=>frzs b o xs (I.base.frzs b o xs e),λb ps e=>?_⟩,?_,λx c e=>?_,?_,λx c e=>?_,λp hp=>?_,hok,I.len⟩
 ·exact keep b o (neL b o e) hb (neC b o e hx) (I.base.keep b o e n hb hx) (I.base.free b o e n hx)
 ·obtain ⟨sl,e1⟩:=I.base.slot b o e n hb hx;obtain ⟨sl',e2⟩:=slot b _ (neL b o e) hb (neC b o e hx) e1 (I.base.free b o e n hx);exact ⟨sl',e2⟩
 ·obtain ⟨o',e1⟩:=I.base.there b o e hx;exact free b o' (neC b o e hx) e1 (I.base.free b o e n hx)
 ·obtain ⟨o',e1⟩:=I.base.there b o e hx;exact there b o' (neC b o e hx) e1
 ·obtain ⟨m1,e1⟩:=I.base.tbls b ps e;obtain ⟨m2,e2⟩:=tbls b _ e1;exact ⟨m1++m2,by rw [e2,Array.append_assoc]⟩
 ·obtain ⟨m,hn,hl⟩:=I.loc;refine ⟨m,ns m hn,λi x v e1 e2 e3=>?_⟩;obtain ⟨u,r,l⟩:=hl i x v e1 e2 e3;refine ⟨u,r,?_⟩;rcases l with l | ⟨k,c,e,z⟩
  ·exact .inl l
  ·exact .inr ⟨k,c,e,cellK x c e _ z⟩
 ·obtain ⟨v,z⟩:=I.cell x c e;exact ⟨v,cellK x c e v z⟩
 ·obtain ⟨m,⟨o,_,_,ho,_⟩,_⟩:=I.loc;exact free _ o (λz=>(hch _ z).2.1 rfl) ho I.free
 ·obtain ⟨v,o,ho,hd⟩:=I.cell x c e;exact free c o (λz=>(hch c z).2.2.1 x c e rfl) ho (I.freeC x c e)
 ·obtain ⟨e,n,ne,nf,d⟩:=I.pin p hp;have nch:p.1 ∉ ch:=λz=>(hch p.1 z).2.2.2 p hp rfl;exact ⟨keep p.1 p.2 ne nf nch e n,free p.1 p.2 nch e n,ne,nf,d⟩
theorem cF.un{t':Nat}(I:cF X pins σ H s)(u:Un X.fs [] H H' s.heap h')(hok:pF X.prog X.w H' h'):cF X pins σ H' { s with heap:=h',toks:=t' }:=by
 obtain ⟨m,⟨o,es,ep,ho,r⟩,_⟩:=id I.loc;obtain ⟨sl,hL⟩:=u.any ho I.free (by simp);exact I.step (g':=s.gens) (d':=s.drawn) (ch:=[]) (λ_ z=>nomatch z) (λb o _ hb _ e n=>u.keep b o e n hb (by simp)) (λb o _ hb _ e n=>u.slot b o e n hb (by simp)) (λb o _ e n=>u.free b o e n (by simp)) (λb o _ e=>u.there b o e (by simp)) u.tups u.frzs u.tbls (λm' hm=>by
  obtain ⟨o',es',ep',ho',r'⟩:=hm;rw [ho] at ho';cases ho';exact ⟨_,es',ep',hL,r'⟩) hok I.bare
theorem cF.call{g':Array GenState}{t':Nat}{d':Drawn}{ch:List Addr}(I:cF X pins σ H s)(u:Un (frs X.stack) ch H H' s.heap h')(hok:pF X.prog X.w H' h')(hg:AllBare g')
  (hch:∀b∈ch,(b∈X.ex\/X.s₀.heap.objs.size<=b)/\b≠X.env.locals/\(∀x c,X.env.cells.lookup x=some c->c≠b)/\∀p∈X.pn++pins,p.1≠b) :
  cF X pins σ H' { s with heap:=h',gens:=g',drawn:=d',toks:=t' }:=by
 obtain ⟨m,⟨o,es,ep,ho,r⟩,_⟩:=id I.loc;obtain ⟨sl,hL⟩:=u.any ho I.free λz=>(hch _ z).2.1 rfl;exact I.step (ch:=ch) hch (λb o hL hb hc e n=>u.keep b o e n (λz=>(bC.mp (I.stkSub b z)).elim hL hb) hc) (λb o _ _ hc e n=>u.any e n hc) (λb o hc e n=>u.free b o e n hc) (λb o hc e=>u.there b o e hc) u.tups u.frzs u.tbls (λm' hm=>by
  obtain ⟨o',es',ep',ho',r'⟩:=hm;rw [ho] at ho';cases ho';exact ⟨_,es',ep',hL,r'⟩) hok hg
theorem cF.turned{t':Nat}{it:Addr}(I:cF X pins σ H s)(k:∀b o,b≠it->s.heap.get? b=some o->h'.get? b=some o)(hn:H it=none)(hL:it≠X.env.locals)
  (h1:it∈X.ex\/X.s₀.heap.objs.size<=it) (h2:∀x c,X.env.cells.lookup x=some c->c≠it) (h3:∀p∈X.pn++pins,p.1≠it):cF X pins σ H { s with heap:=h',toks:=t' }:=by
 have nit:∀b u,H b=some u->b≠it:=λb u e z=>by rw [z,hn] at e;cases e
 refine I.step (g':=s.gens) (d':=s.drawn) (ch:=[it]) (λb hb=>?_) (λb o _ _ hc e _=>k b o (λz=>hc (by simp [z])) e) (λb o _ _ hc e _=>⟨o.slots,k b o (λz=>hc (by simp [z])) e⟩) (λ_ _ _ _ n=>n)
  (λb o hc e=>⟨o,k b o (λz=>hc (by simp [z])) e⟩) (λ_ _ e=>e) (λ_ _ _ e=>e) (λb ps e=>⟨#[],by rw [e];simp⟩) (λm hm=>?_) (λb u e=>?_) I.bare
 ·have e:b=it:=by simpa using hb
  subst e;exact ⟨h1,hL,h2,h3⟩
 ·obtain ⟨o,es,ep,ho,r⟩:=hm;exact ⟨o,es,ep,k _ o (Ne.symm hL) ho,r⟩
 ·refine (I.hok b u e).stay (λc v hc q=>k c v ?_ q) (λ_ q=>q) λ_ _ q=>q;rcases hc with z | z
  ·rw [z];exact nit b u e
  ·exact nit c _ z
theorem cF.tok(I:cF X pins σ H s)(t:Nat):cF X pins σ H { s with toks:=t }:=I.un (h':=s.heap) (t':=t) Un.refl I.hok
theorem cF.kept{t':Nat}(I:cF X pins σ H s)(k:∀b u,s.heap.get? b=some u->h'.get? b=some u):cF X pins σ H { s with heap:=h',toks:=t' }:=I.un (Un.kept k) (I.hok.kept k)
theorem cF.laid{a:Addr}{o:HO}{t':Nat}(I:cF X pins σ H s)(k:∀b u,s.heap.get? b=some u->h'.get? b=some u)(hp:s.heap.objs.size<=a)(new:fE X.prog X.w (upd H a o) h' a o) :
  cF X pins σ (upd H a o) { s with heap:=h',toks:=t' }:=I.un (Un.laid k hp (I.hok.fresh hp)) (I.hok.laid k hp new)
theorem cF.write{x e:Addr}{o:HO}{t':Nat}(I:cF X pins σ H s)(mu:Mut (H x))(he:e=x\/H e=some (.own x))(k:∀b u,b≠e->s.heap.get? b=some u->h'.get? b=some u)(heo:∃u,h'.get? e=some u)
  (new:fE X.prog X.w (upd H x o) h' x o):cF X pins σ (upd H x o) { s with heap:=h',toks:=t' }:=I.un (Un.write mu he k heo) (I.hok.write mu he k heo new)
theorem cF.pins_of{pins':List (Addr × Obj)}(I:cF X pins σ H s)(h:∀p∈pins',s.heap.get? p.1=some p.2/\H p.1=none/\p.1≠X.env.locals/\p.1 ∉ X.fs/\∀v,p.2.data ≠ .cell v):cF X pins' σ H s :=
 ⟨I.ok,I.os,I.bare,I.base,I.loc,I.cell,I.free,I.freeC,λp hp=>(bX.mp hp).elim (λz=>I.pin p (bV _ z)) (h p),I.hok,I.len⟩
theorem DZ{N:List Str}(hN:N.Nodup){i j:Nat}{x:Str}(a:N[i]?=some x)(b:N[j]?=some x):i=j:=by
 obtain ⟨h1,e1⟩:=aF.mp a;obtain ⟨h2,e2⟩:=aF.mp b;exact (List.getElem_inj hN).mp (e1.trans e2.symm)
theorem qQ{M:Model}{A:Around}{E:Value->Shared->Prop}{i:Nat}{x:Str}{v:V}{u:Value}{Q:Unit->Shared->Prop}(I:cF X pins σ H s)(hN:X.N.Nodup)(hi:X.N[i]?=some x)(hx:Loc X.env.scope x)(r:dJ v u)
  (h:∀s',cF X pins (σ.set i (some v)) H s'->(∃a,Heap.SameBut a s.heap s'.heap/\(a=X.env.locals\/X.env.cells.lookup x=some a))->Q () s') (hf:X.fn x=true\/X.env.scope.names.lookup x=some .local:=by first | exact .inl rfl | exact .inr rfl | assumption):wpAny M A (storeName X.env x u) Q E s:=by
 obtain ⟨m,hn,hl⟩:=id I.loc;have hcls:(X.env.scope.kind == .class || (X.env.scope.kind == .module&&X.env.locals != X.env.globals))=false:=by rw [I.ok.kind];rfl
 have hiσ:i<σ.length:=by rw [I.len];exact (aF.mp hi).1
 have cne:=I.cne;have tracked:∀{a:Addr} {h':Heap},(∃o,s.heap.get? a=some o/\H a=none)->Heap.SameBut a s.heap h'->pF X.prog X.w H h':=λ{a h'} ha hs b ob e=>by
  obtain ⟨_,_,hfree⟩:=ha;refine (I.hok b ob e).stay (λc w' hc q=>(hs.2 c ?_).trans q) (λ_ q=>q) λ_ _ q=>q;rintro rfl;rcases hc with rfl | hc
  ·rw [hfree] at e;cases e
  ·rw [hfree] at hc;cases hc
 rcases hx with hk | hk
 ·refine wpAny_storeName_local hk hn (λh' hn' hs=>?_) hcls;obtain ⟨oL,_,_,hoL,_⟩:=id hn;refine h _ ⟨I.ok,I.os,I.bare,⟨λb o e n hb hx=>?_,λb o e n hb hx=>?_,I.base.free,λb o e hx=>?_,I.base.tups,I.base.frzs,I.base.tbls⟩,⟨_,hn',λj y v' e1 e2 e3=>?_⟩,λy c e=>?_,I.free,I.freeC,λp hp=>?_,tracked ⟨oL,hoL,I.free⟩ hs,by simpa using I.len⟩ ⟨_,hs,.inl rfl⟩
  ·exact (hs.2 b (cG (aO (aT e) I.ok.above))).trans (I.base.keep b o e n hb hx)
  ·obtain ⟨sl,e1⟩:=I.base.slot b o e n hb hx;exact ⟨sl,(hs.2 b (cG (aO (aT e) I.ok.above))).trans e1⟩
  ·obtain ⟨o',e1⟩:=I.base.there b o e hx;exact ⟨o',(hs.2 b (cG (aO (aT e) I.ok.above))).trans e1⟩
  ·by_cases hj:j=i
   ·subst hj;rw [hi] at e1;cases e1;rw [List.getElem?_set_self hiσ] at e2;cases e2;exact ⟨u,r,.inl ⟨hk,by simp⟩⟩
   ·rw [List.getElem?_set_ne (Ne.symm hj)] at e2;obtain ⟨u',r',q⟩:=hl j y v' e1 e2 e3;refine ⟨u',r',?_⟩;rcases q with ⟨k,e⟩ | ⟨k,c,e,z⟩
    ·refine .inl ⟨k,?_⟩;have:y≠x:=λe=>hj (DZ hN e1 (e ▸ hi));simp [this,e]
    ·exact .inr ⟨k,c,e,z.sameBut hs (cne y c e)⟩
  ·obtain ⟨w',z⟩:=I.cell y c e;exact ⟨w',z.sameBut hs (cne y c e)⟩
  ·obtain ⟨e,n,ne,nf,d⟩:=I.pin p hp;exact ⟨(hs.2 p.1 ne).trans e,n,ne,nf,d⟩
 ·have hfn:X.fn x=true:=by
   rcases hf with z | z
   ·exact z
   ·rw [z] at hk;cases hk
  obtain ⟨c,hc⟩:=I.ok.has x (.inl hk);obtain ⟨w',z⟩:=I.cell x c hc;refine wpAny_storeName_cell I.ok.kind hk hc z (λh' hc' hs=>?_);obtain ⟨oc,hoc,hocd⟩:=id z;refine h { s with heap:=h' } ⟨I.ok,I.os,I.bare,⟨λb o e n hb hx=>?_,λb o e n hb hx=>?_,I.base.free,λb o e hx=>?_,I.base.tups,I.base.frzs,I.base.tbls⟩,⟨m,hn.sameBut hs (Ne.symm (cne x c hc)),λj y v' e1 e2 e3=>?_⟩,λy c' e=>?_,I.free,I.freeC,λp hp=>?_,tracked ⟨oc,hoc,I.freeC x c hc⟩ hs,by simpa using I.len⟩ ⟨c,hs,.inr hc⟩
  ·exact (hs.2 b (cG (aO (aT e) (I.ok.cab x c hfn hc)))).trans (I.base.keep b o e n hb hx)
  ·obtain ⟨sl,e1⟩:=I.base.slot b o e n hb hx;exact ⟨sl,(hs.2 b (cG (aO (aT e) (I.ok.cab x c hfn hc)))).trans e1⟩
  ·obtain ⟨o',e1⟩:=I.base.there b o e hx;exact ⟨o',(hs.2 b (cG (aO (aT e) (I.ok.cab x c hfn hc)))).trans e1⟩
  ·by_cases hj:j=i
   ·subst hj;rw [hi] at e1;cases e1;rw [List.getElem?_set_self hiσ] at e2;cases e2;exact ⟨u,r,.inr ⟨.inl hk,c,hc,hc'⟩⟩
   ·rw [List.getElem?_set_ne (Ne.symm hj)] at e2;obtain ⟨u',r',q⟩:=hl j y v' e1 e2 e3;refine ⟨u',r',?_⟩;rcases q with q | ⟨k,c',e,z'⟩
    ·exact .inl q
    ·refine .inr ⟨k,c',e,z'.sameBut hs ?_⟩;rintro rfl;exact hj (DZ hN e1 (I.ok.inj _ _ _ e hc ▸ hi))
  ·by_cases hcc:c'=c
   ·subst hcc;exact ⟨_,hc'⟩
   ·obtain ⟨w2,z2⟩:=I.cell y c' e;exact ⟨w2,z2.sameBut hs hcc⟩
  ·obtain ⟨e,n,ne,nf,d⟩:=I.pin p hp;refine ⟨(hs.2 p.1 ?_).trans e,n,ne,nf,d⟩;intro q;rw [q,hoc] at e;have q':oc=p.2:=fQ e;exact d w' (by rw [<-q'];exact hocd)
theorem nT{M:Model}{A:Around}{E:Value->Shared->Prop}{i:Nat}{x:Str}{v:V}{u:Value}{Q:Unit->Shared->Prop}(I:cF X pins σ H s)(hN:X.N.Nodup)(hi:X.N[i]?=some x)(hx:Loc X.env.scope x)(r:dJ v u)
  (h:∀s',cF X pins (σ.set i (some v)) H s'->Q () s') (hf:X.fn x=true\/X.env.scope.names.lookup x=some .local:=by first | exact .inl rfl | exact .inr rfl | assumption):wpAny M A (storeName X.env x u) Q E s :=
 qQ I hN hi hx r (λs' I' _=>h s' I') hf
theorem cF.call'{s':Shared}{ch:List Addr}(I:cF X pins σ H s)(ho:s'.os=s.os)(u:Un (frs X.stack) ch H H' s.heap s'.heap)(hok:pF X.prog X.w H' s'.heap)(hg:AllBare s'.gens)
  (hch:∀b∈ch,(b∈X.ex\/X.s₀.heap.objs.size<=b)/\b≠X.env.locals/\(∀x c,X.env.cells.lookup x=some c->c≠b)/\∀p∈X.pn++pins,p.1≠b):cF X pins σ H' s':=by
 obtain ⟨h',g',d',t',o'⟩:=s';have e:o'=s.os:=ho;subst e;exact I.call (g':=g') (t':=t') (d':=d') u hok hg hch
end
abbrev XK:=Value->Option Addr->Hp->Prop
abbrev St:=List (Option V)
abbrev VK:=V->Hp->Prop
abbrev TE:=St->Hp->VK->Prop
abbrev TT:=St->Hp->(Bool->Hp->Prop)->Prop
abbrev TA:=St->Hp->(List V->Hp->Prop)->Prop
structure tY where
 nx:St->Hp->Prop
 rt:VK
 bk:St->Hp->Prop:=λ_ _=>False
 ct:St->Hp->Prop:=λ_ _=>False
abbrev TS:=tY->St->Hp->Prop
def EP(X:Cx)(pins:List (Addr × Obj))(σ:St)(Q:VK)(u:Value)(s':Shared):Prop:=∃v H',cF X pins σ H' s'/\dJ v u/\Q v H'
def TP(X:Cx)(pins:List (Addr × Obj))(σ:St)(Q:Bool->Hp->Prop)(b:Bool)(s':Shared):Prop:=∃H',cF X pins σ H' s'/\Q b H'
def AP(X:Cx)(pins:List (Addr × Obj))(σ:St)(Q:List V->Hp->Prop)(us:List Value)(s':Shared):Prop:=∃vs H',cF X pins σ H' s'/\cZ vs us/\Q vs H'
def SP(X:Cx)(pins:List (Addr × Obj))(D:tY)(f:Flow)(s':Shared):Prop :=
 match f with
 | .next=>∃σ' H',cF X pins σ' H' s'/\D.nx σ' H'
 | .brk=>∃σ' H',cF X pins σ' H' s'/\D.bk σ' H'
 | .cont=>∃σ' H',cF X pins σ' H' s'/\D.ct σ' H'
 | .ret u=>∃v σ' H',cF X pins σ' H' s'/\dJ v u/\D.rt v H'
def PE(X:Cx)(e:Expr)(t:TE):Prop :=
 ∀(pins:List (Addr × Obj)) (s:Shared) (σ:St) (H:Hp) (Q:VK),cF X pins σ H s->t σ H Q->wpAny (model X.prog X.w) X.A (eval e X.env) (EP X pins σ Q) X.xe s
def PT(X:Cx)(e:Expr)(t:TT):Prop :=
 ∀(pins:List (Addr × Obj)) (s:Shared) (σ:St) (H:Hp) (Q:Bool->Hp->Prop),cF X pins σ H s->t σ H Q->wpAny (model X.prog X.w) X.A (isTrue e X.env (eval e X.env)) (TP X pins σ Q) X.xe s
def PW(X:Cx)(e:Expr)(t:TT):Prop :=
 ∀(whole:Sem Value) (pins:List (Addr × Obj)) (s:Shared) (σ:St) (H:Hp) (Q:Bool->Hp->Prop),cF X pins σ H s->t σ H Q->wpAny (model X.prog X.w) X.A (isTrue e X.env whole) (TP X pins σ Q) X.xe s
theorem PW.pt{X:Cx}{e:Expr}{t:TT}(h:PW X e t):PT X e t:=h _
def PA(X:Cx)(es:List Expr)(t:TA):Prop :=
 ∀(pos:Pos) (pins:List (Addr × Obj)) (s:Shared) (σ:St) (H:Hp) (Q:List V->Hp->Prop),cF X pins σ H s->t σ H Q->wpAny (model X.prog X.w) X.A (spliced (backTo pos (starEach es X.env))) (AP X pins σ Q) X.xe s
def PS(X:Cx)(st:Stmt)(t:TS):Prop :=
 ∀(pins:List (Addr × Obj)) (s:Shared) (σ:St) (H:Hp) (D:tY),cF X pins σ H s->t D σ H->wpAny (model X.prog X.w) X.A (exec st X.env) (SP X pins D) X.xe s
def HQ(X:Cx)(st:List Stmt)(t:TS):Prop :=
 ∀(pins:List (Addr × Obj)) (s:Shared) (σ:St) (H:Hp) (D:tY),cF X pins σ H s->t D σ H->wpAny (model X.prog X.w) X.A (execs st X.env) (SP X pins D) X.xe s
theorem thn{α:Type}{t:Sem α}{Q Q':α->Shared->Prop}{M:Model}{A:Around}{E:Value->Shared->Prop}{s:Shared}(h:wpAny M A t Q E s)(hQ:∀a s,Q a s->Q' a s):wpAny M A t Q' E s:=wpAny_mono h hQ λ_ _ x=>x
section
variable{X:Cx}
def ZN(i:Nat):TE:=λσ H Q=>∃v,σ[i]?=some (some v)/\Q v H
def tC(v:V):TE:=λ_ H Q=>Q v H
theorem aAq{i:Nat}{x:Str}{pos:Pos}(hN:X.N[i]?=some x)(hv:Vis X.env.scope x)(hd:(x == ("__debug__" : Str))=false:=by decide)(hcd:(x == ("__classdict__" : Str))=false:=by decide):PE X (.Name x pos) (ZN i):=by
 intro pins s σ H Q I h;obtain ⟨v,e,h⟩:=h;obtain ⟨m,hn,hl⟩:=I.loc;obtain ⟨u,r,l⟩:=hl i x v hN e hv;have fin:EP X pins σ Q u s:=⟨v,H,I,r,h⟩;rcases l with ⟨hk,hm⟩ | ⟨hk,c,hc,hcell⟩
 ·exact wpAny_Name (wpAny_loadName_local I.ok.kind hk hn hm fin) hd
 ·rcases hk with hk | hk
  ·exact wpAny_Name (wpAny_loadName_cell I.ok.kind hk hc hcell fin) hd
  ·exact wpAny_Name (wpAny_loadName_free I.ok.kind hk hc hcell fin hcd) hd
theorem pe_int{i j pos}:PE X (.Constant (.int i) j pos) (tC (.int i)):=λ_ _ _ H _ I h=>wpAny_Constant_int ⟨.int i,H,I.tok _,⟨_,rfl⟩,h⟩
theorem pe_bl{b j pos}:PE X (.Constant (.bool b) j pos) (tC (.bl b)):=λ_ _ _ H _ I h=>Constant_bool ⟨.bl b,H,I,rfl,h⟩
theorem pe_str{x j pos}:PE X (.Constant (.str x) j pos) (tC (.str x)):=λ_ _ _ H _ I h=>Calls.Constant_str ⟨.str x,H,I.tok _,⟨_,rfl⟩,h⟩
def Gl(X:Cx)(x:Str):Prop:=X.env.kindOf x=some .globalImplicit
theorem wG{E:Value->Shared->Prop}{pins:List (Addr × Obj)}{s:Shared}{σ:St}{H:Hp}{x:Str}{u:Value}{pos:Pos}{Q:Value->Shared->Prop}(I:cF X pins σ H s)(hg:Gl X x)(hm:X.mg x=some u)(h:Q u s)
  (hd:(x == ("__debug__" : Str))=false:=by decide):wpAny (model X.prog X.w) X.A (eval (.Name x pos) X.env) Q E s :=
 Calls.Name_function_global I.ok.kind hg (Calls.loadGlobal_global (by rw [I.ok.glob];exact I.mod.glob.keeps I.bk) hm h) hd
theorem oU{E:Value->Shared->Prop}{pins:List (Addr × Obj)}{s:Shared}{σ:St}{H:Hp}{x:Str}{u:Value}{pos:Pos}{Q:Value->Shared->Prop}(I:cF X pins σ H s)(hg:Gl X x)(hm:X.mg x=none)(hv:bootBuiltins x=some u)(h:Q u s)
  (hn:x ≠ "__name__" := by decide) (hd:(x == ("__debug__" : Str))=false:=by decide):wpAny (model X.prog X.w) X.A (eval (.Name x pos) X.env) Q E s:=by
 obtain ⟨mb,h1,h2⟩:=I.mod.blt;exact Calls.Name_function_global I.ok.kind hg (Calls.loadGlobal_builtin (by rw [I.ok.glob];exact I.mod.glob.keeps I.bk) hm (by rw [I.ok.blt];exact h1.keeps I.bk) ((h2 x hn).trans hv) h) hd
theorem VX{x:Str}{v:V}{u:Value}{pos:Pos}(hg:Gl X x)(hm:X.mg x=some u)(r:dJ v u)(hd:(x == ("__debug__" : Str))=false:=by decide):PE X (.Name x pos) (tC v) :=
 λ_ _ _ H _ I h=>wG I hg hm ⟨v,H,I,r,h⟩ hd
theorem WD{x:Str}{v:V}{u:Value}{pos:Pos}(hg:Gl X x)(hm:X.mg x=none)(hv:bootBuiltins x=some u)(r:dJ v u)(hn:x ≠ "__name__" := by decide)(hd:(x == ("__debug__" : Str))=false:=by decide):PE X (.Name x pos) (tC v) :=
 λ_ _ _ H _ I h=>oU I hg hm hv ⟨v,H,I,r,h⟩ hn hd
variable{a b:Expr}{ta tb:TE}{pos:Pos}
def tB(t:TE):TT:=λσ H Q=>t σ H λx H1=>∃c,x=.bl c/\Q c H1
theorem aAc{e:Expr}{t:TE}(h:PE X e t)(he:∀whole,isTrue e X.env whole=(do let v <-whole;standAt e.pos;holding [v] (truthy v)):=by intro _;rfl):PT X e (tB t):=by
 intro pins s σ H Q I hw;refine isTrue_plain (thn (h pins s σ H _ I hw) λv s1 ⟨x,H1,I1,r1,q1⟩=>?_) (he _);obtain ⟨d,rfl,q⟩:=q1;cases r1;exact wpAny_truthy_bool ⟨H1,I1,q⟩
variable{tA tB':TT}{rest:List Expr}
def aBA(t u:TT):TT:=λσ H Q=>t σ H λc H1=>if c=true then u σ H1 Q else Q false H1
def tOr(t u:TT):TT:=λσ H Q=>t σ H λc H1=>if c=true then Q true H1 else u σ H1 Q
def aBu(t:TT):TT:=λσ H Q=>t σ H λc H1=>Q (!c) H1
theorem VJ(ha:PT X a tA):PW X (.BoolOp .And [a] pos) tA:=by
 intro wh pins s σ H Q I h;refine isTrue_and (thn (ha pins s σ H Q I h) λc s1 e=>?_);cases c with
 | true=>exact isTrue_and_nil e
 | false=>exact e
theorem aAa(ha:PT X a tA):PW X (.BoolOp .Or [a] pos) tA:=by
 intro wh pins s σ H Q I h;refine isTrue_or (thn (ha pins s σ H Q I h) λc s1 e=>?_);cases c with
 | false=>exact isTrue_or_nil e
 | true=>exact e
theorem aAb(ha:PT X a tA)(hb:PW X (.BoolOp .And (b::rest) pos) tB'):PW X (.BoolOp .And (a::b::rest) pos) (aBA tA tB'):=by
 intro wh pins s σ H Q I h;refine isTrue_and (thn (ha pins s σ H _ I h) λc s1 ⟨H1,I1,q1⟩=>?_);cases c with
 | true=>exact hb wh pins s1 σ H1 Q I1 q1
 | false=>exact ⟨H1,I1,q1⟩
theorem aBP(ha:PT X a tA)(hb:PW X (.BoolOp .Or (b::rest) pos) tB'):PW X (.BoolOp .Or (a::b::rest) pos) (tOr tA tB'):=by
 intro wh pins s σ H Q I h;refine isTrue_or (thn (ha pins s σ H _ I h) λc s1 ⟨H1,I1,q1⟩=>?_);cases c with
 | true=>exact ⟨H1,I1,q1⟩
 | false=>exact hb wh pins s1 σ H1 Q I1 q1
theorem aAd(ha:PT X a tA):PT X (.UnaryOp .Not a pos) (aBu tA):=by
 intro pins s σ H Q I h;exact isTrue_not (ha pins s σ H (λc H1=>Q (!c) H1) I h)
def tIf(t:TT)(ta tb:TE):TE:=λσ H Q=>t σ H λc H1=>if c=true then ta σ H1 Q else tb σ H1 Q
theorem PN{c:Expr}(hc:PT X c tA)(ha:PE X a ta)(hb:PE X b tb):PE X (.IfExp c a b pos) (tIf tA ta tb):=by
 intro pins s σ H Q I h;refine wpAny_IfExp (thn (hc pins s σ H _ I h) λd s1 ⟨H1,I1,q1⟩=>?_);cases d with
 | true=>exact ha pins s1 σ H1 Q I1 q1
 | false=>exact hb pins s1 σ H1 Q I1 q1
end
def fN(K:PySem.W.Frag)(H:Hp)(a:Addr)(xs:List V):Prop :=
 Rd H a (.lst xs) \/
  ∃(o:Obj) (its:Array Value) (n:Nat),K.lookup a=some o/\o.cls=.type "list" /\ o.dict=none/\o.data=.seq its n/\its.size<=sizeLine/\cZ xs its.toList
def jH(K:PySem.W.Frag)(H:Hp)(a:Addr)(xs:List V):Prop :=
 Rd H a (.tup xs) \/
  ∃(o:Obj) (its:Array Value) (n:Nat),K.lookup a=some o/\o.cls=.type "tuple" /\ o.data=.seq its n/\its.size<=sizeLine/\cZ xs its.toList
def aDN:Value->Option V
 | .none=>some .non
 | .bool b=>some (.bl b)
 | .int i _=>some (.int i)
 | .str x _=>some (.str x)
 | .bytes b _=>some (.byt b)
 | .float b _=>some (.flt b)
 | .ref a=>some (.ref a)
 | .type n=>some (.ty n)
 | _=>none
theorem dJ.abs{x:V}{u:Value}(r:dJ x u):aDN u=some x:=by
 cases x with
 | non=>cases r;rfl
 | bl _=>cases r;rfl
 | int _=>obtain ⟨t,rfl⟩:=r;rfl
 | str _=>obtain ⟨t,rfl⟩:=r;rfl
 | byt _=>obtain ⟨t,rfl⟩:=r;rfl
 | flt _=>obtain ⟨t,rfl⟩:=r;rfl
 | ref _=>cases r;rfl
 | ty _=>cases r;rfl
theorem dJ.inj{x y:V}{u:Value}(r:dJ x u)(q:dJ y u):x=y:=fQ (r.abs.symm.trans q.abs)
theorem cZ.inj:∀{xs ys:List V}{us:List Value},cZ xs us->cZ ys us->xs=ys
 | _,_,_,.nil,.nil=>rfl
 | _,_,_,.cons r t,.cons r' t'=>by rw [r.inj r',cZ.inj t t']
section
variable{X:Cx}{pins:List (Addr × Obj)}{σ:St}{H:Hp}{s:Shared}{a:Addr}{xs ys:List V}
theorem fN.of{K:PySem.W.Frag}(h:H a=some (.lst xs)):fN K H a xs:=.inl (.inl h)
theorem jH.of{K:PySem.W.Frag}(h:H a=some (.tup xs)):jH K H a xs:=.inl (.inl h)
theorem cF.list(I:cF X pins σ H s)(h:fN X.K H a xs):∃its:List Value,cZ xs its/\PlainL s.heap a its.toArray/\xs.length<=sizeLine:=by
 rcases h with h | ⟨o,its,n,hk,hc,hd,hs,hz,r⟩
 ·obtain ⟨z,its,n,r,e⟩:=h.ok I.hok;exact ⟨its,r,⟨_,n,e,rfl,rfl,rfl⟩,z⟩
 ·refine ⟨its.toList,r,⟨o,n,I.kIn a o hk,hc,hd,by simpa using hs⟩,?_⟩;have e:=r.length;simp only [Array.length_toList] at e;omega
theorem cF.tuple(I:cF X pins σ H s)(h:jH X.K H a xs):∃its:List Value,cZ xs its/\IsTup s.heap a its.toArray/\xs.length<=sizeLine:=by
 rcases h with h | ⟨o,its,n,hk,hc,hs,hz,r⟩
 ·obtain ⟨⟨z,_⟩,its,r,p⟩:=h.ok I.hok;exact ⟨its,r,p,z⟩
 ·refine ⟨its.toList,r,⟨o,I.kIn a o hk,hc,n,by simpa using hs⟩,?_⟩;have e:=r.length;simp only [Array.length_toList] at e;omega
theorem cF.list_inj(I:cF X pins σ H s)(h:fN X.K H a xs)(h':fN X.K H a ys):xs=ys:=by
 obtain ⟨its,r,⟨o,n,e,_,_,d⟩,_⟩:=I.list h;obtain ⟨its',r',⟨o',n',e',_,_,d'⟩,_⟩:=I.list h';rw [e] at e';cases e';rw [d] at d';injection d' with d1 _;have:its=its':=by simpa using congrArg Array.toList d1
 subst this;exact r.inj r'
theorem cF.tuple_inj(I:cF X pins σ H s)(h:jH X.K H a xs)(h':jH X.K H a ys):xs=ys:=by
 obtain ⟨its,r,⟨o,e,_,n,d⟩,_⟩:=I.tuple h;obtain ⟨its',r',⟨o',e',_,n',d'⟩,_⟩:=I.tuple h';rw [e] at e';cases e';rw [d] at d';injection d' with d1 _;have:its=its':=by simpa using congrArg Array.toList d1
 subst this;exact r.inj r'
end
abbrev Cx.wish(X:Cx)(E:Value->Shared->Prop):Cx:={ X with xe:=E }
abbrev Cx.nox(X:Cx):Cx:=X.wish λ_ _=>False
theorem Cx.Ok.wish{X:Cx}(ok:X.Ok)(E:Value->Shared->Prop):(X.wish E).Ok :=
 ⟨ok.mod,ok.kind,ok.glob,ok.blt,ok.above,ok.inj,ok.has,ok.cab,ok.hd,ok.frames,ok.stk,ok.exf,ok.bs,ok.bsz,ok.noex,ok.exfs,ok.funs,ok.frf⟩
theorem Cx.Ok.unwish{X:Cx}{E:Value->Shared->Prop}(ok:(X.wish E).Ok):X.Ok :=
 ⟨ok.mod,ok.kind,ok.glob,ok.blt,ok.above,ok.inj,ok.has,ok.cab,ok.hd,ok.frames,ok.stk,ok.exf,ok.bs,ok.bsz,ok.noex,ok.exfs,ok.funs,ok.frf⟩
section
variable{X:Cx}{pins:List (Addr × Obj)}{σ:St}{H:Hp}{s:Shared}{E:Value->Shared->Prop}
theorem cF.wish(I:cF X pins σ H s)(E:Value->Shared->Prop):cF (X.wish E) pins σ H s:=⟨I.ok.wish E,I.os,I.bare,I.base,I.loc,I.cell,I.free,I.freeC,I.pin,I.hok,I.len⟩
theorem cF.unwish(I:cF (X.wish E) pins σ H s):cF X pins σ H s:=⟨I.ok.unwish,I.os,I.bare,I.base,I.loc,I.cell,I.free,I.freeC,I.pin,I.hok,I.len⟩
theorem SP.unwish{D:tY}{f:Flow}{s':Shared}(h:SP (X.wish E) pins D f s'):SP X pins D f s':=by
 cases f with
 | next=>obtain ⟨σ',H',I,q⟩:=h;exact ⟨σ',H',I.unwish,q⟩
 | brk=>obtain ⟨σ',H',I,q⟩:=h;exact ⟨σ',H',I.unwish,q⟩
 | cont=>obtain ⟨σ',H',I,q⟩:=h;exact ⟨σ',H',I.unwish,q⟩
 | ret u=>obtain ⟨v,σ',H',I,r,q⟩:=h;exact ⟨v,σ',H',I.unwish,r,q⟩
theorem HQ.nox{st:List Stmt}{t:TS}(h:HQ X.nox st t):HQ X st t:=λpins s σ H D I hw =>
 wpAny_mono (h pins s σ H D (I.wish _) hw) (λ_ _ q=>q.unwish) λ_ _ z=>False.elim z
end
section
variable{X:Cx}{st:Stmt}{rest:List Stmt}{t u:TS}{e:Expr}{te:TE}{pos:Pos}
def YG:TS:=λD σ H=>D.nx σ H
def aBr(t u:TS):TS:=λD σ H=>t { D with nx:=u D } σ H
theorem pss_nil:HQ X [] YG:=λ_ _ σ H _ I h=>wpAny_execs_nil ⟨σ,H,I,h⟩
theorem OZ(h1:PS X st t)(h2:HQ X rest u):HQ X (st::rest) (aBr t u):=by
 intro pins s σ H D I h;refine wpAny_execs_cons (thn (h1 pins s σ H { D with nx:=u D } I h) λf s1 q=>?_);cases f with
 | next =>
  obtain ⟨σ',H',I',q⟩:=q;exact h2 pins s1 σ' H' D I' q
 | ret v=>exact q
 | brk=>exact q
 | cont=>exact q
theorem VN(h1:PS X st t):HQ X [st] t:=by
 intro pins s σ H D I h;refine wpAny_execs_cons (thn (h1 pins s σ H D I h) λf s1 q=>?_);cases f with
 | next=>exact wpAny_execs_nil q
 | ret v=>exact q
 | brk=>exact q
 | cont=>exact q
theorem cF.quiet{pins:List (Addr × Obj)}{σ:St}{H:Hp}{s:Shared}(I:cF X pins σ H s):interactive X.env=false:=by simp [interactive,I.ok.kind]
def YJ(te:TE):TS:=λD σ H=>te σ H λ_ H1=>D.nx σ H1
theorem VO(he:PE X e te)(hs:swapsWith e none pos.line X.env=pure false:=by rfl):PS X (.Expr e pos) (YJ te):=by
 intro pins s σ H D I h;exact wpAny_Expr_any (thn (he pins s σ H _ I h) λv s1 ⟨x,H1,I1,r1,q1⟩=>⟨σ,H1,I1,q1⟩) I.quiet hs
def aBs(te:TE):TS:=λD σ H=>te σ H D.rt
theorem aAf(he:PE X e te):PS X (.Return (some e) pos) (aBs te):=by
 intro pins s σ H D I h;exact wpAny_Return_some (thn (he pins s σ H _ I h) λv s1 ⟨x,H1,I1,r1,q1⟩=>⟨x,σ,H1,I1,r1,q1⟩)
def aBw(c:TT)(t u:TS):TS:=λD σ H=>c σ H λb H1=>if b=true then t D σ H1 else u D σ H1
theorem aBQ{c:Expr}{a b:List Stmt}{tc:TT}(hc:PT X c tc)(ha:HQ X a t)(hb:HQ X b u):PS X (.If c a b pos) (aBw tc t u):=by
 intro pins s σ H D I h;refine wpAny_If (thn (hc pins s σ H _ I h) λd s1 ⟨H1,I1,q1⟩=>?_);cases d with
 | true=>exact ha pins s1 σ H1 D I1 q1
 | false=>exact hb pins s1 σ H1 D I1 q1
end
abbrev TG:=V->St->Hp->(St->Hp->Prop)->Prop
abbrev SB:=List V->St->Hp->(St->Hp->Prop)->Prop
def PG(X:Cx)(target:Expr)(t:TG):Prop :=
 ∀(pins:List (Addr × Obj)) (s:Shared) (σ:St) (H:Hp) (v:V) (u:Value) (Q:St->Hp->Prop),cF X pins σ H s->dJ v u->t v σ H Q ->
  wpAny (model X.prog X.w) X.A (assign target X.env u) (λ_ s'=>∃σ' H',cF X pins σ' H' s'/\Q σ' H') X.xe s
def PGs(X:Cx)(ts:List Expr)(t:SB):Prop :=
 ∀(pins:List (Addr × Obj)) (s:Shared) (σ:St) (H:Hp) (vs:List V) (us:List Value) (Q:St->Hp->Prop),cF X pins σ H s->cZ vs us->t vs σ H Q ->
  wpAny (model X.prog X.w) X.A (assignInOrder ((assignEach ts X.env).map (·.2)) us) (λ_ s'=>∃σ' H',cF X pins σ' H' s'/\Q σ' H') X.xe s
abbrev XU:=V->V->V->Hp->(Hp->Prop)->Prop
def aA7(X:Cx)(t:XU):Prop :=
 ∀(pins:List (Addr × Obj)) (s:Shared) (σ:St) (H:Hp) (o i v:V) (ov iv u:Value) (Q:Hp->Prop),cF X pins σ H s->dJ o ov->dJ i iv->dJ v u->t o i v H Q ->
  wpAny (model X.prog X.w) X.A (setItem ov iv u) (λ_ s'=>∃H',cF X pins σ H' s'/\Q H') X.xe s
section
variable{X:Cx}{pos:Pos}
def mW(i:Nat):TG:=λv σ H Q=>Q (σ.set i (some v)) H
theorem VU{i:Nat}{x:Str}(hN:X.N.Nodup)(hi:X.N[i]?=some x)(hx:Loc X.env.scope x)(hf:X.fn x=true\/X.env.scope.names.lookup x=some .local:=by first | exact .inl rfl | exact .inr rfl | assumption):PG X (.Name x pos) (mW i):=by
 intro pins s σ H v u Q I r h;exact wpAny_assign_Name (nT I hN hi hx r (λs' I'=>⟨_,H,I',h⟩) hf)
def aAK:SB:=λvs σ H Q=>vs=[]/\Q σ H
def QO(t:TG)(u:SB):SB:=λvs σ H Q=>∃v r,vs=v::r/\t v σ H λσ' H'=>u r σ' H' Q
theorem pgs_nil:PGs X [] aAK:=by
 intro pins s σ H vs us Q I r h;obtain ⟨e,h⟩:=h;subst e;cases r;exact assignInOrder_nil ⟨σ,H,I,h⟩
theorem PJ{e:Expr}{es:List Expr}{t:TG}{u:SB}(h1:PG X e t)(h2:PGs X es u)
  (hs:(assignEach (e::es) X.env).map (·.2)=assign e X.env::(assignEach es X.env).map (·.2):=by rfl):PGs X (e::es) (QO t u):=by
 intro pins s σ H vs us Q I r h;obtain ⟨v,vr,e1,h⟩:=h;subst e1;cases r with
 | cons r rr =>
  rw [hs];refine assignInOrder_cons (thn (h1 pins s σ H _ _ _ I r h) λ_ s1 ⟨σ1,H1,I1,q1⟩=>?_);exact h2 pins s1 σ1 H1 _ _ Q I1 rr q1
def aAJ(K:PySem.W.Frag)(n:Nat)(t:SB):TG:=λv σ H Q=>∃a xs,v=.ref a/\jH K H a xs/\xs.length=n/\t xs σ H Q
theorem aAo{es:List Expr}{k:Nat}{t:SB}{n:Nat}(hc:X.calm=true)(h:PGs X es t)
  (hn:(assignEach es X.env).length=n:=by rfl) (hst:(assignEach es X.env).findIdx? (·.1)=none:=by rfl):PG X (.Tuple es k pos) (aAJ X.K n t):=by
 intro pins s σ H v u Q I r hw;obtain ⟨a,xs,e1,hq,hl,hw⟩:=hw;subst e1;cases r;obtain ⟨its,rv,ht,hz⟩:=I.tuple hq;refine assign_Tuple_tuple (I.ok.hd hc) ht (by simp [hn,<-hl,rv.length]) hst λh' hx=>?_;have I1:cF X pins σ H { s with heap:=h' }:=I.kept (t':=s.toks) λb o e=>hx b o (cG (aT e)) e;exact h pins _ σ H xs _ Q I1 (by simpa using rv) hw
def aB7(to ti:TE)(t:XU):TG:=λv σ H Q=>to σ H λo H1=>ti σ H1 λi H2=>t o i v H2 λH3=>Q σ H3
theorem aAp{o i:Expr}{to ti:TE}{t:XU}(ho:PE X o to)(hi:PE X i ti)(hs:aA7 X t)
  (ha:∀v,assign (.Subscript o i pos) X.env v=(do
   let ov <-holding [v] (eval o X.env)
   let iv <-holding [v,ov] (eval i X.env)
   standAt pos
   holding [v,ov,iv] (setItem ov iv v)
   release [v,ov,iv] []):=by intro _;rfl):PG X (.Subscript o i pos) (aB7 to ti t):=by
 intro pins s σ H v u Q I r h;rw [ha];refine wpAny_bind (wpAny_holding (thn (ho pins s σ H _ I h) λov s1 ⟨x,H1,I1,r1,q1⟩=>?_));refine wpAny_bind (wpAny_holding (thn (hi pins s1 σ H1 _ I1 q1) λiv s2 ⟨y,H2,I2,r2,q2⟩=>?_));refine wpAny_bind (wpAny_standAt (wpAny_bind (wpAny_holding (thn (hs pins s2 σ H2 x y v ov iv u _ I2 r1 r2 r q2) λ_ s3 ⟨H3,I3,q3⟩=>?_))));exact wpAny_release ⟨σ,H3,I3,q3⟩
def yE(te:TE)(g:TG):TS:=λD σ H=>te σ H λx H1=>g x σ H1 D.nx
theorem aAk{tg e:Expr}{te:TE}{g:TG}(he:PE X e te)(hg:PG X tg g)(hs:swapsWithSole [tg] e pos.line X.env=pure false:=by rfl)(hw:swappedStores [tg] e X.env=pure none:=by rfl)
  (h1:(assignEach [tg] X.env).map (·.2)=[assign tg X.env]:=by rfl):PS X (.Assign [tg] e pos) (yE te g):=by
 intro pins s σ H D I h;refine wpAny_Assign_stores (thn (he pins s σ H _ I h) λv s1 ⟨x,H1,I1,r1,q1⟩=>?_) hs hw;rw [h1];exact thn (hg pins s1 σ H1 x v _ I1 r1 q1) λ_ s2 q=>q
theorem aAe{i:Nat}{x:Str}{e:Expr}{te:TE}{pos':Pos}(hN:X.N.Nodup)(hi:X.N[i]?=some x)(hx:Loc X.env.scope x)(he:PE X e te)(hs:swapsWith e (some (.Name x pos')) pos.line X.env=pure false:=by rfl)(hf:X.fn x=true\/X.env.scope.names.lookup x=some .local:=by first | exact .inl rfl | exact .inr rfl | assumption) :
  PS X (.Assign [.Name x pos'] e pos) (yE te (mW i)):=by
 intro pins s σ H D I h;refine wpAny_Assign_Name (thn (he pins s σ H _ I h) λv s1 ⟨y,H1,I1,r1,q1⟩=>?_) hs;exact nT I1 hN hi hx r1 (λs2 I2=>⟨_,H1,I2,q1⟩) hf
def aBt(i j:Nat)(ta:TA):TS:=λD σ H=>ta σ H λvs H1=>∃v w,vs=[v,w]/\D.nx ((σ.set i (some v)).set j (some w)) H1
theorem aAg{i j:Nat}{x y:Str}{a b:Expr}{ta:TA}{px py pt:Pos}{kt k2 pt2}(hc:X.calm=true)(hN:X.N.Nodup)(hi:X.N[i]?=some x)(hj:X.N[j]?=some y)(hij:i≠j)
  (hx:X.env.scope.names.lookup x=some .local) (hy:X.env.scope.names.lookup y=some .local) (ha:PA X [a,b] ta)
  (hw:swappedStores [.Tuple [.Name x px,.Name y py] kt pt] (.Tuple [a,b] k2 pt2) X.env=pure (some [x,y]))
  (hs:swapsWithSole [.Tuple [.Name x px,.Name y py] kt pt] (.Tuple [a,b] k2 pt2) pos.line X.env=pure false:=by rfl) :
  PS X (.Assign [.Tuple [.Name x px,.Name y py] kt pt] (.Tuple [a,b] k2 pt2) pos) (aBt i j ta):=by
 intro pins s σ H D I h;rw [exec_Assign_arm];refine wpAny_bind (wpAny_standAt ?_);rw [hs];refine wpAny_bind (wpAny_pure ?_);rw [if_neg Dd];refine wpAny_bind (Tuple_ (thn (ha _ pins s σ H _ I h) λus s1 ⟨vs,H1,I1,r1,q1⟩=>?_));obtain ⟨v,w,e1,q1⟩:=q1;subst e1;obtain ⟨u1,u2,rfl,rv,rw'⟩:∃u1 u2,us=[u1,u2]/\dJ v u1/\dJ w u2:=by
  cases r1 with
  | cons p q =>
   cases q with
   | cons p' q' =>
    cases q';exact ⟨_,_,rfl,p,p'⟩
 refine wpAny_newObj_type ?_ (by show 2<=sizeLine;decide);have I2:cF X pins σ H1 { s1 with heap:=s1.heap.push { cls:=.type "tuple",data:=.seq [u1,u2].toArray } }:=I1.kept (t':=s1.toks) λb o e=>aC _ e;rw [hw];refine wpAny_bind (wpAny_pure ?_);show wpAny (model X.prog X.w) X.A (do rule "assign.swapped-stores";let items <-unpackItems (.ref s1.heap.objs.size) 2 none;assignInOrder [λv=>bindName X.env y v,λv=>bindName X.env x v] items.reverse;pure Flow.next) _ _ _;refine wpAny_bind (wpAny_rule (wpAny_bind (unpackItems_tuple (items:=#[u1,u2]) (I.ok.hd hc) (IsTup.new s1.heap _) λh' hx'=>?_)));have I3:=I2.kept (h':=h') (t':=s1.toks) λb o e=>hx' b o (cG (aT e)) e;show wpAny _ _ (assignInOrder [λv=>bindName X.env y v,λv=>bindName X.env x v] [u2,u1] >>= λ_=>pure Flow.next) _ _ _;refine wpAny_bind (assignInOrder_cons (wpAny_bindName (nT I3 hN hj (.inl hy) rw' (λs2 I4=>?_) (.inr hy))));refine assignInOrder_cons (wpAny_bindName (nT I4 hN hi (.inl hx) rv (λs3 I5=>assignInOrder_nil (wpAny_pure ?_)) (.inr hx)));rw [List.set_comm _ _ (Ne.symm hij)] at I5;exact ⟨_,H1,I5,q1⟩
end
section
variable{X:Cx}{pos:Pos}
def AR(c:TT)(tb:TS):TS:=λD σ H=>∃W:Nat->St->Hp->Prop,(∃m,W m σ H)/\∀m σ H,W m σ H ->
 c σ H λb H1=>if b=true then ∃N:St->Hp->Prop,(∀σ' H',N σ' H'->∃m',m' < m/\W m' σ' H')/\tb { D with nx:=N,ct:=N,bk:=D.nx } σ H1 else D.nx σ H1
theorem PB{c:Expr}{body:List Stmt}{tc:TT}{tb:TS}(hp:PassesOwn (model X.prog X.w) X.A X.env X.xe)(hc:PT X c tc)(hb:HQ X body tb):PS X (.While c body [] pos) (AR tc tb):=by
 intro pins s σ H D I h;obtain ⟨W,⟨m0,w0⟩,turn⟩:=h;refine wpAny_While (codeAny_whileLoop (λn s'=>∃σ' H',cF X pins σ' H' s'/\W n σ' H') ?_ m0 ⟨σ,H,I,w0⟩);rintro n s1 ⟨σ1,H1,I1,w1⟩;refine wpAny_passesOwn hp (thn (hc pins s1 σ1 H1 _ I1 (turn n σ1 H1 w1)) λb s2 ⟨H2,I2,q2⟩=>?_);cases b with
 | true =>
  obtain ⟨N,hN,q2⟩:=q2;rw [if_pos rfl];refine wpAny_passesOwn hp (thn (hb pins s2 σ1 H2 _ I2 q2) λf s3 q3=>?_);cases f with
  | next =>
   obtain ⟨σ3,H3,I3,n3⟩:=q3;obtain ⟨m',hm,w3⟩:=hN σ3 H3 n3;exact ⟨m',hm,σ3,H3,I3,w3⟩
  | cont =>
   obtain ⟨σ3,H3,I3,n3⟩:=q3;obtain ⟨m',hm,w3⟩:=hN σ3 H3 n3;exact ⟨m',hm,σ3,H3,I3,w3⟩
  | brk=>exact q3
  | ret v=>exact q3
 | false =>
  rw [if_neg bN];exact wpAny_execs_nil ⟨σ1,H2,I2,q2⟩
end
structure It where
 go:Nat->Hp->Prop
 yld:Nat->Hp->V->Hp->Prop
 stop:Nat->Hp->Prop
def iX(X:Cx)(pins:List (Addr × Obj))(H:Hp)(b:Addr):Prop :=
 H b=none/\b≠X.env.locals/\b ∉ X.fs/\(b∈X.ex\/X.s₀.heap.objs.size<=b)/\(∀x c,X.env.cells.lookup x=some c->c≠b)/\∀p∈X.pn++pins,p.1≠b
theorem cF.fpOk{X:Cx}{pins:List (Addr × Obj)}{σ:St}{H H':Hp}{s:Shared}{b:Addr}(I:cF X pins σ H s)(hb:s.heap.objs.size<=b)(hn:H' b=none):iX X pins H' b:=by
 refine ⟨hn,Nat.ne_of_gt (aO I.lt hb),I.nofs hb,.inr (aK I.sz hb),λx c e z=>?_,λp hp z=>?_⟩
 ·obtain ⟨v,q⟩:=I.cell x c e;exact absurd (aO q.lt (by rw [z];exact hb)) (bI _)
 ·exact absurd (aO (aT (I.pin p hp).1) (by rw [z];exact hb)) (bI _)
structure CN(P:Program)(w:World)(K:PySem.W.Frag)(tg:Expr)(J:It)(fp:List Addr)(it:Addr)(tn:Nat->Heap->Prop):Prop where
 mem:it∈fp
 obj:∀i h,tn i h->∀b∈fp,∃o,h.get? b=some o/\∀v,o.data ≠ .cell v
 keep:∀i h h',tn i h->(∀b∈fp,∀o,h.get? b=some o->h'.get? b=some o)->tn i h'
 item:∀(X:Cx),X.prog=P->X.w=w->X.K=K->X.calm=true->∀(i:Nat) (pins:List (Addr × Obj)) (s:Shared) (σ:St) (H:Hp) (E:Value->Shared->Prop),cF X pins σ H s->(∀b∈fp,iX X pins H b)->tn i s.heap->J.go i H ->
  wpAny (model P w) X.A (pyNext (.ref it)) (λr s1=>∃u,r=some u /\
   wpAny (model P w) X.A (letOwnedTupleGo tg (.ref it) u) (λ_ s2=>∃x H',cF X pins σ H' s2/\dJ x u/\J.yld i H x H'/\tn (i+1) s2.heap/\∀b∈fp,H' b=none) E s1) E s
 done:∀(X:Cx),X.prog=P->X.w=w->X.K=K->X.calm=true->∀(i:Nat) (pins:List (Addr × Obj)) (s:Shared) (σ:St) (H:Hp) (E:Value->Shared->Prop),cF X pins σ H s->(∀b∈fp,iX X pins H b)->tn i s.heap->J.stop i H ->
  wpAny (model P w) X.A (pyNext (.ref it)) (λr s1=>r=none/\cF X pins σ H s1) E s
 self:∀(A:Around) (i:Nat) (s:Shared) (Q:Value->Shared->Prop) (E:Value->Shared->Prop),tn i s.heap->Q (.ref it) s->wpAny (model P w) A (pyIter (.ref it)) Q E s
abbrev TI:=St->Hp->(It->Hp->Prop)->Prop
def PIE(X:Cx)(pins:List (Addr × Obj))(σ:St)(tg:Expr)(R:It->Hp->Prop)(itv:Value)(s2:Shared):Prop :=
 ∃(it:Addr) (fp:List Addr) (tn:Nat->Heap->Prop) (J:It) (H':Hp),itv=.ref it/\cF X pins σ H' s2/\CN X.prog X.w X.K tg J fp it tn/\tn 0 s2.heap/\(∀b∈fp,iX X pins H' b)/\R J H'
def PI(X:Cx)(tg iter:Expr)(wi:TI):Prop :=
 ∀(pins:List (Addr × Obj)) (s:Shared) (σ:St) (H:Hp) (R:It->Hp->Prop),cF X pins σ H s->wi σ H R ->
  wpAny (model X.prog X.w) X.A (eval iter X.env) (λv s1=>wpAny (model X.prog X.w) X.A (pyIter v) (PIE X pins σ tg R) X.xe s1) X.xe s
theorem JA{M:Model}{A:Around}{E:Value->Shared->Prop}{s:Shared}{tg:Expr}{it:Addr}{u:Value}{o:Obj}{n:String}{vs:Array Value}{Q:Unit->Shared->Prop}(ho:s.heap.get? it=some o)(hc:o.cls=.type n)(hd:o.data=.fields vs)
    (hn:["enumerate","zip","dict_itemiterator","dict_reverseitemiterator","odict_iterator","itertools.zip_longest","itertools.pairwise"].contains n=false) (hQ:Q () s):wpAny M A (letOwnedTupleGo tg (.ref it) u) Q E s:=by
  unfold letOwnedTupleGo;cases tg <;> first
    | exact wpAny_pure hQ
    | (cases u <;> first
        | exact wpAny_pure hQ
        | (refine wpAny_bind (wpAny_load ho ?_)
           rw [hc,hd];show wpAny M A (if (["enumerate","zip","dict_itemiterator","dict_reverseitemiterator","odict_iterator","itertools.zip_longest","itertools.pairwise"].contains n&&vs[0]? == some (rawInt _))=true then _ else _) Q E s;rw [if_neg (by intro h;rw [hn,Bool.false_and] at h;cases h)];exact wpAny_pure hQ))
def Itl(K:PySem.W.Frag)(a:Addr):It :=
 ⟨λi H=>∃xs x,fN K H a xs/\xs[i]?=some x,λi H x H'=>H'=H/\∀xs,fN K H a xs->xs[i]?=some x,λi H=>∃xs,fN K H a xs/\xs.length<=i⟩
def Itt(K:PySem.W.Frag)(a:Addr):It :=
 ⟨λi H=>∃xs x,jH K H a xs/\xs[i]?=some x,λi H x H'=>H'=H/\∀xs,jH K H a xs->xs[i]?=some x,λi H=>∃xs,jH K H a xs/\xs.length<=i⟩
def XY(lo:Int)(n:Nat):It:=⟨λi _=>i<n,λi H x H'=>H'=H/\x=.int (lo+i),λi _=>n<=i⟩
theorem KG{P:Program}{w:World}{K:PySem.W.Frag}{tg:Expr}(a it:Addr):CN P w K tg (Itl K a) [it] it (λi h=>h.IsListIter it a i) where
 mem:=by simp
 obj:=λi h st b hb=>by
  have e:b=it:=by simpa using hb
  subst e;obtain ⟨o,e,c,d⟩:=st;exact ⟨o,e,λv z=>by rw [d] at z;cases z⟩
 keep:=λi h h' st k=>st.at λo e=>k it (by simp) o e
 item:=by
  intro X hP hw hK hc i pins s σ H E I hf st hg;subst hP hw hK;obtain ⟨xs,x,hq,hx⟩:=hg;obtain ⟨its,rv,p,hz⟩:=I.list hq;obtain ⟨u,hu,ru⟩:=rv.get hx;obtain ⟨f0,f1,f2,f3,f4,f5⟩:=hf it (by simp);refine wpAny_pyNext_list_item st p.isList (x:=u) (by simpa using hu) λh' st' sb=>?_;have I1:cF X pins σ H { s with heap:=h' }:=I.turned (t':=s.toks) (λb o hb e=>(sb.2 b hb).trans e) f0 f1 f3 f4 f5;obtain ⟨o,e,c,d⟩:=id st';exact ⟨u,rfl,JA (s:={ s with heap:=h' }) e c d Dd ⟨x,H,I1,ru,⟨rfl,λys hy=>by rw [I.list_inj hy hq];exact hx⟩,st',λb hb=>(hf b hb).1⟩⟩
 done:=by
  intro X hP hw hK hc i pins s σ H E I hf st hg;subst hP hw hK;obtain ⟨xs,hq,hx⟩:=hg;obtain ⟨its,rv,p,hz⟩:=I.list hq;obtain ⟨f0,f1,f2,f3,f4,f5⟩:=hf it (by simp);have hl:=rv.length;exact wpAny_pyNext_list_end (I.ok.hd hc) st p.isList (by simp;omega) λh' eb=>⟨rfl,I.turned (t':=s.toks) (λb o hb e=>eb b o hb e) f0 f1 f3 f4 f5⟩
 self:=λ_ _ _ _ _ st h=>wpAny_pyIter_listiter st h
theorem FU{P:Program}{w:World}{K:PySem.W.Frag}{tg:Expr}(a it:Addr):CN P w K tg (Itt K a) [it] it (λi h=>h.IsTupleIter it a i) where
 mem:=by simp
 obj:=λi h st b hb=>by
  have e:b=it:=by simpa using hb
  subst e;obtain ⟨o,e,c,d⟩:=st;exact ⟨o,e,λv z=>by rw [d] at z;cases z⟩
 keep:=λi h h' st k=>st.at λo e=>k it (by simp) o e
 item:=by
  intro X hP hw hK hc i pins s σ H E I hf st hg;subst hP hw hK;obtain ⟨xs,x,hq,hx⟩:=hg;obtain ⟨its,rv,p,hz⟩:=I.tuple hq;obtain ⟨u,hu,ru⟩:=rv.get hx;obtain ⟨f0,f1,f2,f3,f4,f5⟩:=hf it (by simp);refine wpAny_pyNext_tuple_item st (show s.heap.IsTuple a its.toArray from p) (x:=u) (by simpa using hu) λh' st' sb=>?_;have I1:cF X pins σ H { s with heap:=h' }:=I.turned (t':=s.toks) (λb o hb e=>(sb.2 b hb).trans e) f0 f1 f3 f4 f5;obtain ⟨o,e,c,d⟩:=id st';exact ⟨u,rfl,JA (s:={ s with heap:=h' }) e c d Dd ⟨x,H,I1,ru,⟨rfl,λys hy=>by rw [I.tuple_inj hy hq];exact hx⟩,st',λb hb=>(hf b hb).1⟩⟩
 done:=by
  intro X hP hw hK hc i pins s σ H E I hf st hg;subst hP hw hK;obtain ⟨xs,hq,hx⟩:=hg;obtain ⟨its,rv,p,hz⟩:=I.tuple hq;obtain ⟨f0,f1,f2,f3,f4,f5⟩:=hf it (by simp);have hl:=rv.length;exact wpAny_pyNext_tuple_end (I.ok.hd hc) st (show s.heap.IsTuple a its.toArray from p) (by simp;omega) λh' eb=>⟨rfl,I.turned (t':=s.toks) (λb o hb e=>eb b o hb e) f0 f1 f3 f4 f5⟩
 self:=λ_ _ _ _ _ st h=>wpAny_pyIter_tupleiter st h
theorem FV{P:Program}{w:World}{K:PySem.W.Frag}{tg:Expr}(it:Addr)(lo:Int)(n:Nat):CN P w K tg (XY lo n) [it] it (λi h=>IsRangeIter h it (lo+(i:Nat)*1) ((n:Int)-(i:Nat)) 1) where
 mem:=by simp
 obj:=λi h st b hb=>by
  have e:b=it:=by simpa using hb
  subst e;exact ⟨_,st,λv z=>by
   have z':Data.fields _=Data.cell v:=z;cases z'⟩
 keep:=λi h h' st k=>k it (by simp) _ st
 item:=by
  intro X hP hw hK hc i pins s σ H E I hf st hg;subst hP hw hK;obtain ⟨f0,f1,f2,f3,f4,f5⟩:=hf it (by simp);have W:=Walks.range (prog:=X.prog) (w:=X.w) (I.ok.hd hc) it lo 1 n;refine W.item i s _ _ hg st λv h' tk hv st' kk=>?_;obtain ⟨t,rfl⟩:=hv;have I1:cF X pins σ H { s with heap:=h',toks:=tk }:=I.turned (λb o hb e=>kk b o (by simpa using hb) e) f0 f1 f3 f4 f5;refine ⟨_,rfl,JA (s:={ s with heap:=h',toks:=tk }) (n := "range_iterator") st' rfl rfl Dd ⟨.int (lo+i),H,I1,⟨t,?_⟩,⟨rfl,rfl⟩,st',λb hb=>(hf b hb).1⟩⟩;rw [Int.mul_one]
 done:=by
  intro X hP hw hK hc i pins s σ H E I hf st hg;subst hP hw hK;obtain ⟨f0,f1,f2,f3,f4,f5⟩:=hf it (by simp);exact wpAny_pyNext_range_end (I.ok.hd hc) st (by have:n<=i:=hg;omega) λh' eb=>⟨rfl,I.turned (t':=s.toks) (λb o hb e=>eb b o hb e) f0 f1 f3 f4 f5⟩
 self:=λ_ _ _ _ _ st h=>wpAny_pyIter_rangeiter st h
section
variable{X:Cx}{tg:Expr}
def YV(K:PySem.W.Frag)(tl:TE):TI:=λσ H R=>tl σ H λx H1=>∃a,x=.ref a/\(∃xs,fN K H1 a xs)/\R (Itl K a) H1
def aB6(K:PySem.W.Frag)(tl:TE):TI:=λσ H R=>tl σ H λx H1=>∃a,x=.ref a/\(∃xs,jH K H1 a xs)/\R (Itt K a) H1
theorem VT{l:Expr}{tl:TE}(hl:PE X l tl):PI X tg l (YV X.K tl):=by
 intro pins s σ H R I h;refine thn (hl pins s σ H _ I h) λv s1 ⟨x,H1,I1,r1,q1⟩=>?_;obtain ⟨a,e,⟨xs,hq⟩,q⟩:=q1;subst e;cases r1;obtain ⟨its,rv,p,hz⟩:=I1.list hq;refine wpAny_pyIter_list p.isList ?_;refine ⟨s1.heap.objs.size,[s1.heap.objs.size],_,_,H1,rfl,I1.kept (t':=s1.toks) λb o e=>aC _ e,KG a _,⟨_,bB _ rfl,rfl,rfl⟩,λb hb=>?_,q⟩;have e:b=s1.heap.objs.size:=by simpa using hb
 subst e;exact I1.fpOk (aI _) (I1.hok.fresh (aI _))
theorem aAn{l:Expr}{tl:TE}(hl:PE X l tl):PI X tg l (aB6 X.K tl):=by
 intro pins s σ H R I h;refine thn (hl pins s σ H _ I h) λv s1 ⟨x,H1,I1,r1,q1⟩=>?_;obtain ⟨a,e,⟨xs,hq⟩,q⟩:=q1;subst e;cases r1;obtain ⟨its,rv,p,hz⟩:=I1.tuple hq;refine wpAny_pyIter_tuple (show s1.heap.IsTuple a its.toArray from p) ?_;refine ⟨s1.heap.objs.size,[s1.heap.objs.size],_,_,H1,rfl,I1.kept (t':=s1.toks) λb o e=>aC _ e,FU a _,⟨_,bB _ rfl,rfl,rfl⟩,λb hb=>?_,q⟩;have e:b=s1.heap.objs.size:=by simpa using hb
 subst e;exact I1.fpOk (aI _) (I1.hok.fresh (aI _))
theorem OU{pins:List (Addr × Obj)}{σ:St}{H:Hp}{s:Shared}{R:It->Hp->Prop}{E:Value->Shared->Prop}{lo hi:Int}{t u v:Tok}{tk:Nat}(I:cF X pins σ H s)(h1:-(2^62)<=lo)(h2:lo<2^62)(h3:-(2^62)<=hi)(h4:hi<2^62)
  (q:R (XY lo (hi-lo).toNat) H):wpAny (model X.prog X.w) X.A (pyIter (.ref s.heap.objs.size)) (PIE X pins σ tg R) E { s with heap:=s.heap.push { cls:=.type "range",data:=.fields #[.int lo t,.int hi u,.int 1 v] },toks:=tk }:=by
 refine wpAny_pyIter_range (IsRange.new ..) (small_one h1 h2 h3 h4) ?_;have I1:cF X pins σ H { s with heap:=s.heap.push { cls:=.type "range",data:=.fields #[.int lo t,.int hi u,.int 1 v] },toks:=tk }:=I.kept λb o e=>aC _ e;refine ⟨(s.heap.push { cls:=.type "range",data:=.fields #[.int lo t,.int hi u,.int 1 v] }).objs.size,[(s.heap.push { cls:=.type "range",data:=.fields #[.int lo t,.int hi u,.int 1 v] }).objs.size],_,_,H,rfl,
  I1.kept (t':=tk) λb o e=>aC _ e,FV _ lo (hi-lo).toNat,?_,λb hb=>?_,q⟩
 ·have e1:lo+((0:Nat):Int)*1=lo:=by simp
  have e2:(((hi-lo).toNat:Nat):Int)-((0:Nat):Int)=Builtin.Range.rangeSize lo hi 1:=by rw [rangeSize_one];split <;> omega
  show IsRangeIter _ _ (lo+((0:Nat):Int)*1) ((((hi-lo).toNat:Nat):Int)-((0:Nat):Int)) 1;rw [e1,e2];exact bB _ rfl
 ·have e:b=(s.heap.push { cls:=.type "range",data:=.fields #[.int lo t,.int hi u,.int 1 v] }).objs.size:=by simpa using hb
  subst e;exact I1.fpOk (aI _) (I1.hok.fresh (aI _))
def YU(ta:TA):TI:=λσ H R=>ta σ H λvs H1=>∃j:Int,vs=[.int j]/\-(2^62)<=j/\j<2^62/\R (XY 0 j.toNat) H1
theorem LH{a:Expr}{ta:TA}{p pos:Pos}(hg:Gl X "range")(hm:X.mg "range" = none)(ha:PA X [a] ta)(hs:starEach [a] X.env=[(false,eval a X.env)]:=by rfl):PI X tg (.Call (.Name "range" p) [a] [] pos) (YU ta):=by
 intro pins s σ H R I h;refine Call_ (oU I hg hm boot_range (PyProof.Rows.callWith_type1 (thn (ha pos pins s σ H _ I h) λus s1 ⟨vs,H1,I1,r1,q1⟩=>?_) hs rfl));obtain ⟨j,e,q1,q2,q⟩:=q1;subst e;cases r1 with
 | cons r rr =>
  cases rr;obtain ⟨t,rfl⟩:=r;exact call_range_1 (OU I1 Oo Oo q1 q2 (by simpa using q))
def aBx(wi:TI)(g:TG)(tb:TS):TS:=λD σ H=>wi σ H λJ H1=>∃W:Nat->Nat->St->Hp->Prop,(∃m,W 0 m σ H1)/\∀i m σ H,W i m σ H ->
 (J.stop i H/\D.nx σ H)\/(J.go i H/\∃N:St->Hp->Prop,(∀σ' H',N σ' H'->∃m',m' < m/\W (i+1) m' σ' H')/\∀x H',J.yld i H x H'->g x σ H' λσ2 H2=>tb { D with nx:=N,ct:=N,bk:=D.nx } σ2 H2)
def rQ(fp:List Addr)(h:Heap):List (Addr × Obj):=fp.filterMap λb=>(h.get? b).map λo=>(b,o)
theorem iN{fp:List Addr}{h:Heap}{b:Addr}{o:Obj}(hb:b∈fp)(e:h.get? b=some o):(b,o)∈rQ fp h:=List.mem_filterMap.mpr ⟨b,hb,by rw [e];rfl⟩
theorem LK{fp:List Addr}{h:Heap}{p:Addr × Obj}(hp:p∈rQ fp h):p.1∈fp/\h.get? p.1=some p.2:=by
 obtain ⟨b,hb,e⟩:=List.mem_filterMap.mp hp;cases q:h.get? b with
 | none=>rw [q] at e;cases e
 | some o =>
  rw [q] at e;have e':(b,o)=p:=fQ e;subst e';exact ⟨hb,q⟩
theorem cF.pinned{pins:List (Addr × Obj)}{σ:St}{H:Hp}{s:Shared}{fp:List Addr}(I:cF X pins σ H s)(hf:∀b∈fp,iX X pins H b)(ho:∀b∈fp,∃o,s.heap.get? b=some o/\∀v,o.data ≠ .cell v):cF X (pins++rQ fp s.heap) σ H s :=
 I.pins_of λp hp=>(bX.mp hp).elim (λz=>I.pin p (aN _ z)) λz=>by
  obtain ⟨hb,e⟩:=LK z;obtain ⟨f0,f1,f2,_⟩:=hf p.1 hb;obtain ⟨o,e',d⟩:=ho p.1 hb;rw [e] at e';cases e';exact ⟨e,f0,f1,f2,d⟩
theorem cF.unpinned{pins pl:List (Addr × Obj)}{σ:St}{H:Hp}{s:Shared}(I:cF X (pins++pl) σ H s):cF X pins σ H s:=I.pins_of λp hp=>I.pin p (aN _ (bV _ hp))
theorem aAh{iter:Expr}{body:List Stmt}{wi:TI}{g:TG}{tb:TS}{pos:Pos}(hp:PassesOwn (model X.prog X.w) X.A X.env X.xe)(hc:X.calm=true)(hi:PI X tg iter wi)(hg:PG X tg g)(hb:HQ X body tb)
  (hs:∀x,foldedSetIterable iter X.env x=pure x:=by intro _;rfl):PS X (.For tg iter body [] pos) (aBx wi g tb):=by
 intro pins s σ H D I h;refine wpAny_For (thn (hi pins s σ H _ I h) λv s1 h1=>thn h1 λitv s2 h2=>?_) hs;obtain ⟨it,fp,tn,J,H2,e,I2,T,st2,f2,W,⟨m0,w0⟩,turn⟩:=h2;subst e;have stat:∀{H':Hp},(∀b∈fp,H' b=none)->∀b∈fp,iX X pins H' b:=λhn b hb=>⟨hn b hb,(f2 b hb).2⟩;refine codeAny_forLoop_any (λn s'=>∃i σ' H',cF X pins σ' H' s'/\tn i s'.heap/\(∀b∈fp,H' b=none)/\W i n σ' H') ?_ m0 ⟨0,σ,H2,I2,st2,λb hb=>(f2 b hb).1,w0⟩;rintro n s3 ⟨i,σ3,H3,I3,st3,fr3,w3⟩;rcases turn i n σ3 H3 w3 with ⟨stop,qn⟩ | ⟨go,N,hN,step⟩
 ·refine wpAny_passesOwn hp (thn (T.done X rfl rfl rfl hc i pins s3 σ3 H3 X.xe I3 (stat fr3) st3 stop) λr s4 ⟨hr,I4⟩=>?_);subst hr;exact wpAny_execs_nil ⟨σ3,H3,I4,qn⟩
 ·refine wpAny_passesOwn hp (thn (T.item X rfl rfl rfl hc i pins s3 σ3 H3 X.xe I3 (stat fr3) st3 go) λr s4 ⟨u,hr,h4⟩=>?_);subst hr;refine wpAny_passesOwn hp (thn h4 λ_ s5 ⟨x,H5,I5,r5,y5,st5,fr5⟩=>?_);have I5':=I5.pinned (stat fr5) (T.obj _ _ st5);refine wpAny_passesOwn hp (thn (hg _ s5 σ3 H5 x u _ I5' r5 (step x H5 y5)) λ_ s6 ⟨σ6,H6,I6,q6⟩=>?_);refine wpAny_passesOwn hp (thn (hb _ s6 σ6 H6 _ I6 q6) λf s7 q7=>?_);have again:∀{σ7:St} {H7:Hp},cF X (pins++rQ fp s5.heap) σ7 H7 s7->N σ7 H7->∃m,m<n/\∃i σ' H',cF X pins σ' H' s7/\tn i s7.heap/\(∀b∈fp,H' b=none)/\W i m σ' H':=λ{σ7 H7} I7 n7=>by
   obtain ⟨m',hm,w7⟩:=hN σ7 H7 n7;refine ⟨m',hm,i+1,σ7,H7,I7.unpinned,T.keep _ _ _ st5 λb hb o e=>(I7.pin (b,o) (aN _ (aN _ (iN hb e)))).1,λb hb=>?_,w7⟩;obtain ⟨o,e,d⟩:=T.obj _ _ st5 b hb;exact (I7.pin (b,o) (aN _ (aN _ (iN hb e)))).2.1
  cases f with
  | next=>obtain ⟨σ7,H7,I7,n7⟩:=q7;exact again I7 n7
  | cont=>obtain ⟨σ7,H7,I7,n7⟩:=q7;exact again I7 n7
  | brk=>obtain ⟨σ7,H7,I7,q7⟩:=q7;exact ⟨σ7,H7,I7.unpinned,q7⟩
  | ret v=>obtain ⟨x7,σ7,H7,I7,r7,q7⟩:=q7;exact ⟨x7,σ7,H7,I7.unpinned,r7,q7⟩
end
theorem jY{K:PySem.W.Frag}{a:Addr}{xs:List V}{g:TG}{tb:TS}{D:tY}{σ:St}{H:Hp}(Pv:Nat->St->Hp->Prop)(h0:Pv 0 σ H)(hl:∀i σ H,i<=xs.length->Pv i σ H->fN K H a xs)
  (hs:∀i x σ H,xs[i]?=some x->Pv i σ H->g x σ H λσ2 H2=>tb { D with nx:=Pv (i+1),ct:=Pv (i+1),bk:=D.nx } σ2 H2) (hd:∀σ H,Pv xs.length σ H->D.nx σ H) :
  ∃W:Nat->Nat->St->Hp->Prop,(∃m,W 0 m σ H)/\∀i m σ H,W i m σ H ->
   ((Itl K a).stop i H/\D.nx σ H)\/((Itl K a).go i H/\∃N:St->Hp->Prop,(∀σ' H',N σ' H'->∃m',m' < m/\W (i+1) m' σ' H')/\∀x H',(Itl K a).yld i H x H'->g x σ H' λσ2 H2=>tb { D with nx:=N,ct:=N,bk:=D.nx } σ2 H2):=by
 refine ⟨λi m σ H=>m=xs.length-i/\i<=xs.length/\Pv i σ H,⟨xs.length,by simp,cE _,h0⟩,?_⟩;rintro i m σ H ⟨rfl,hi,p⟩;have q:=hl i σ H hi p;by_cases hlt:i<xs.length
 ·refine .inr ⟨⟨xs,xs[i],q,by simp [hlt]⟩,Pv (i+1),λσ' H' p'=>⟨xs.length-(i+1),Oo,rfl,hlt,p'⟩,λx H' y=>?_⟩;obtain ⟨e,y⟩:=y;subst e;exact hs i x σ _ (y xs q) p
 ·have e:i=xs.length:=Oo;subst e;exact .inl ⟨⟨xs,q,aI _⟩,hd σ H p⟩
theorem WT{K:PySem.W.Frag}{a:Addr}{xs:List V}{g:TG}{tb:TS}{D:tY}{σ:St}{H:Hp}(Pv:Nat->St->Hp->Prop)(h0:Pv 0 σ H)(hl:∀i σ H,i<=xs.length->Pv i σ H->jH K H a xs)
  (hs:∀i x σ H,xs[i]?=some x->Pv i σ H->g x σ H λσ2 H2=>tb { D with nx:=Pv (i+1),ct:=Pv (i+1),bk:=D.nx } σ2 H2) (hd:∀σ H,Pv xs.length σ H->D.nx σ H) :
  ∃W:Nat->Nat->St->Hp->Prop,(∃m,W 0 m σ H)/\∀i m σ H,W i m σ H ->
   ((Itt K a).stop i H/\D.nx σ H)\/((Itt K a).go i H/\∃N:St->Hp->Prop,(∀σ' H',N σ' H'->∃m',m' < m/\W (i+1) m' σ' H')/\∀x H',(Itt K a).yld i H x H'->g x σ H' λσ2 H2=>tb { D with nx:=N,ct:=N,bk:=D.nx } σ2 H2):=by
 refine ⟨λi m σ H=>m=xs.length-i/\i<=xs.length/\Pv i σ H,⟨xs.length,by simp,cE _,h0⟩,?_⟩;rintro i m σ H ⟨rfl,hi,p⟩;have q:=hl i σ H hi p;by_cases hlt:i<xs.length
 ·refine .inr ⟨⟨xs,xs[i],q,by simp [hlt]⟩,Pv (i+1),λσ' H' p'=>⟨xs.length-(i+1),Oo,rfl,hlt,p'⟩,λx H' y=>?_⟩;obtain ⟨e,y⟩:=y;subst e;exact hs i x σ _ (y xs q) p
 ·have e:i=xs.length:=Oo;subst e;exact .inl ⟨⟨xs,q,aI _⟩,hd σ H p⟩
theorem fZ{lo:Int}{n:Nat}{g:TG}{tb:TS}{D:tY}{σ:St}{H:Hp}(Pv:Nat->St->Hp->Prop)(h0:Pv 0 σ H)
  (hs:∀i σ H,i<n->Pv i σ H->g (.int (lo+i)) σ H λσ2 H2=>tb { D with nx:=Pv (i+1),ct:=Pv (i+1),bk:=D.nx } σ2 H2) (hd:∀σ H,Pv n σ H->D.nx σ H) :
  ∃W:Nat->Nat->St->Hp->Prop,(∃m,W 0 m σ H)/\∀i m σ H,W i m σ H ->
   ((XY lo n).stop i H/\D.nx σ H)\/((XY lo n).go i H/\∃N:St->Hp->Prop,(∀σ' H',N σ' H'->∃m',m' < m/\W (i+1) m' σ' H')/\∀x H',(XY lo n).yld i H x H'->g x σ H' λσ2 H2=>tb { D with nx:=N,ct:=N,bk:=D.nx } σ2 H2):=by
 refine ⟨λi m σ H=>m=n-i/\i<=n/\Pv i σ H,⟨n,by simp,cE _,h0⟩,?_⟩;rintro i m σ H ⟨rfl,hi,p⟩;by_cases hlt:i<n
 ·refine .inr ⟨hlt,Pv (i+1),λσ' H' p'=>⟨n-(i+1),Oo,rfl,hlt,p'⟩,λx H' y=>?_⟩;obtain ⟨e,y⟩:=y;subst e y;exact hs i σ _ hlt p
 ·have e:i=n:=Oo;subst e;exact .inl ⟨aI _,hd σ H p⟩
abbrev R2:=V->V->Hp->VK->Prop
def tW(X:Cx)(f:Value->Value->Sem Value)(r:R2):Prop :=
 ∀(pins:List (Addr × Obj)) (s:Shared) (σ:St) (H:Hp) (x y:V) (v u:Value) (Q:VK),cF X pins σ H s->dJ x v->dJ y u->r x y H Q ->
  wpAny (model X.prog X.w) X.A (f v u) (EP X pins σ Q) X.xe s
def UnR(X:Cx)(f:Value->Sem Value)(r:V->Hp->VK->Prop):Prop :=
 ∀(pins:List (Addr × Obj)) (s:Shared) (σ:St) (H:Hp) (x:V) (v:Value) (Q:VK),cF X pins σ H s->dJ x v->r x H Q ->
  wpAny (model X.prog X.w) X.A (f v) (EP X pins σ Q) X.xe s
def jJ(X:Cx)(f:Value)(r:List V->Hp->VK->Prop):Prop :=
 ∀(pins:List (Addr × Obj)) (s:Shared) (σ:St) (H:Hp) (xs:List V) (us:List Value) (Q:VK),cF X pins σ H s->cZ xs us->r xs H Q ->
  wpAny (model X.prog X.w) X.A (call f us) (EP X pins σ Q) X.xe s
def SZ(r:R2)(ta tb:TE):TE:=λσ H Q=>ta σ H λx H1=>tb σ H1 λy H2=>r x y H2 Q
def tUn(r:V->Hp->VK->Prop)(ta:TE):TE:=λσ H Q=>ta σ H λx H1=>r x H1 Q
def rI(C:Int->Int->Prop)(g:Int->Int->V):R2:=λx y H Q=>∃i j,x=.int i/\y=.int j/\C i j/\Q (g i j) H
def ZZ(g:Int->Int->V):R2:=λx y H Q=>∃i j,x=.int i/\y=.int j/\Q (g i j) H
def rU(g:Int->V):V->Hp->VK->Prop:=λx H Q=>∃i,x=.int i/\Q (g i) H
section
variable{X:Cx}{a b c:Expr}{ta tb tc:TE}{pos:Pos}
theorem aAZ(ha:PE X a ta)(hb:PE X b tb){pins:List (Addr × Obj)}{s:Shared}{σ:St}{H:Hp}{R:V->V->Hp->Prop}(I:cF X pins σ H s)
  (h:ta σ H λx H1=>tb σ H1 λy H2=>R x y H2) {Q:Value->Shared->Prop} {f:Value->Value->Sem Value}
  (hf:∀v u s2 x y H2,cF X pins σ H2 s2->dJ x v->dJ y u->R x y H2->wpAny (model X.prog X.w) X.A (f v u) Q X.xe s2) :
  wpAny (model X.prog X.w) X.A (eval a X.env) (λv s₁=>wpAny (model X.prog X.w) X.A (eval b X.env) (λu s₂=>wpAny (model X.prog X.w) X.A (f v u) Q X.xe s₂) X.xe s₁) X.xe s:=by
 refine thn (ha pins s σ H _ I h) λv s1 ⟨x,H1,I1,r1,q1⟩=>?_;refine thn (hb pins s1 σ H1 _ I1 q1) λu s2 ⟨y,H2,I2,r2,q2⟩=>?_;exact hf v u s2 x y H2 I2 r1 r2 q2
theorem aBS{op:Operator}{r:R2}(ho:tW X (binaryOp op) r)(ha:PE X a ta)(hb:PE X b tb):PE X (.BinOp a op b pos) (SZ r ta tb):=by
 intro pins s σ H Q I h;exact wpAny_BinOp (aAZ ha hb I h λv u s2 x y H2 I2 rx ry q=>ho pins s2 σ H2 x y v u Q I2 rx ry q)
theorem aBR{op:UnaryOp}{r:V->Hp->VK->Prop}(ho:UnR X (unaryOp op) r)(ha:PE X a ta):PE X (.UnaryOp op a pos) (tUn r ta):=by
 intro pins s σ H Q I h;exact UnaryOp_ (thn (ha pins s σ H _ I h) λv s1 ⟨x,H1,I1,r1,q1⟩=>ho pins s1 σ H1 x v Q I1 r1 q1)
theorem opI{f:Value->Value->Sem Value}{C:Int->Int->Prop}{g:Int->Int->Int}
  (rule:∀(i j:Int) (t u:Tok) (s:Shared) (Q:Value->Shared->Prop) (E:Value->Shared->Prop),C i j->Q (.int (g i j) s.toks) { s with toks:=s.toks+1 }->wpAny (model X.prog X.w) X.A (f (.int i t) (.int j u)) Q E s) :
  tW X f (rI C λi j=>.int (g i j)):=by
 intro pins s σ H x y v u Q I rx ry h;obtain ⟨i,j,rfl,rfl,hc,q⟩:=h;obtain ⟨t,rfl⟩:=rx;obtain ⟨t',rfl⟩:=ry;exact rule i j t t' s _ _ hc ⟨.int (g i j),H,I.tok _,⟨_,rfl⟩,q⟩
theorem aBX{f:Value->Value->Sem Value}{g:Int->Int->Int}
  (rule:∀(i j:Int) (t u:Tok) (s:Shared) (Q:Value->Shared->Prop) (E:Value->Shared->Prop),Q (.int (g i j) s.toks) { s with toks:=s.toks+1 }->wpAny (model X.prog X.w) X.A (f (.int i t) (.int j u)) Q E s) :
  tW X f (ZZ λi j=>.int (g i j)):=by
 intro pins s σ H x y v u Q I rx ry h;obtain ⟨i,j,rfl,rfl,q⟩:=h;obtain ⟨t,rfl⟩:=rx;obtain ⟨t',rfl⟩:=ry;exact rule i j t t' s _ _ ⟨.int (g i j),H,I.tok _,⟨_,rfl⟩,q⟩
theorem aAv{f:Value->Value->Sem Value}{g:Int->Int->Bool}
  (rule:∀(i j:Int) (t u:Tok) (s:Shared) (Q:Value->Shared->Prop) (E:Value->Shared->Prop),Q (.bool (g i j)) s->wpAny (model X.prog X.w) X.A (f (.int i t) (.int j u)) Q E s) :
  tW X f (ZZ λi j=>.bl (g i j)):=by
 intro pins s σ H x y v u Q I rx ry h;obtain ⟨i,j,rfl,rfl,q⟩:=h;obtain ⟨t,rfl⟩:=rx;obtain ⟨t',rfl⟩:=ry;exact rule i j t t' s _ _ ⟨.bl (g i j),H,I,rfl,q⟩
def aDR(i j:Int):Prop:=0<=j/\j<=1000000/\i.natAbs<2^64
theorem dQ:tW X (binaryOp .Add) (ZZ λi j=>.int (i+j)):=aBX λ_ _ _ _ _ _ _ q=>add_int q
theorem rT:tW X (binaryOp .Sub) (ZZ λi j=>.int (i-j)):=aBX λ_ _ _ _ _ _ _ q=>sub_int q
theorem mR:tW X (binaryOp .Mod) (rI (λ_ j=>0<j) λi j=>.int (i % j)):=opI λi j _ _ _ _ _ hc q=>by
 have h1:(0:Int)<j:=hc;exact mod_int' Oo (by rw [Int.fmod_eq_emod_of_nonneg i Oo];exact q)
theorem aAu:tW X (binaryOp .Pow) (rI aDR λi j=>.int (i^j.toNat)):=opI λ_ _ _ _ _ _ _ hc q=>pow_int_small hc.1 hc.2.1 hc.2.2 q
theorem unI{f:Value->Sem Value}{g:Int->Int}
  (rule:∀(i:Int) (t:Tok) (s:Shared) (Q:Value->Shared->Prop) (E:Value->Shared->Prop),Q (.int (g i) s.toks) { s with toks:=s.toks+1 }->wpAny (model X.prog X.w) X.A (f (.int i t)) Q E s) :
  UnR X f (rU λi=>.int (g i)):=by
 intro pins s σ H x v Q I rx h;obtain ⟨i,rfl,q⟩:=h;obtain ⟨t,rfl⟩:=rx;exact rule i t s _ _ ⟨.int (g i),H,I.tok _,⟨_,rfl⟩,q⟩
theorem NH:UnR X (unaryOp .USub) (rU λi=>.int (-i)):=unI λ_ _ _ _ _ q=>neg_int q
end
def scal:V->V->Bool
 | .non,.non=>true | .non,.int _=>true | .int _,.non=>true | .non,.bl _=>true | .bl _,.non=>true | .non,.str _=>true | .str _,.non=>true
 | .int _,.int _=>true | .bl _,.bl _=>true | .str _,.str _=>true | .byt _,.byt _=>true
 | .int _,.str _=>true | .str _,.int _=>true | .bl _,.str _=>true | .str _,.bl _=>true
 | _,_=>false
def rEq:R2:=λx y H Q=>scal x y=true/\Q (.bl (decide (x=y))) H
def rNe:R2:=λx y H Q=>scal x y=true/\Q (.bl (!decide (x=y))) H
theorem JJ{i j:Int}:decide (V.int i=V.int j)=(i == j):=by
 rw [Bool.eq_iff_iff];simp
theorem QY{i j:Bool}:decide (V.bl i=V.bl j)=(i == j):=by
 rw [Bool.eq_iff_iff];simp
theorem JI{i j:Str}:decide (V.str i=V.str j)=(i == j):=by
 rw [Bool.eq_iff_iff];simp
theorem JK{i j:Array UInt8}:decide (V.byt i=V.byt j)=(i.toList == j.toList):=by
 rw [Bool.eq_iff_iff];cases i;cases j;simp
section
variable{X:Cx}{a b c:Expr}{ta tb tc:TE}{pos:Pos}
theorem eT{pins:List (Addr × Obj)}{σ:St}{H:Hp}{s:Shared}{Q:VK}{k k':Bool}(I:cF X pins σ H s)(q:Q (.bl k) H)(e:k=k'):EP X pins σ Q (.bool k') s:=by
 subst e;exact ⟨.bl k,H,I,rfl,q⟩
theorem vJ:tW X (compareOp .Eq) rEq:=by
 intro pins s σ H x y v u Q I rx ry h;obtain ⟨hs,q⟩:=h;cases x with
 | non =>
  cases rx;cases y with
  | non=>cases ry;exact PySem.EqNone.eq_none_none (eT I q (by simp))
  | bl j=>cases ry;exact PySem.EqNone.eq_none_bool (eT I q (by simp))
  | int j=>obtain ⟨t',rfl⟩:=ry;exact PySem.EqNone.eq_none_int (eT I q (by simp))
  | str j=>obtain ⟨t',rfl⟩:=ry;exact PySem.EqNone.eq_none_str (eT I q (by simp))
  | _=>exact absurd (show false=true from hs) bN
 | bl i =>
  cases rx;cases y with
  | non=>cases ry;exact PySem.EqNone.eq_bool_none (eT I q (by simp))
  | bl j=>cases ry;exact eq_bool (eT I q QY)
  | str j=>obtain ⟨t',rfl⟩:=ry;exact PySem.EqMixed.eq_bool_str (eT I q (by simp))
  | _=>exact absurd (show false=true from hs) bN
 | int i =>
  obtain ⟨t,rfl⟩:=rx;cases y with
  | non=>cases ry;exact PySem.EqNone.eq_int_none (eT I q (by simp))
  | int j=>obtain ⟨t',rfl⟩:=ry;exact eq_int (eT I q JJ)
  | str j=>obtain ⟨t',rfl⟩:=ry;exact PySem.EqMixed.eq_int_str (eT I q (by simp))
  | _=>exact absurd (show false=true from hs) bN
 | str i =>
  obtain ⟨t,rfl⟩:=rx;cases y with
  | non=>cases ry;exact PySem.EqNone.eq_str_none (eT I q (by simp))
  | bl j=>cases ry;exact PySem.EqMixed.eq_str_bool (eT I q (by simp))
  | int j=>obtain ⟨t',rfl⟩:=ry;exact PySem.EqMixed.eq_str_int (eT I q (by simp))
  | str j=>obtain ⟨t',rfl⟩:=ry;exact eq_str (eT I q JI)
  | _=>exact absurd (show false=true from hs) bN
 | byt i =>
  obtain ⟨t,rfl⟩:=rx;cases y with
  | byt j=>obtain ⟨t',rfl⟩:=ry;exact PySem.W.eq_bytes (eT I q JK)
  | _=>exact absurd (show false=true from hs) bN
 | _=>cases y <;> exact absurd (show false=true from hs) bN
theorem DX:tW X (compareOp .NotEq) rNe:=by
 intro pins s σ H x y v u Q I rx ry h;obtain ⟨hs,q⟩:=h;cases x with
 | non =>
  cases rx;cases y with
  | non=>cases ry;exact PySem.EqNone.ne_none_none (eT I q (by simp))
  | bl j=>cases ry;exact PySem.EqNone.ne_none_bool (eT I q (by simp))
  | int j=>obtain ⟨t',rfl⟩:=ry;exact PySem.EqNone.ne_none_int (eT I q (by simp))
  | str j=>obtain ⟨t',rfl⟩:=ry;exact PySem.EqNone.ne_none_str (eT I q (by simp))
  | _=>exact absurd (show false=true from hs) bN
 | bl i =>
  cases rx;cases y with
  | non=>cases ry;exact PySem.EqNone.ne_bool_none (eT I q (by simp))
  | bl j=>cases ry;exact ne_bool (eT I q (congrArg not QY))
  | str j=>obtain ⟨t',rfl⟩:=ry;exact PySem.EqMixed.ne_bool_str (eT I q (by simp))
  | _=>exact absurd (show false=true from hs) bN
 | int i =>
  obtain ⟨t,rfl⟩:=rx;cases y with
  | non=>cases ry;exact PySem.EqNone.ne_int_none (eT I q (by simp))
  | int j=>obtain ⟨t',rfl⟩:=ry;exact ne_int (eT I q (congrArg not JJ))
  | str j=>obtain ⟨t',rfl⟩:=ry;exact PySem.EqMixed.ne_int_str (eT I q (by simp))
  | _=>exact absurd (show false=true from hs) bN
 | str i =>
  obtain ⟨t,rfl⟩:=rx;cases y with
  | non=>cases ry;exact PySem.EqNone.ne_str_none (eT I q (by simp))
  | bl j=>cases ry;exact PySem.EqMixed.ne_str_bool (eT I q (by simp))
  | int j=>obtain ⟨t',rfl⟩:=ry;exact PySem.EqMixed.ne_str_int (eT I q (by simp))
  | str j=>obtain ⟨t',rfl⟩:=ry;exact ne_str (eT I q (congrArg not JI))
  | _=>exact absurd (show false=true from hs) bN
 | byt i =>
  obtain ⟨t,rfl⟩:=rx;cases y with
  | byt j=>obtain ⟨t',rfl⟩:=ry;exact PySem.W.ne_bytes (eT I q (congrArg not JK))
  | _=>exact absurd (show false=true from hs) bN
 | _=>cases y <;> exact absurd (show false=true from hs) bN
theorem xC:tW X (compareOp .Lt) (ZZ λi j=>.bl (decide (i<j))):=aAv λ_ _ _ _ _ _ _ q=>lt_int q
theorem yZ:tW X (compareOp .Gt) (ZZ λi j=>.bl (decide (j<i))):=aAv λ_ _ _ _ _ _ _ q=>gt_int q
theorem aBW:tW X (compareOp .GtE) (ZZ λi j=>.bl (decide (j<=i))):=aAv λ_ _ _ _ _ _ _ q=>ge_int q
theorem nomark(b:Expr){op:CmpOp}(h:op ≠ .In:=by decide)(h2:op ≠ .NotIn:=by decide):behindInMarks op b=false:=by
 have e1:(op == CmpOp.In)=false:=by cases op <;> first | rfl | exact absurd rfl h
 have e2:(op == CmpOp.NotIn)=false:=by cases op <;> first | rfl | exact absurd rfl h2
 cases b <;> simp [behindInMarks,e1,e2]
theorem WB{op:CmpOp}{r:R2}(ho:tW X (compareOp op) r)(ha:PE X a ta)(hb:PE X b tb)(hm:behindInMarks op b=false):PE X (.Compare a [op] [b] pos) (SZ r ta tb):=by
 intro pins s σ H Q I h;exact wpAny_Compare1 (aAZ ha hb I h λv u s2 x y H2 I2 rx ry q=>ho pins s2 σ H2 x y v u Q I2 rx ry q) hm
def YE(t:TE):TT:=λσ H Q=>t σ H λx H'=>∃k,x=.bl k/\Q k H'
theorem VM{op:CmpOp}{r:R2}(ho:tW X (compareOp op) r)(ha:PE X a ta)(hb:PE X b tb)(hm:behindInMarks op b=false):PT X (.Compare a [op] [b] pos) (YE (SZ r ta tb)):=by
 intro pins s σ H Q I h;refine wpAny_isTrue_Compare1 (thn (ha pins s σ H _ I h) λv s1 ⟨x,H1,I1,r1,q1⟩=>thn (hb pins s1 σ H1 _ I1 q1) λu s2 ⟨y,H2,I2,r2,q2⟩ =>
  thn (ho pins s2 σ H2 x y v u _ I2 r1 r2 q2) λc s3 ⟨z,H3,I3,r3,k,e,q3⟩=>?_) hm
 subst e;cases r3;exact wpAny_truthy_bool ⟨H3,I3,q3⟩
theorem xF:(sizeLine:Nat)<2^63:=by rw [sizeLine_eq];decide
theorem lD{x:V}{us:List Value}(r:cZ [x] us):∃u,us=[u]/\dJ x u:=by
 cases r with
 | cons r1 r2=>cases r2;exact ⟨_,rfl,r1⟩
theorem aBo{x y:V}{us:List Value}(r:cZ [x,y] us):∃u w',us=[u,w']/\dJ x u/\dJ y w':=by
 cases r with
 | cons r1 r2 =>
  cases r2 with
  | cons r3 r4=>cases r4;exact ⟨_,_,rfl,r1,r3⟩
theorem RN:jJ X (.builtin "abs") (λxs H Q=>∃i,xs=[.int i]/\Q (.int (if i<0 then -i else i)) H):=by
 intro pins s σ H xs us Q I r h;obtain ⟨i,rfl,q⟩:=h;obtain ⟨u,rfl,t,rfl⟩:=lD r;exact call_abs_int λu tk=>⟨.int (if i<0 then -i else i),H,I.tok _,⟨_,rfl⟩,q⟩
theorem zW:jJ X (.type "int") (λxs H Q=>(∃i,xs=[.int i]/\Q (.int i) H)\/∃k,xs=[.bl k]/\Q (.int (if k then 1 else 0)) H):=by
 intro pins s σ H xs us Q I r h;rcases h with ⟨i,rfl,q⟩ | ⟨k,rfl,q⟩
 ·obtain ⟨u,rfl,t,rfl⟩:=lD r;exact call_int_int ⟨.int i,H,I,⟨_,rfl⟩,q⟩
 ·obtain ⟨u,rfl,r1⟩:=lD r;cases r1;exact call_int_bool ⟨.int (if k then 1 else 0),H,I.tok _,⟨_,rfl⟩,q⟩
def aCk(K:PySem.W.Frag)(x:V)(H:Hp)(n:Nat):Prop :=
 match x with
 | .str y=>y.length<=sizeLine/\n=y.length
 | .byt y=>y.size<=sizeLine/\n=y.size
 | .ref p=>(∃xs,fN K H p xs/\n=xs.length)\/∃xs,jH K H p xs/\n=xs.length
 | _=>False
theorem RM:jJ X (.builtin "len") (λxs H Q=>∃x n,xs=[x]/\aCk X.K x H n/\Q (.int n) H):=by
 intro pins s σ H xs us Q I r h;obtain ⟨x,n,rfl,e,q⟩:=h;obtain ⟨u,rfl,rx⟩:=lD r;have hl:=xF;have hs:sizeLine=16777216:=sizeLine_eq;cases x with
 | str y =>
  obtain ⟨t,rfl⟩:=rx;obtain ⟨hy,e'⟩:y.length<=sizeLine/\n=y.length:=e;subst e';exact len_str Oo ⟨.int _,H,I.tok _,⟨_,rfl⟩,q⟩
 | byt y =>
  obtain ⟨t,rfl⟩:=rx;obtain ⟨hy,e'⟩:y.size<=sizeLine/\n=y.size:=e;subst e';exact PySem.W.len_bytes Oo ⟨.int _,H,I.tok _,⟨_,rfl⟩,q⟩
 | ref p =>
  cases rx;have e':(∃xs,fN X.K H p xs/\n=xs.length)\/∃xs,jH X.K H p xs/\n=xs.length:=e;rcases e' with ⟨xs,hx,e'⟩ | ⟨xs,hx,e'⟩
  ·subst e';obtain ⟨its,r',pl,hz⟩:=I.list hx;have hlen:=r'.length;exact Calls.call_len_list pl.isList (by simp only [aS];omega) ⟨.int xs.length,H,I.tok _,⟨_,by simp only [aS];rw [hlen]⟩,q⟩
  ·subst e';obtain ⟨its,r',pl,hz⟩:=I.tuple hx;have hlen:=r'.length;exact len_tuple pl (by simp only [aS];omega) ⟨.int xs.length,H,I.tok _,⟨_,by simp only [aS];rw [hlen]⟩,q⟩
 | _=>exact (show False from e).elim
end
structure MN(h:Heap)(x dx C:Addr)(mA:Str->Option Value):Prop where
 obj:h.get? x=some (PySem.W.instObj C dx)
 ns:h.Ns1 dx mA
 ne:dx≠x
theorem LM{h:Heap}{dx:Addr}{mA:Str->Option Value}(n:h.Ns1 dx mA):∃od,h.get? dx=some od/\∀name,PySem.W.lookIn name od=some (mA name):=by
 obtain ⟨o,es,ep,ho,hd,hk,_,hm⟩:=n;refine ⟨o,ho,λname=>?_⟩;have e:=hm name;unfold nsFind findBy at e;rw [<-Array.find?_toList] at e;unfold PySem.W.lookIn;rw [hd];dsimp only;split
 ·rename_i y q
  rw [q] at e;exact congrArg some e
 ·rename_i q
  rw [q] at e;have a:es.toList.any (·.refKey)=false:=by
   rw [List.any_eq_false];intro y hy;obtain ⟨z,t,hkey⟩:=hk y (Array.mem_toList_iff.mp hy);simp [DictEntry.refKey,hkey]
  have a':¬es.toList.any (·.refKey)=true:=by rw [a];exact bN
  rw [if_neg a'];exact congrArg some e
theorem MN.look{h:Heap}{x dx C:Addr}{mA:Str->Option Value}(I:MN h x dx C mA):∃od,PySem.W.InstAt h x (PySem.W.instObj C dx) C (some od)/\∀name,PySem.W.lookIn name od=some (mA name) :=
 let ⟨od,ho,hl⟩:=LM I.ns
 ⟨od,⟨I.obj,rfl,rfl,ho⟩,hl⟩
section
variable{prog:Program}{w:World}{A:Around}{E:Value->Shared->Prop}{s:Shared}{K:PySem.W.Frag}{x dx C f:Addr}{mA:Str->Option Value}{name:Str}{v:Value}
theorem WS{expr:Bool}{Q:Value->Shared->Prop}(X:K.In s.heap)(I:MN s.heap x dx C mA)(hg:PySem.W.plainGet K C name=true)(hh:PySem.W.hasDictIn K C=true)
  (ha:PySem.W.findIn K (.ref C) name=some none) (hv:mA name=some v) (hv':PySem.W.handedIn v=true) (h:Q v { s with toks:=s.toks+1 }) :
  wpAny (model prog w) A (getAttr (.ref x) name expr) Q E s:=by
 obtain ⟨od,J,hl⟩:=I.look;exact PySem.W.get_value X J (PySem.W.plainGet_of hg).1 (PySem.W.findObj_own hh ha rfl (by rw [hl,hv])) hv' h
theorem TN{ns:List Str}{Q:Unit->Shared->Prop}(X:K.In s.heap)(I:MN s.heap x dx C mA)
  (hs:PySem.W.findIn K (.ref C) "__setattr__" = some (some (.builtin "object.__setattr__"))) (hp:PySem.W.plainOver K C=true) (ht:PySem.W.takerIn K C name=some none) (hh:PySem.W.hasDictIn K C=true)
  (hw:PySem.Within mA ns) (hsz:ns.length<=sizeLine)
  (h:∀h',MN h' x dx C (λy=>if y=name then some v else mA y)->Heap.SameBut dx s.heap h'->Q () { s with heap:=h',toks:=s.toks+2 }) :
  wpAny (model prog w) A (setAttr (.ref x) name v) Q E s:=by
 obtain ⟨od,J,hl⟩:=I.look;refine PySem.W.set_plain X J hs (PySem.W.osa_open (s:={ s with toks:=s.toks+1 }) (r:=none) X J hp ht λb=>?_);obtain ⟨cd,hc,hd'⟩:=PySem.W.any_some hh;have hx:s.heap.get? x=some ⟨.ref C,some dx,.plain,#[]⟩:=I.obj;refine wpAny_bind (wpAny_pure (wpAny_bind (wpAny_bind (wpAny_loadPart hx (wpAny_bind (PySem.W.Looks.here (s:={ s with toks:=s.toks+1 }) (PySem.W.looks_clsIn X hc) ?_))))));rw [hd'];refine wpAny_pure (a:=some dx) (wpAny_bind (wpAny_pure (wpAny_bind ?_)));refine wpAny_nsSet1 (s:={ s with toks:=s.toks+1 }) I.ns λh' hn2 hs2=>?_;obtain ⟨oD,esD,epD,hoD,hdD,hcD⟩:=hn2.count (PySem.Within.cons name v hw);refine wpAny_bind (wpAny_lookBehind hoD (by rw [hdD];exact pastItsLine_dict (aK hcD (by rw [bU];omega))) ?_);exact wpAny_pure (h _ ⟨(hs2.2 _ (Ne.symm I.ne)).trans I.obj,hn2,I.ne⟩ hs2)
theorem QC{R:Result->Shared->Prop}{vs:List Value}{kw:List (Str × Value)}(X:K.In s.heap)(hm:PySem.W.makesIn K C=true)
  (hi:PySem.W.findIn K (.ref C) "__init__" = some (some (.ref f))) (hf:PySem.W.typeIn K (.ref f)=some (.type "function"))
  (h:codeAny (model prog w) (A.under (.builtin "type.__call__" ⟨.ref C::vs,kw⟩)) (.call (.ref f) ⟨.ref (s.heap.objs.size+1)::vs,kw⟩) (PySem.W.InitBack (s.heap.objs.size+1) R)
   { s with heap:=(s.heap.push PySem.W.emptyDict).push (PySem.W.instObj C s.heap.objs.size) }) :
  codeAny (model prog w) A (.call (.ref C) ⟨vs,kw⟩) R s:=by
 obtain ⟨hh,g,d,t,os⟩:=s;exact PySem.W.make_core (PySem.W.makes_of X hm) (PySem.W.looks_findIn X hi) (λself=>PySem.W.bind_fn X self hf) (.inl rfl) h
end
def eM(f:Str)(v:V):List (Str × V)->List (Str × V)
 | []=>[(f,v)]
 | (g,x)::r=>if g=f then (g,v)::r else (g,x)::eM f v r
theorem nF(f g:Str)(v:V):∀fs:List (Str × V),(eM f v fs).lookup g=if g=f then some v else fs.lookup g
 | []=>by
  show List.lookup g [(f,v)]=_;by_cases h:g=f
  ·have hb:(g == f)=true:=beq_iff_eq.mpr h;simp only [List.lookup,hb,if_pos h]
  ·have hb:(g == f)=false:=beq_eq_false_iff_ne.mpr h;simp only [List.lookup,hb,if_neg h]
 | (k,x)::r=>by
  have ih:=nF f g v r;rw [show eM f v ((k,x)::r)=(if k=f then (k,v)::r else (k,x)::eM f v r) from rfl];by_cases hk:k=f
  ·rw [if_pos hk];by_cases h:g=k
   ·have hb:(g == k)=true:=beq_iff_eq.mpr h;simp only [List.lookup,hb,if_pos (h.trans hk)]
   ·have hb:(g == k)=false:=beq_eq_false_iff_ne.mpr h;simp only [List.lookup,hb,if_neg (λe:g=f=>h (e.trans hk.symm))]
  ·rw [if_neg hk];by_cases h:g=k
   ·have hb:(g == k)=true:=beq_iff_eq.mpr h;simp only [List.lookup,hb,if_neg (λe:g=f=>hk (h.symm.trans e))]
   ·have hb:(g == k)=false:=beq_eq_false_iff_ne.mpr h;simp only [List.lookup,hb];exact ih
theorem uO(f:Str)(v:V):∀fs:List (Str × V),f∈(eM f v fs).map (·.1)/\∀g,g∈fs.map (·.1)->g∈(eM f v fs).map (·.1)
 | []=>⟨by simp [eM],λg h=>by simp at h⟩
 | (k,x)::r=>by
  obtain ⟨i1,i2⟩:=uO f v r;rw [show eM f v ((k,x)::r)=(if k=f then (k,v)::r else (k,x)::eM f v r) from rfl];by_cases hk:k=f
  ·rw [if_pos hk];subst hk;exact ⟨by simp,λg h=>by simpa using h⟩
  ·rw [if_neg hk];refine ⟨?_,λg h=>?_⟩
   ·rw [bH];exact aR _ i1
   ·rw [bH] at h ⊢;rcases bC.mp h with e | e
    ·exact bC.mpr (.inl e)
    ·exact aR _ (i2 g e)
theorem jR(f:Str)(v:V):∀fs:List (Str × V),(eM f v fs).length<=fs.length+1
 | []=>by simp [eM]
 | (k,x)::r=>by
  have ih:=jR f v r;rw [show eM f v ((k,x)::r)=(if k=f then (k,v)::r else (k,x)::eM f v r) from rfl];by_cases hk:k=f
  ·rw [if_pos hk,bU,bU];omega
  ·rw [if_neg hk,bU,bU];omega
theorem rW.some_of{v:V}{o:Option Value}(r:rW (some v) o):∃u,o=some u/\dJ v u:=by
 cases o with
 | none=>exact (show False from r).elim
 | some u=>exact ⟨u,rfl,r⟩
theorem LV{v:V}{u:Value}(r:dJ v u):PySem.W.handedIn u=true:=by
 cases v with
 | non=>cases (show u=Value.none from r);rfl
 | bl b=>cases (show u=Value.bool b from r);rfl
 | int i=>obtain ⟨t,e⟩:=(show ∃t,u=Value.int i t from r);cases e;rfl
 | str x=>obtain ⟨t,e⟩:=(show ∃t,u=Value.str x t from r);cases e;rfl
 | byt b=>obtain ⟨t,e⟩:=(show ∃t,u=Value.bytes b t from r);cases e;rfl
 | flt b=>obtain ⟨t,e⟩:=(show ∃t,u=Value.float b t from r);cases e;rfl
 | ref a=>cases (show u=Value.ref a from r);rfl
 | ty n=>cases (show u=Value.type n from r);rfl
section
variable{P:Program}{w:World}{H H':Hp}{h h':Heap}{a C dx:Addr}{fs fs':List (Str × V)}
theorem BS(hok:pF P w H h)(e:H a=some (.ins C dx fs)):∃mA,MN h a dx C mA/\(∀f,rW (fs.lookup f) (mA f))/\PySem.Within mA (fs.map (·.1))/\fs.length<=1000/\H dx=some (.own a):=by
 obtain ⟨d,z,ne,ob,mA,n,r,q⟩:=(show fE P w H h a (.ins C dx fs) from hok a _ e);exact ⟨mA,⟨ob,n,ne⟩,r,q,z,d⟩
end
structure YA(K:PySem.W.Frag)(C:Addr):Prop where
 pg:PySem.W.plainGet K C Str.empty=true
 hd:PySem.W.hasDictIn K C=true
 po:PySem.W.plainOver K C=true
 sa:PySem.W.findIn K (.ref C) "__setattr__" = some (some (.builtin "object.__setattr__"))
theorem YA.get{K:PySem.W.Frag}{C:Addr}(c:YA K C)(f:Str):PySem.W.plainGet K C f=true:=c.pg
def lC(K:PySem.W.Frag)(C:Addr)(f:Str):Prop:=PySem.W.findIn K (.ref C) f=some none
theorem lC.taker{K:PySem.W.Frag}{C:Addr}{f:Str}(n:lC K C f):PySem.W.takerIn K C f=some none:=by
 unfold PySem.W.takerIn;rw [show PySem.W.findIn K (.ref C) f=some none from n]
 rfl
section
variable{X:Cx}{pins:List (Addr × Obj)}{σ:St}{H:Hp}{s:Shared}{a C dx:Addr}{fs:List (Str × V)}{f:Str}{v:V}{A:Around}{E:Value->Shared->Prop}
theorem HG{b:Bool}{Q:Value->Shared->Prop}(I:cF X pins σ H s)(e:H a=some (.ins C dx fs))(c:YA X.K C)(n:lC X.K C f)(l:fs.lookup f=some v)
  (h:∀u s',cF X pins σ H s'->dJ v u->Q u s'):wpAny (model X.prog X.w) A (getAttr (.ref a) f b) Q E s:=by
 obtain ⟨mA,O,r,_,_,_⟩:=BS I.hok e;obtain ⟨u,hu,ru⟩:=rW.some_of (v:=v) (o:=mA f) (by rw [<-l];exact r f);exact WS I.kIn O (c.get f) c.hd n hu (LV ru) (h u _ (I.tok _) ru)
theorem GK{y:V}{u:Value}{Q:Unit->Shared->Prop}(I:cF X pins σ H s)(e:H a=some (.ins C dx fs))(c:YA X.K C)(n:lC X.K C f)(hl:fs.length<1000)(ry:dJ y u)
  (h:∀s',cF X pins σ (upd H a (.ins C dx (eM f y fs))) s'->Q () s'):wpAny (model X.prog X.w) A (setAttr (.ref a) f u) Q E s:=by
 obtain ⟨mA,O,r,wi,_,ho⟩:=BS I.hok e;have hz:(fs.map (·.1)).length<=sizeLine:=by rw [aA,sizeLine_eq];omega
 refine TN I.kIn O c.sa c.po n.taker c.hd wi hz λh' O' sb=>h _ ?_;have hd:∃o,h'.get? dx=some o:=let ⟨o,_,_,e',_⟩:=O'.ns;⟨o,e'⟩;refine I.write (x:=a) (e:=dx) (by rw [e];exact True.intro) (.inr ho) (λb q hb z=>(sb.2 b hb).trans z) hd ?_;refine ⟨by rw [cX O.ne];exact ho,?_,O.ne,O'.obj,_,O'.ns,λg=>?_,λg hg=>?_⟩
 ·have:=jR f y fs;omega
 ·show rW ((eM f y fs).lookup g) (if g=f then some u else mA g);rw [nF];by_cases q:g=f
  ·rw [if_pos q,if_pos q];exact ry
  ·rw [if_neg q,if_neg q];exact r g
 ·by_cases q:g=f
  ·rw [q];exact (uO f y fs).1
  ·refine (uO f y fs).2 g (wi g λz=>hg ?_);show (if g=f then some u else mA g)=none;rw [if_neg q];exact z
theorem cF.made(I:cF X pins σ H s):cF X pins σ (upd (upd H s.heap.objs.size (.own (s.heap.objs.size+1))) (s.heap.objs.size+1) (.ins C s.heap.objs.size []))
  { s with heap:=(s.heap.push PySem.W.emptyDict).push (PySem.W.instObj C s.heap.objs.size) }:=by
 have e1:(s.heap.push PySem.W.emptyDict).get? s.heap.objs.size=some PySem.W.emptyDict:=bB s.heap rfl;have e2:((s.heap.push PySem.W.emptyDict).push (PySem.W.instObj C s.heap.objs.size)).get? (s.heap.objs.size+1)=some (PySem.W.instObj C s.heap.objs.size):=by
  have:=bB (s.heap.push PySem.W.emptyDict) (o:=PySem.W.instObj C s.heap.objs.size) rfl
  rwa [fC] at this
 have e3:(s.heap.push PySem.W.emptyDict).Ns s.heap.objs.size (λ_=>none):=⟨PySem.W.emptyDict,#[],_,e1,rfl,(λe he=>absurd he (by simp)),λ_=>rfl⟩;have I1:=I.laid (a:=s.heap.objs.size) (o:=.own (s.heap.objs.size+1)) (h':=s.heap.push PySem.W.emptyDict) (t':=s.toks) (λb u q=>aC _ q) (aI _) ⟨_,e1⟩;refine I1.laid (a:=s.heap.objs.size+1) (o:=.ins C s.heap.objs.size []) (t':=s.toks) (λb u q=>aC _ q) (Nat.le_of_eq (fC _ _)) ?_;have ne:s.heap.objs.size≠s.heap.objs.size+1:=cG (Nat.lt_succ_self _);refine ⟨by rw [cX ne,bM],cE _,ne,e2,λ_=>none,(Heap.Ns1.of_empty e3).at λo q=>aC _ q,λ_=>True.intro,λy hy=>absurd rfl hy⟩
theorem XQ{prog:Program}{w:World}{env:Env}{e:Expr}{f:Str}{pos:Pos}{s:Shared}{Q:Value->Shared->Prop}(hb:attributeBase e f env (eval e env)=eval e env)
  (h:wpAny (model prog w) A (eval e env) (λo s₁=>wpAny (model prog w) A (getAttr o f true) Q E s₁) E s):wpAny (model prog w) A (eval (.Attribute e f pos) env) Q E s :=
 Attribute_any_ h (by rw [arm_eval_Attribute,hb])
end
def aCJ(K:PySem.W.Frag)(ta:TE)(f:Str):TE:=λσ H Q=>ta σ H λx H1=>∃a C dx fs v,x=.ref a/\H1 a=some (.ins C dx fs)/\YA K C/\lC K C f/\fs.lookup f=some v/\Q v H1
def aBD(K:PySem.W.Frag)(ta tv:TE)(f:Str):TS:=λD σ H=>tv σ H λy H1=>ta σ H1 λx H2=>∃a C dx fs,x=.ref a/\H2 a=some (.ins C dx fs)/\YA K C/\lC K C f/\fs.length<1000 /\
 D.nx σ (upd H2 a (.ins C dx (eM f y fs)))
section
variable{X:Cx}{o e value:Expr}{f:Str}{pos pos' tpos:Pos}{ta tv:TE}
theorem aAt(he:PE X e ta)(hb:attributeBase e f X.env (eval e X.env)=eval e X.env):PE X (.Attribute e f pos) (aCJ X.K ta f):=by
 intro pins s σ H Q I h;refine XQ hb (thn (he pins s σ H _ I h) λu s1 ⟨x,H1,I1,rx,a,C,dx,fs,v,ex,ea,c,n,l,q⟩=>?_);subst ex;obtain rfl:u=Value.ref a:=rx;exact HG I1 ea c n l λu' s2 I2 ru=>⟨v,H1,I2,ru,q⟩
theorem aAi(ha:PE X o ta)(hv:PE X value tv)(hs:swapsWith value (some (.Attribute o f pos')) pos.line X.env=pure false):PS X (.Assign [.Attribute o f pos'] value pos) (aBD X.K ta tv f):=by
 intro pins s σ H D I h;refine plainObj_wpAny_Assign_Attribute (thn (hv pins s σ H _ I h) λu s1 ⟨y,H1,I1,ry,q⟩=>thn (ha pins s1 σ H1 _ I1 q) λov s2 ⟨x,H2,I2,rx,a,C,dx,fs,ex,ea,c,n,l,q2⟩=>?_) hs;subst ex;obtain rfl:ov=Value.ref a:=rx;exact GK I2 ea c n l ry λs3 I3=>⟨σ,_,I3,q2⟩
end
section
variable{X:Cx}{pins:List (Addr × Obj)}{σ:St}{H:Hp}{s:Shared}{A:Around}{E:Value->Shared->Prop}{Q:Value->Shared->Prop}{c:Value}{b:Bool}
inductive uY (K:PySem.W.Frag) (H:Hp):V->Value->Prop where
 | non:uY K H .non (.type "NoneType")
 | bl (x:Bool):uY K H (.bl x) (.type "bool")
 | int (i:Int):uY K H (.int i) (.type "int")
 | str (x:Str):uY K H (.str x) (.type "str")
 | flt (x:UInt64):uY K H (.flt x) (.type "float")
 | lst {a:Addr} {xs:List V} (e:H a=some (.lst xs)):uY K H (.ref a) (.type "list")
 | frz {a:Addr} {o:Obj} {xs:List V} (e:H a=some (.frz o (.lst xs))):uY K H (.ref a) (.type "list")
 | tup {a:Addr} {xs:List V} (e:H a=some (.tup xs)):uY K H (.ref a) (.type "tuple")
 | dK {a:Addr} {kvs:List (eZ × V)} (e:H a=some (.dK kvs)):uY K H (.ref a) (.type "dict")
 | dT {a:Addr} {kvs:List (List eZ × V)} (e:H a=some (.dT kvs)):uY K H (.ref a) (.type "dict")
 | ins {a C dx:Addr} {fs:List (Str × V)} (e:H a=some (.ins C dx fs)) (cl:YA K C) (ha:PySem.W.findIn K (.ref C) "__class__" = some (some (.builtin "object.__class__")))
   (hn:PySem.W.specialIn K (.builtin "object.__class__") "__get__" = some (some (.builtin "getset_descriptor.__get__"))) (htk:PySem.W.takesIn K (.builtin "object.__class__")=some true)
   (hm:PySem.W.mroIn K C (.type "object")=some true):uY K H (.ref a) (.ref C)
theorem LQ{x:V}{u t:Value}(I:cF X pins σ H s)(rx:dJ x u)(ty:uY X.K H x t)(e:PySem.W.kitOne X.K t c=some b)(h:∀tk,Q (.bool b) { s with toks:=tk }) :
  wpAny (model X.prog X.w) A (call (.builtin "isinstance") [u,c]) Q E s:=by
 cases ty with
 | non=>cases (show u=Value.none from rx);exact PySem.W.kia_one PySem.W.kitx_none I.kIn True.intro e (λz=>nomatch z) h
 | bl y=>cases (show u=Value.bool y from rx);exact PySem.W.kia_one PySem.W.kitx_bool I.kIn True.intro e (λz=>nomatch z) h
 | int i=>obtain ⟨t,q⟩:=(show ∃t,u=Value.int i t from rx);cases q;exact PySem.W.kia_one PySem.W.kitx_int I.kIn True.intro e (λz=>nomatch z) h
 | str y=>obtain ⟨t,q⟩:=(show ∃t,u=Value.str y t from rx);cases q;exact PySem.W.kia_one PySem.W.kitx_str I.kIn True.intro e (λz=>nomatch z) h
 | flt y=>obtain ⟨t,q⟩:=(show ∃t,u=Value.float y t from rx);cases q;exact PySem.W.kia_one PySem.W.kitx_float I.kIn True.intro e (λz=>nomatch z) h
 | @lst a xs ea =>
  cases (show u=Value.ref a from rx);obtain ⟨_,_,n,_,h1⟩:=(show fE X.prog X.w H s.heap a (.lst xs) from I.hok a _ ea);exact PySem.W.kia_one PySem.W.kitx_list I.kIn ⟨_,h1,rfl⟩ e (λz=>nomatch z) h
 | @frz a ob xs ea =>
  cases (show u=Value.ref a from rx);obtain ⟨_,_,_,n,_,h1⟩:=(show fE X.prog X.w H s.heap a (.frz ob (.lst xs)) from I.hok a _ ea);exact PySem.W.kia_one PySem.W.kitx_list I.kIn ⟨_,h1,rfl⟩ e (λz=>nomatch z) h
 | @tup a xs ea =>
  cases (show u=Value.ref a from rx);obtain ⟨_,_,_,p⟩:=(show fE X.prog X.w H s.heap a (.tup xs) from I.hok a _ ea);obtain ⟨o,h1,h2,_⟩:=p;exact PySem.W.kia_one PySem.W.kitx_tuple I.kIn ⟨o,h1,h2⟩ e (λz=>nomatch z) h
 | @dK a kvs ea =>
  cases (show u=Value.ref a from rx);obtain ⟨_,_,vs,_,p⟩:=(show fE X.prog X.w H s.heap a (.dK kvs) from I.hok a _ ea);obtain ⟨o,es,ep,h1,h2,_⟩:=p;exact PySem.W.kia_one PySem.W.kitx_dict I.kIn ⟨o,h1,h2.1⟩ e (λz=>nomatch z) h
 | @dT a kvs ea =>
  cases (show u=Value.ref a from rx);obtain ⟨_,_,xs,_,o,es,ep,h1,h2,_⟩:=(show fE X.prog X.w H s.heap a (.dT kvs) from I.hok a _ ea);exact PySem.W.kia_one PySem.W.kitx_dict I.kIn ⟨o,h1,h2.1⟩ e (λz=>nomatch z) h
 | @ins a C dx fs ea cl ha hn htk hm =>
  cases (show u=Value.ref a from rx);obtain ⟨mA,O,_⟩:=BS I.hok ea;obtain ⟨od,J,_⟩:=O.look;exact PySem.W.kia_one (PySem.W.kitx_own (cl.get _) cl.hd ha hn htk hm) I.kIn J e (λz=>nomatch z) h
end
structure iH(k:Nat)(A:Around):Prop where
 hd:A.handled=none
 dp:A.depth+3*k+5<recursionLimit
 un:A.units+16*k+200<cLine
 gd:A.guards=some []
theorem iH.mono{j k:Nat}{A:Around}(r:iH k A)(h:j<=k):iH j A:=⟨r.hd,by have:=r.dp;omega,by have:=r.un;omega,r.gd⟩
theorem iH.deeper{k:Nat}{A:Around}(r:iH (k+1) A)(env:Env):iH k (A.deeper env) :=
 ⟨r.hd,by have:=r.dp;show A.depth+1+3*k+5<_;omega,by have:=r.un;show A.units+3+16*k+200<_;omega,r.gd⟩
theorem iH.in1{k:Nat}{A:Around}(r:iH (k+1) A):iH k A.in1 :=
 ⟨r.hd,by have:=r.dp;show A.depth+3*k+5<_;omega,by have:=r.un;show A.units+1+16*k+200<_;omega,r.gd⟩
theorem HA{A:Around}{C:Addr}{us:List Value}{kw:List (Str × Value)}:(A.under (.builtin "type.__call__" ⟨.ref C::us,kw⟩)).depth=A.depth+1:=by
 first | rfl | simp [Around.under,Code.weight,Code.isCreation,Code.isGuard,Code.isCaller,Code.frames,Code.isFrame,guardIds]
theorem GZ{A:Around}{C:Addr}{us:List Value}{kw:List (Str × Value)}:(A.under (.builtin "type.__call__" ⟨.ref C::us,kw⟩)).units=A.units+1:=by
 first | rfl | simp [Around.under,Code.cUnits,Code.frames,Code.isFrame]
theorem iH.make{k:Nat}{A:Around}(r:iH (k+1) A)(C:Addr)(us:List Value)(kw:List (Str × Value)):iH k (A.under (.builtin "type.__call__" ⟨.ref C::us,kw⟩)) :=
 ⟨r.hd,by have:=r.dp;rw [HA];omega,by have:=r.un;rw [GZ];omega,by first | exact r.gd | (simpa [Around.under,Code.guards,Code.isGuard,guardIds,pushGuards] using r.gd)⟩
theorem iH.depth{k:Nat}{A:Around}(r:iH k A):A.depth<recursionLimit:=by have:=r.dp;omega
theorem iH.units{k:Nat}{A:Around}(r:iH k A):A.units+64<cLine:=by have:=r.un;omega
def aBv:TA:=λ_ H Q=>Q [] H
def YM(ta:TE)(tr:TA):TA:=λσ H Q=>ta σ H λx H1=>tr σ H1 λxs H2=>Q (x::xs) H2
section
variable{X:Cx}{e:Expr}{es:List Expr}{te:TE}{t:TA}{pos:Pos}
theorem pa_nil:PA X [] aBv:=λ_ _ _ _ H Q I h=>Calls.spliced_nil ⟨[],H,I,.nil,h⟩
theorem WE(ha:PE X e te)(hr:PA X es t)(hs:starEach (e::es) X.env=(false,eval e X.env)::starEach es X.env:=by rfl):PA X (e::es) (YM te t):=by
 intro pos pins s σ H Q I h;rw [hs];show wpAny _ _ (spliced ((false,eval e X.env)::backTo pos (starEach es X.env))) _ _ s;refine Calls.spliced_cons (thn (ha pins s σ H _ I h) λu s1 ⟨x,H1,I1,r1,q1⟩=>?_);exact thn (hr pos pins s1 σ H1 _ I1 q1) λus s2 ⟨xs,H2,I2,r2,q2⟩=>⟨x::xs,H2,I2,.cons r1 r2,q2⟩
def aCH(t:TA):TE:=λσ H Q=>t σ H λxs H1=>xs.length<=sizeLine/\∀p,H1 p=none->Q (.ref p) (upd H1 p (.tup xs))
def aCI(t:TA):TE:=λσ H Q=>t σ H λxs H1=>xs.length<=sizeLine/\∀p,H1 p=none->Q (.ref p) (upd H1 p (.lst xs))
theorem aAr{x1}(h:PA X es t):PE X (.Tuple es x1 pos) (aCH t):=by
 intro pins s σ H Q I hq;refine wpAny_Tuple_spliced (thn (h pos pins s σ H _ I hq) λus s1 ⟨xs,H1,I1,r,z,q⟩=>⟨by rw [<-r.length];exact z,?_⟩);have hf:H1 s1.heap.objs.size=none:=I1.hok.fresh (aI _);refine ⟨.ref s1.heap.objs.size,upd H1 s1.heap.objs.size (.tup xs),I1.laid (t':=s1.toks) (λb u e=>aC _ e) (aI _) ?_,rfl,q _ hf⟩;exact ⟨⟨z,_,bB _ rfl,rfl⟩,us,r,⟨_,bB _ rfl,rfl,_,rfl⟩⟩
theorem aAs(h:PA X es t):PE X (.List es pos) (aCI t):=by
 intro pins s σ H Q I hq;refine wpAny_List_spliced (thn (h pos pins s σ H _ I hq) λus s1 ⟨xs,H1,I1,r,z,q⟩=>⟨by rw [<-r.length];exact z,?_⟩);have hf:H1 s1.heap.objs.size=none:=I1.hok.fresh (aI _);refine ⟨.ref s1.heap.objs.size,upd H1 s1.heap.objs.size (.lst xs),I1.laid (t':=s1.toks) (λb u e=>aC _ e) (aI _) ?_,rfl,q _ hf⟩;exact ⟨z,us,0,r,bB _ rfl⟩
end
abbrev Sp:=List V->Hp->VK->XK->Prop
abbrev MO:=List Env->Hp->Shared->XK->Value->Shared->Prop
structure yN(P:Program)(w:World)(K:PySem.W.Frag)(mg:Str->Option Value)(base:Heap)(A:Around)(outer:List Env)(s:Shared)(H:Hp):Prop where
 frames:A.frames=some outer
 mod:Mod K mg base
 bs:∀b o,base.get? b=some o->s.heap.get? b=some o/\H b=none
 bsz:base.objs.size<=s.heap.objs.size
 funs:s.heap.FunFrames base outer
 frf:∀b∈frs outer,H b=none
 hok:pF P w H s.heap
 bare:AllBare s.gens
def CE(outer:List Env)(P:Program)(w:World)(H:Hp)(s:Shared)(Q:VK)(u:Value)(s':Shared):Prop :=
 ∃v H',s'.os=s.os/\AllBare s'.gens/\Un (frs outer) [] H H' s.heap s'.heap/\pF P w H' s'.heap/\dJ v u/\Q v H'
def CR(CX:MO)(outer:List Env)(P:Program)(w:World)(H:Hp)(s:Shared)(Q:VK)(E:XK)(r:Result)(s':Shared):Prop :=
 match r with
 | .ok (.ret u)=>CE outer P w H s Q u s'
 | .ok _=>False
 | .error e=>CX outer H s E e s'
structure dY(P:Program)(w:World)(K:PySem.W.Frag)(mg:Str->Option Value)(base:Heap)(CX:MO)(k:Nat)(f:Addr)(fd:FuncData)(ps:List Str)(sp:Sp):Prop where
 len:∀vs H Q E,sp vs H Q E->vs.length=ps.length
 run:∀(A:Around) (outer:List Env) (s:Shared) (H:Hp) (args:Args) (us:List Value) (vs:List V) (Q:VK) (E:XK),iH k A->yN P w K mg base A outer s H->BindsTo s fd args (ps.zip us)->cZ vs us->sp vs H Q E ->
  codeAny (model P w) A (.call (.ref f) args) (CR CX outer P w H s Q E) s
theorem yN.make{P:Program}{w:World}{K:PySem.W.Frag}{mg:Str->Option Value}{base:Heap}{A:Around}{outer:List Env}{s:Shared}{H:Hp}(e:yN P w K mg base A outer s H)(C:Addr)(us:List Value)(kw:List (Str × Value)) :
  yN P w K mg base (A.under (.builtin "type.__call__" ⟨.ref C::us,kw⟩)) outer s H:=⟨by first | exact e.frames | (simpa [Around.under,Code.envs,Code.isFrame,pushEnvs] using e.frames),e.mod,e.bs,e.bsz,e.funs,e.frf,e.hok,e.bare⟩
theorem yN.in1{P:Program}{w:World}{K:PySem.W.Frag}{mg:Str->Option Value}{base:Heap}{A:Around}{outer:List Env}{s:Shared}{H:Hp}(e:yN P w K mg base A outer s H) :
  yN P w K mg base A.in1 outer s H:=⟨e.frames,e.mod,e.bs,e.bsz,e.funs,e.frf,e.hok,e.bare⟩
section
variable{X:Cx}{pins:List (Addr × Obj)}{σ:St}{H:Hp}{s s':Shared}
theorem cF.env0(I:cF X pins σ H s):yN X.prog X.w X.K X.mg X.base X.A X.stack s H :=
 ⟨I.ok.frames,I.ok.mod,I.bs,aK I.ok.bsz I.sz,I.stack,I.stkFree,I.hok,I.bare⟩
theorem cF.after{Q:VK}{u:Value}(I:cF X pins σ H s)(h:CE X.stack X.prog X.w H s Q u s'):EP X pins σ Q u s':=by
 obtain ⟨v,H',os,bare,un,hok,r,q⟩:=h;obtain ⟨hh,g,d,t,os'⟩:=s';obtain rfl:os'=s.os:=os;exact ⟨v,H',I.call (h':=hh) (g':=g) (d':=d) (t':=t) (ch:=[]) un hok bare (λb z=>absurd z (by simp)),r,q⟩
end
def NP(sp:Sp)(dvs:List V)(E:XK)(t:TA):TE:=λσ H Q=>t σ H λvs H1=>sp (vs++dvs) H1 Q E
def YH(C:Addr)(sp:Sp)(dvs:List V)(E:XK)(t:TA):TE:=λσ H Q=>t σ H λvs H1=>∀x dx,H1 x=none->H1 dx=none->dx≠x ->
 sp (.ref x::(vs++dvs)) (upd (upd H1 dx (.own x)) x (.ins C dx [])) (λv H2=>v=.non/\Q (.ref x) H2) E
def pD(K:PySem.W.Frag)(fd:FuncData)(ps:List Str)(ds:List Value):Prop :=
 ∀(s:Shared) (us:List Value),K.In s.heap->(us++ds).length=ps.length->BindsTo s fd ⟨us,[]⟩ (ps.zip (us++ds))
theorem pD.all{K:PySem.W.Frag}{fd:FuncData}{ps:List Str}(h:∀us:List Value,us.length=ps.length->bindArgs fd ⟨us,[]⟩=pure (ps.zip us)):pD K fd ps []:=λs us _ hl=>by
 rw [List.append_nil] at hl ⊢;exact .of_eq (h us hl)
def yA(CX:MO)(X:Cx)(E:XK):Prop:=∀(pins:List (Addr × Obj)) (σ:St) (H:Hp) (s:Shared) (e:Value) (s':Shared),cF X pins σ H s->CX X.stack H s E e s'->X.xe e s'
section
variable{X:Cx}{CX:MO}{k:Nat}{f C:Addr}{fd:FuncData}{ps:List Str}{sp:Sp}{dvs:List V}{ds:List Value}{E:XK}{x m:Str}{p pos apos:Pos}{e o:Expr}{es:List Expr}{ta:TE}{t:TA}
theorem ZW{pins:List (Addr × Obj)}{σ:St}{H:Hp}{s:Shared}{Q:VK}{us:List Value}{vs:List V}(F:dY X.prog X.w X.K X.mg X.base CX k f fd ps sp)(hr:iH k X.A)(hb:pD X.K fd ps ds)(hd:cZ dvs ds)(hx:yA CX X E)
  (I:cF X pins σ H s) (r:cZ vs us) (h:sp (vs++dvs) H Q E):wpAny (model X.prog X.w) X.A (call (.ref f) us) (EP X pins σ Q) X.xe s:=by
 have r2:cZ (vs++dvs) (us++ds):=r.append hd;have hl:(us++ds).length=ps.length:=by rw [<-r2.length];exact F.len _ _ _ _ h
 refine wpAny_call (codeAny_mono (F.run X.A X.stack s H ⟨us,[]⟩ (us++ds) (vs++dvs) Q E hr I.env0 (hb s us I.kIn hl) r2 h) λr s' hq=>?_);cases r with
 | error e=>exact hx pins σ H s e s' I hq
 | ok fl =>
  cases fl with
  | ret u=>exact I.after hq
  | next=>exact False.elim hq
  | brk=>exact False.elim hq
  | cont=>exact False.elim hq
theorem WC(F:dY X.prog X.w X.K X.mg X.base CX k f fd ps sp)(hr:iH k X.A)(hg:Gl X x)(hm:X.mg x=some (.ref f))(hk:PySem.W.keepIn X.K (.ref f)=true)(hb:pD X.K fd ps ds)(hd:cZ dvs ds)(hx:yA CX X E)
  (ha:PA X (e::es) t) (hdb:(x == ("__debug__" : Str))=false:=by decide) (he:starEach (e::es) X.env=(false,eval e X.env)::starEach es X.env:=by rfl) (hpl:(backTo pos (starEach es X.env)).any (·.1)=false:=by rfl) :
  PE X (.Call (.Name x p) (e::es) [] pos) (NP sp dvs E t):=by
 intro pins s σ H Q I h;refine wpAny_Call_Name_kw (wG I hg hm ?_ hdb);refine PySem.W.callWith_K (h₀:=X.base) I.ok.mod.kin hk (thn (ha pos pins s σ H _ I h) λus s1 ⟨vs,H1,I1,r,q⟩=>⟨I1.kIn,?_⟩) he hpl;exact ZW F hr hb hd hx I1 r q
structure Mk(K:PySem.W.Frag)(C f:Addr):Prop where
 makes:PySem.W.makesIn K C=true
 init:PySem.W.findIn K (.ref C) "__init__" = some (some (.ref f))
 fn:PySem.W.isFn K (.ref f)=true
 kp:PySem.W.keepIn K (.ref C)=true
theorem OM{pins:List (Addr × Obj)}{σ:St}{H:Hp}{s:Shared}{Q:VK}{us:List Value}{vs:List V}(M:Mk X.K C f)(F:dY X.prog X.w X.K X.mg X.base CX k f fd ps sp)(hr:iH (k+1) X.A)(hb:pD X.K fd ps ds)(hd:cZ dvs ds)
  (hx:yA CX X E) (I:cF X pins σ H s) (r:cZ vs us)
  (h:∀x dx,H x=none->H dx=none->dx≠x->sp (.ref x::(vs++dvs)) (upd (upd H dx (.own x)) x (.ins C dx [])) (λv H2=>v=.non/\Q (.ref x) H2) E) :
  wpAny (model X.prog X.w) X.A (call (.ref C) us) (EP X pins σ Q) X.xe s:=by
 have hq:=h (s.heap.objs.size+1) s.heap.objs.size (I.hok.fresh (Nat.le_succ _)) (I.hok.fresh (aI _)) (cG (Nat.lt_succ_self _));have I2:=cF.made (C:=C) I;have r2:cZ (V.ref (s.heap.objs.size+1)::(vs++dvs)) (Value.ref (s.heap.objs.size+1)::(us++ds)):=.cons rfl (r.append hd);have hl:(Value.ref (s.heap.objs.size+1)::us++ds).length=ps.length:=by
  have e:=r2.length;rw [F.len _ _ _ _ hq] at e;exact e.symm
 refine wpAny_call (QC (f:=f) I.kIn M.makes M.init (beq_iff_eq.mp M.fn) (codeAny_mono (F.run _ X.stack _ _ ⟨Value.ref (s.heap.objs.size+1)::us,[]⟩ (Value.ref (s.heap.objs.size+1)::(us++ds)) _ _ E (hr.make C us [])
  (I2.env0.make C us []) (hb _ (Value.ref (s.heap.objs.size+1)::us) I2.kIn hl) r2 hq) λr s' hq'=>?_))
 cases r with
 | error e=>exact hx pins σ _ _ e s' I2 hq'
 | ok fl =>
  cases fl with
  | ret u =>
   obtain ⟨v,H',I3,rv,ev,q3⟩:=I2.after hq';subst ev;exact ⟨rv,⟨V.ref (s.heap.objs.size+1),H',I3,rfl,q3⟩⟩
  | next=>exact False.elim hq'
  | brk=>exact False.elim hq'
  | cont=>exact False.elim hq'
theorem VW(M:Mk X.K C f)(F:dY X.prog X.w X.K X.mg X.base CX k f fd ps sp)(hr:iH (k+1) X.A)(hg:Gl X x)(hm:X.mg x=some (.ref C))(hb:pD X.K fd ps ds)(hd:cZ dvs ds)(hx:yA CX X E)
  (ha:PA X (e::es) t) (hdb:(x == ("__debug__" : Str))=false:=by decide) (he:starEach (e::es) X.env=(false,eval e X.env)::starEach es X.env:=by rfl) (hpl:(backTo pos (starEach es X.env)).any (·.1)=false:=by rfl) :
  PE X (.Call (.Name x p) (e::es) [] pos) (YH C sp dvs E t):=by
 intro pins s σ H Q I h;refine wpAny_Call_Name_kw (wG I hg hm ?_ hdb);refine PySem.W.callWith_K (h₀:=X.base) I.ok.mod.kin M.kp (thn (ha pos pins s σ H _ I h) λus s1 ⟨vs,H1,I1,r,q⟩=>⟨I1.kIn,?_⟩) he hpl;exact OM M F hr hb hd hx I1 r q
end
section
variable{X:Cx}{CX:MO}{k:Nat}{f C:Addr}{fd:FuncData}{ps ks:List Str}{sp:Sp}{E:XK}{x m:Str}{p pos apos kpos:Pos}{e o:Expr}{es:List Expr}{kws:List Keyword}{te ta:TE}{t tk:TA}{nm:Option Str}
variable{g:List Value->List Value->List Value}{gV:List V->List V->List V}
end
structure cA(N P:List Str)(sc:Scope):Prop where
 kind:sc.kind=.function
 co:sc.isCoroutine=false
 gen:sc.isGenerator=false
 nd:N.Nodup
 pre:N.take P.length=P
 par:∀x∈P,sc.names.lookup x=some .local\/sc.names.lookup x=some .cell
 nofree:∀y∈sc.names,y.2 ≠ .free
theorem zX{kindOf:Str->Option NameKind}{x:Str}:∀{binds:List (Str × Value)}{m:Str->Option Value},(∀v,(x,v) ∉ binds)->bindL kindOf binds m x=m x
 | [],_,_=>rfl
 | (n,v)::r,m,h=>by
  unfold bindL;rw [zX λw hw=>h w (aR _ hw)];split
  ·have:x≠n:=by rintro rfl;exact h v aU
   simp [this]
  ·rfl
theorem zZ{kindOf:Str->Option NameKind}{x:Str}:∀{binds:List (Str × Value)}{m:Str->Option Value},(∀v,(x,v) ∉ binds)->bindC kindOf binds m x=m x
 | [],_,_=>rfl
 | (n,v)::r,m,h=>by
  unfold bindC;rw [zZ λw hw=>h w (aR _ hw)];split
  ·rfl
  ·have:x≠n:=by rintro rfl;exact h v aU
   simp [this]
theorem zY{kindOf:Str->Option NameKind}{x:Str}{v:Value}:∀{P:List Str}{vs:List Value}{i:Nat}{m:Str->Option Value},P.Nodup->P[i]?=some x->vs[i]?=some v->kindOf x=some .local ->
  bindL kindOf (P.zip vs) m x=some v
 | [],_,_,_,_,h,_,_=>by simp at h
 | _::_,[],_,_,_,_,h,_=>by simp at h
 | p::P,w::vs,0,m,nd,h1,h2,hk=>by
  simp at h1 h2;subst h1;subst h2;show bindL kindOf ((p,w)::P.zip vs) m p=_;unfold bindL;rw [zX λv hv=>(List.nodup_cons.mp nd).1 (List.of_mem_zip hv).1,if_pos hk];simp
 | p::P,w::vs,i+1,m,nd,h1,h2,hk=>by
  show bindL kindOf ((p,w)::P.zip vs) m x=_;unfold bindL;exact zY (i:=i) (List.nodup_cons.mp nd).2 (by simpa using h1) (by simpa using h2) hk
theorem AA{kindOf:Str->Option NameKind}{x:Str}{v:Value}:∀{P:List Str}{vs:List Value}{i:Nat}{m:Str->Option Value},P.Nodup->P[i]?=some x->vs[i]?=some v->kindOf x≠some .local ->
  bindC kindOf (P.zip vs) m x=some v
 | [],_,_,_,_,h,_,_=>by simp at h
 | _::_,[],_,_,_,_,h,_=>by simp at h
 | p::P,w::vs,0,m,nd,h1,h2,hk=>by
  simp at h1 h2;subst h1;subst h2;show bindC kindOf ((p,w)::P.zip vs) m p=_;unfold bindC;rw [zZ λv hv=>(List.nodup_cons.mp nd).1 (List.of_mem_zip hv).1,if_neg hk];simp
 | p::P,w::vs,i+1,m,nd,h1,h2,hk=>by
  show bindC kindOf ((p,w)::P.zip vs) m x=_;unfold bindC;exact AA (i:=i) (List.nodup_cons.mp nd).2 (by simpa using h1) (by simpa using h2) hk
def start(N:List Str)(vs:List V):St:=vs.map some++List.replicate (N.length-vs.length) none
def EU(CX:MO)(P:Program)(w:World)(K:PySem.W.Frag)(mg:Str->Option Value)(base:Heap)(N:List Str)(qual:Str)(scope:Scope)(f:Addr)(cd:Value)(A:Around)(outer:List Env)(s:Shared)(H:Hp)(E:XK):Cx where
 prog:=P
 w:=w
 K:=K
 mg:=mg
 base:=base
 A:=A.deeper (envOfC qual scope s.heap.objs.size f cd)
 N:=N
 s₀:=s
 H₀:=H
 env:=envOfC qual scope s.heap.objs.size f cd
 outer:=outer
 stack:=envOfC qual scope s.heap.objs.size f cd::outer
 ex:=[]
 calm:=true
 fn:=λ_=>true
 pn:=[]
 xe:=λe s'=>wpAny (model P w) (A.deeper (envOfC qual scope s.heap.objs.size f cd)) (leaving (envOfC qual scope s.heap.objs.size f cd) e) (λ_ s''=>CX outer H s E e s'') (λe' s''=>CX outer H s E e' s'') s'
theorem FD{sc:Scope}{n:Nat}{x:Str}(h:sc.names.lookup x=some .cell):∃c,(cellsFrom n sc.names []).lookup x=some c:=by
 have q:=PySem.W.cellsFrom_some sc.names n [] (.inl h);exact Option.isSome_iff_exists.mp q
theorem LT{CX:MO}{P:Program}{w:World}{K:PySem.W.Frag}{mg:Str->Option Value}{base:Heap}{N ps:List Str}{qual:Str}{scope:Scope}{f:Addr}{cd:Value}{A:Around}{outer:List Env}{s s1:Shared}{H:Hp}{E:XK}{us:List Value}{vs:List V}
  (S:cA N ps scope) (hd:A.handled=none) (e0:yN P w K mg base A outer s H) (hl:vs.length=ps.length) (r:cZ vs us)
  (x:InCallC s s.heap.objs.size (bindL (envOfC qual scope s.heap.objs.size f cd).kindOf (ps.zip us) λ_=>none) (cellsFrom (s.heap.objs.size+1) scope.names []) (bindC (envOfC qual scope s.heap.objs.size f cd).kindOf (ps.zip us) λ_=>none) s1) :
  cF (EU CX P w K mg base N qual scope f cd A outer s H E) [] (start N vs) H s1:=by
 have hpl:ps.length<=N.length:=by have:=congrArg List.length S.pre;rw [cL] at this;omega
 obtain ⟨h1,tk,rfl,hk⟩:=x.done;have noA:∀b:Addr,b ∉ (EU CX P w K mg base N qual scope f cd A outer s H E).ex:=λb z=>absurd (show b∈([]:List Addr) from z) (by simp);refine ⟨⟨e0.mod,S.kind,rfl,rfl,aI _,λy z c h1 h2=>?_,λy hy=>?_,λy c _ h=>?_,λ_=>hd,Around.frames_deeper e0.frames,.inr ⟨rfl,rfl⟩,λb z=>absurd z (noA b),e0.bs,e0.bsz,λb _ _=>noA b,λb z=>absurd z (noA b),e0.funs,e0.frf⟩,
  rfl,e0.bare,Un.kept hk,⟨_,x.toInCall.ns,λi y v h1 h2 h3=>?_⟩,λy c h=>⟨_,x.cell y c h⟩,e0.hok.fresh (aI _),λy c h=>?_,λp hp=>absurd (show p∈([]:List (Addr × Obj)) from hp) (by simp),e0.hok.kept hk,?_⟩
 ·exact name_of_addr x.apart (PySem.mem_of_lookup h1) (PySem.mem_of_lookup h2)
 ·have hy:scope.names.lookup y=some .cell\/scope.names.lookup y=some .free:=hy;rcases hy with hy | hy
  ·exact FD hy
  ·exact absurd rfl (S.nofree _ (PySem.mem_of_lookup hy))
 ·exact Nat.le_of_lt (x.above y c (PySem.mem_of_lookup h))
 ·have hi:i<vs.length:=by
   unfold start at h2;by_cases hi:i<vs.length
   ·exact hi
   ·rw [cU (by simpa using hi)] at h2;rw [List.getElem?_replicate] at h2;split at h2 <;> cases h2
  have ha:vs[i]?=some v:=by
   unfold start at h2;rw [cK (by simpa using hi),aM] at h2;cases e:vs[i]? with
   | none=>rw [e] at h2;cases h2
   | some a=>rw [e] at h2;cases h2;rfl
  obtain ⟨u,hu,rv⟩:=r.get ha;have hp:ps[i]?=some y:=by
   rw [<-S.pre,List.getElem?_take_of_lt Oo];exact h1
  have ndP:ps.Nodup:=by rw [<-S.pre];exact S.nd.sublist (List.take_sublist _ _)
  refine ⟨u,rv,?_⟩;rcases S.par y (aG hp) with k | k
  ·exact .inl ⟨k,zY ndP hp hu k⟩
  ·obtain ⟨c,e⟩:=FD (n:=s.heap.objs.size+1) k;refine .inr ⟨.inl k,c,e,?_⟩;have q:=x.cell y c e;rw [AA ndP hp hu (by show scope.names.lookup y≠_;rw [k];decide)] at q;exact q
 ·exact e0.hok.fresh (Nat.le_of_lt (x.above y c (PySem.mem_of_lookup h)))
 ·unfold start;show _=N.length;rw [bE,aA,dM];omega
theorem aB8{CX:MO}{P:Program}{w:World}{K:PySem.W.Frag}{mg:Str->Option Value}{base:Heap}{k:Nat}{f:Addr}{name qual:Str}{params:Arguments}{body:List Stmt}{scope:Scope}{dV kV doc pm cdv ct oc:Value}{an od:Option Addr}
  {osl:Array (Option Value)} {N ps:List Str} {sp:Sp} (lk:K.lookup f=some ⟨oc,od,.func (PySem.W.fnOf name qual params body scope dV kV doc pm an cdv ct),osl⟩) (hcd:PySem.W.codeIn K cdv qual=true) (S:cA N ps scope)
  (len:∀vs H Q E,sp vs H Q E->vs.length=ps.length)
  (hbody:∀(A:Around) (outer:List Env) (s:Shared) (H:Hp) (vs:List V) (Q:VK) (E:XK),iH k (A.deeper (envOfC qual scope s.heap.objs.size f cdv))->sp vs H Q E ->
   ∃t,HQ (EU CX P w K mg base N qual scope f cdv A outer s H E) body t/\t { nx:=λ_ H'=>Q .non H',rt:=Q } (start N vs) H) :
  dY P w K mg base CX (k+1) f (PySem.W.fnOf name qual params body scope dV kV doc pm an cdv ct) ps sp:=by
 refine ⟨len,λA outer s H args us vs Q E hr e0 hb r hsp=>?_⟩;have hl:=len _ _ _ _ hsp;have KX:K.In s.heap:=e0.mod.kin.keeps λb o e=>(e0.bs b o e).1;have lim:s.heap.NoLimit:=e0.mod.nolimit.keeps λb o e=>(e0.bs b o e).1;have hkind:∀y∈ps.zip us,scope.names.lookup y.1=some .local\/(scope.names.lookup y.1=some .cell/\((cellsFrom (s.heap.objs.size+1) scope.names []).lookup y.1).isSome=true):=λ⟨n,v⟩ hy=>by
  rcases S.par n (List.of_mem_zip hy).1 with q | q
  ·exact .inl q
  ·exact .inr ⟨q,PySem.W.cellsFrom_some _ _ _ (.inl q)⟩
 refine codeAny_call_function hr.depth (KX _ _ lk) rfl S.co S.gen rfl (PySem.W.codeRec_of KX hcd) (hb _ _ _ _ ?_);refine wpAny_newFunctionEnv_cells S.kind hkind λenv he s1 x=>?_;subst he;refine ⟨lim.keeps x.toInCall.keep,codeAny_func ?_⟩;obtain ⟨t,ht,hq⟩:=hbody A outer s H vs Q E (hr.deeper _) hsp;have I:cF (EU CX P w K mg base N qual scope f cdv A outer s H E) [] (start N vs) H s1:=LT S hr.hd e0 hl r x;refine wpAny_mono (ht [] s1 (start N vs) H _ I hq) (λfl s' hs=>?_) λe s' hs=>hs;have fin:∀{σ':St} {H':Hp} {v:V} {u:Value},cF (EU CX P w K mg base N qual scope f cdv A outer s H E) [] σ' H' s'->dJ v u->Q v H'->CE outer P w H s Q u s' :=
  λ{σ' H' v u} J rv q=>⟨v,H',J.os,J.bare,J.base,J.hok,rv,q⟩
 cases fl with
 | ret u =>
  obtain ⟨v,σ',H',J,rv,q⟩:=hs;exact fin J rv q
 | next =>
  obtain ⟨σ',H',J,q⟩:=hs;exact fin (v:=V.non) (u:=Value.none) J rfl q
 | brk =>
  obtain ⟨_,_,_,q⟩:=hs;exact False.elim q
 | cont =>
  obtain ⟨_,_,_,q⟩:=hs;exact False.elim q
section
variable{X:Cx}{x:Str}{p pos:Pos}{e:Expr}{es:List Expr}{t:TA}{id T:String}{r:List V->Hp->VK->Prop}
def tCB(r:List V->Hp->VK->Prop)(t:TA):TE:=λσ H Q=>t σ H λvs H1=>r vs H1 Q
theorem PR(hc:jJ X (.builtin id) r)(hg:Gl X x)(hm:X.mg x=none)(hv:bootBuiltins x=some (.builtin id))(ha:PA X (e::es) t)(hn:x ≠ "__name__" := by decide)(hdb:(x == ("__debug__" : Str))=false:=by decide)
  (he:starEach (e::es) X.env=(false,eval e X.env)::starEach es X.env:=by rfl) (hpl:(backTo pos (starEach es X.env)).any (·.1)=false:=by rfl):PE X (.Call (.Name x p) (e::es) [] pos) (tCB r t):=by
 intro pins s σ H Q I h;refine wpAny_Call_Name_kw (oU I hg hm hv ?_ hn hdb);exact PyProof.Rows.callWith_builtin1 (thn (ha pos pins s σ H _ I h) λus s1 ⟨vs,H1,I1,r1,q1⟩=>hc pins s1 σ H1 vs us Q I1 r1 q1) he hpl
theorem LI(hc:jJ X (.type T) r)(hg:Gl X x)(hm:X.mg x=none)(hv:bootBuiltins x=some (.type T))(ha:PA X (e::es) t)(hn:x ≠ "__name__" := by decide)(hdb:(x == ("__debug__" : Str))=false:=by decide)
  (he:starEach (e::es) X.env=(false,eval e X.env)::starEach es X.env:=by rfl) (hpl:(backTo pos (starEach es X.env)).any (·.1)=false:=by rfl):PE X (.Call (.Name x p) (e::es) [] pos) (tCB r t):=by
 intro pins s σ H Q I h;refine wpAny_Call_Name_kw (oU I hg hm hv ?_ hn hdb);exact PyProof.Rows.callWith_type1 (thn (ha pos pins s σ H _ I h) λus s1 ⟨vs,H1,I1,r1,q1⟩=>hc pins s1 σ H1 vs us Q I1 r1 q1) he hpl
end
end L2
namespace HT
open PySem PyProof.Rows
def oC:List Int->List Int->Bool
 | [],[]=>false
 | [],_::_=>true
 | _::_,[]=>false
 | x::xs,y::ys=>if x=y then oC xs ys else decide (x<y)
theorem xI(x y:Int)(xs ys:List Int):oC (x::xs) (y::ys)=if x=y then oC xs ys else decide (x<y):=rfl
theorem yH:oC [] []=false:=rfl
theorem xG(y:Int)(ys:List Int):oC [] (y::ys)=true:=rfl
theorem xH(x:Int)(xs:List Int):oC (x::xs) []=false:=rfl
theorem QT(A:Around)(s:Shared)(a:Int)(t:Tok)(c:Int)(u:Tok):∃e,SeqAt.EqAt A s (.int a t) (.int c u) e/\(e=true↔a=c) :=
 ⟨(a == c),SeqAt.EqAt.int_int a t c u,by simp⟩
theorem OT(A:Around)(s:Shared)(a:Int)(t:Tok)(c:Int)(u:Tok)(prog:Program)(w:World)(E:Value->Shared->Prop)(Q:Value->Shared->Prop)(h:Q (.bool (decide (a<c))) s) :
  wpAny (model prog w) A (richCompare .Lt (.int a t) (.int c u)) Q E s :=
 (PyProof.Rows.lt_int h:wpAny (model prog w) A (compareOp .Lt (.int a t) (.int c u)) Q E s)
section
open PySem.SeqAt
open PySem.AutoSeq1 (wpAny_loadPart')
open PySem.MeetsSeq PySem.MeetsSeq2 PySem.MeetsSeq3
theorem yD(l b:Addr)(items items2:Array Value)(n n2:Nat)(dd dd2:Option Addr)(sl sl2:Array (Option Value))(ns ms:List Int)(hi:IntsAre items.toList ns)(hj:IntsAre items2.toList ms) :
  Meets (Builtin.«tuple.__lt__» ⟨[.ref l,.ref b],[]⟩)
   (λ_ R s=>s.heap.get? l=some { cls:=.type "tuple",dict:=dd,data:=.seq items n,slots:=sl }/\s.heap.get? b=some { cls:=.type "tuple",dict:=dd2,data:=.seq items2 n2,slots:=sl2 } /\
    R (.ok (.ret (.bool (oC ns ms)))) s) :=
 .of_wp λprog w A R s h=>by
  obtain ⟨hp,g,d,tk,os⟩:=s;obtain ⟨hl,hb,h⟩:=h;have f2:=AutoSeq1.sub_tuple_tuple;have z1:items.size=ns.length:=by rw [<-hi.length];simp
  have z2:items2.size=ms.length:=by rw [<-hj.length];simp
  wp_walk using wpAny_loadPart' hl,wpAny_loadPart' hb,wpAny_forIn_list _ (λrest b s'=>b.1=none/\s'=⟨hp,g,d,tk,os⟩/\∃(vs ws:List Value) (ns' ms':List Int),rest=vs.zip ws /\
   IntsAre vs ns'/\IntsAre ws ms'/\ns'.length+items2.size=ms'.length+items.size/\R (.ok (.ret (.bool (oC ns' ms')))) ⟨hp,g,d,tk,os⟩) _
  case turn =>
   rintro ⟨y,x⟩ rest b s' ⟨hb',rfl,vs,ws,ns',ms',hz,hvi,hwi,hlen,hR⟩;cases hvi with
   | nil=>rw [List.zip_nil_left] at hz;cases hz
   | cons a t hvi' =>
    cases hwi with
    | nil=>rw [List.zip_nil_right] at hz;cases hz
    | cons c u hwi' =>
     rw [List.zip_cons_cons] at hz;injection hz with hyx hrest;injection hyx with hy hx;subst hy hx;rw [xI] at hR;simp only [bU] at hlen;obtain ⟨e,he,hiff⟩:=QT A.in1 ⟨hp,g,d,tk,os⟩ a t c u;refine wpAny_bind (he prog w _ _ ?_);cases e with
     | true =>
      rw [if_pos (hiff.mp rfl)] at hR
      wp_walk
      exact ⟨rfl,rfl,_,_,_,_,hrest,hvi',hwi',Oo,hR⟩
     | false =>
      rw [if_neg (λq=>absurd (hiff.mpr q) bN)] at hR;have hri:=OT A.in1 ⟨hp,g,d,tk,os⟩ a t c u prog w
      wp_walk using hri
      exact ⟨_,rfl,by simpa using hR⟩
  case fin =>
   rintro ⟨b1,b2⟩ s' ⟨hb',rfl,vs,ws,ns',ms',hz,hvi,hwi,hlen,hR⟩;simp only at hb';subst hb';have hv:oC ns' ms'=decide (items.size<items2.size):=by
    cases hvi with
    | nil =>
     cases hwi with
     | nil =>
      simp only [List.length_nil] at hlen;rw [yH];exact (cH Oo).symm
     | cons c u hw =>
      simp only [List.length_nil,bU] at hlen;rw [xG];exact (cO Oo).symm
    | cons a t hv =>
     cases hwi with
     | nil =>
      simp only [List.length_nil,bU] at hlen;rw [xH];exact (cH Oo).symm
     | cons c u hw =>
      rw [List.zip_cons_cons] at hz;cases hz
   rw [hv] at hR
   wp_walk
   exact ⟨_,rfl,by simpa [Builtin.Tuple.tupleCompareSizes] using hR⟩
  case h =>
   exact ⟨rfl,rfl,items.toList,items2.toList,ns,ms,rfl,hi,hj,Oo,h⟩
end
section
variable{prog:Program}{w:World}{A:Around}{E:Value->Shared->Prop}{s:Shared}
theorem HB{l b:Addr}{items items2:Array Value}{ns ms:List Int}{Q:Value->Shared->Prop}(hl:IsTup s.heap l items)(hb:IsTup s.heap b items2)(hi:IntsAre items.toList ns)(hj:IntsAre items2.toList ms)
  (hu:A.units<cLine) (h:Q (.bool (oC ns ms)) s):wpAny (model prog w) A (compareOp .Lt (.ref l) (.ref b)) Q E s:=by
 obtain ⟨⟨cls,dd,data,sl⟩,ho,hc,n,hd⟩:=id hl;obtain ⟨⟨cls2,dd2,data2,sl2⟩,ho2,hc2,n2,hd2⟩:=id hb;simp only at hc hd hc2 hd2;subst hc hd hc2 hd2;exact richCompare_meets_room (op:=.Lt) ⟨_,ho,rfl⟩ ⟨_,ho2,rfl⟩ PySem.F.slot_tuple_lt PySem.F.entry_tuple_lt (PySem.F.args_tuple_lt_2 _ _) (yD l b items items2 n n2 dd dd2 sl sl2 ns ms hi hj)
  ⟨ho,ho2,show Value.bool (oC ns ms)≠Value.notImplemented/\Q (.bool (oC ns ms)) s from ⟨(λx=>nomatch x),h⟩⟩ hu
theorem XC{t b:Addr}{vs ws:List Value}{Q:Value->Shared->Prop}(ht:IsTup s.heap t vs.toArray)(hb:IsTup s.heap b ws.toArray)(hv:vs≠[])
  (h1:ws=[]->Q (.ref t) s) (h2:ws≠[]->Q (.ref s.heap.objs.size) { s with heap:=s.heap.push { cls:=.type "tuple",data:=.seq (vs++ws).toArray } })
  (hsz:vs.length+ws.length<=sizeLine):wpAny (model prog w) A (binaryOp .Add (.ref t) (.ref b)) Q E s:=by
 obtain ⟨⟨cls,dd,data,sl⟩,ho,hc,n,hd⟩:=id ht;obtain ⟨⟨cls2,dd2,data2,sl2⟩,ho2,hc2,n2,hd2⟩:=id hb;simp only at hc hd hc2 hd2;subst hc hd hc2 hd2;have e:vs.toArray++ws.toArray=(vs++ws).toArray:=by simp
 by_cases hw:ws=[]
 ·exact concat_meets ⟨_,ho,rfl⟩ ⟨_,ho2,rfl⟩ noFill_tuple_add seq_tuple_add PySem.F.slot_tuple_add PySem.F.entry_tuple_add (PySem.F.args_tuple_add_2 _ _)
   (tuple_addW1 t b vs.toArray ws.toArray n n2 dd dd2 sl sl2 (by simpa using hv) (by simp [hw])) ⟨ho,ho2,h1 hw⟩
 ·refine concat_meets ⟨_,ho,rfl⟩ ⟨_,ho2,rfl⟩ noFill_tuple_add seq_tuple_add PySem.F.slot_tuple_add PySem.F.entry_tuple_add (PySem.F.args_tuple_add_2 _ _)
   (tuple_addW2 t b vs.toArray ws.toArray n n2 dd dd2 sl sl2 (by simpa using hv) (by simpa using hw) (by rw [aS,aS];exact hsz)) ⟨ho,ho2,?_⟩
  rw [e];exact h2 hw
def iU(n d:Nat):Option Int->Nat
 | none=>d
 | some v=>if v<0 then (v+(n:Int)).toNat else min v.toNat n
theorem sV(n d:Nat):iU n d none=d:=rfl
theorem BB(n d k:Nat):iU n d (some (k:Int))=min k n:=by
 show (if (k:Int)<0 then ((k:Int)+(n:Int)).toNat else min (k:Int).toNat n)=min k n;rw [if_neg Oo,Int.toNat_natCast]
theorem ZU(n d:Nat)(hd:d<=n)(o:Option Int):iU n d o<=n:=by
 cases o with
 | none=>exact hd
 | some v =>
  show (if v<0 then (v+(n:Int)).toNat else min v.toNat n)<=n;by_cases hv:v<0
  ·rw [if_pos hv];omega
  ·rw [if_neg hv];exact Nat.min_le_right _ _
theorem JN(v:Int)(n d:Nat):(if v<0 then max (v+(n:Int)) 0 else min v (n:Int))=((iU n d (some v):Nat):Int):=by
 show (if v<0 then max (v+(n:Int)) 0 else min v (n:Int))=(((if v<0 then (v+(n:Int)).toNat else min v.toNat n):Nat):Int);by_cases hv:v<0
 ·simp only [if_pos hv];omega
 ·simp only [if_neg hv];omega
theorem HL(lo hi:Option Int)(n:Nat):Builtin.Slice.sliceAdjust lo hi 1 (n:Int)=(((iU n 0 lo:Nat):Int),((iU n n hi:Nat):Int)):=by
 have h1:¬((1:Int)<0):=Oo;unfold Builtin.Slice.sliceAdjust;simp only [h1,if_false];refine Prod.ext ?_ ?_
 ·cases lo with
  | none=>rfl
  | some v=>exact JN v n 0
 ·cases hi with
  | none=>rfl
  | some v=>exact JN v n n
theorem GS(i j:Nat):Builtin.Slice.slicePlaces (i:Int) (j:Int) 1=j-i:=by
 unfold Builtin.Slice.slicePlaces;have h1:(1:Int) > 0:=Oo;simp only [h1,if_true,Int.ediv_one];split <;> omega
theorem wX{v:Value}{o:Option Int}{Q:Option Int->Shared->Prop}(p:IsPart v o)(h:Q o s):wpAny (model prog w) A (Builtin.Slice.slicePartIndex v) Q E s:=by
 cases p with
 | none=>exact slicePart_none h
 | int i t=>exact slicePart_int h
theorem oB{sl:Addr}{vl vu:Value}{lo hi:Option Int}{n:Nat}{Q:Int × Int × Nat->Shared->Prop}(hs:s.heap.IsSliceOf sl vl vu .none)(pl:IsPart vl lo)(pu:IsPart vu hi)
  (h:Q (((iU n 0 lo:Nat):Int),1,iU n n hi-iU n 0 lo) s):wpAny (model prog w) A (Builtin.Slice.sliceApplied (.ref sl) (pure (n:Int))) Q E s:=by
 obtain ⟨os,hos,hcs,hds⟩:=id hs;unfold Builtin.Slice.sliceApplied Builtin.Slice.sliceFields;refine wpAny_bind (wpAny_bind (wpAny_field hos hds (x:=vl) rfl (wpAny_bind (wpAny_field hos hds (x:=vu) rfl (wpAny_bind (wpAny_field hos hds (x:=.none) rfl (wpAny_pure ?_)))))));refine wpAny_bind (slicePart_none ?_);show wpAny _ _ (if ((1:Int) == 0)=true then _ else _) _ _ s;rw [if_neg Dd];refine wpAny_bind (wX pl (wpAny_bind (wX pu (wpAny_bind (wpAny_pure ?_)))));show wpAny _ _ (match Builtin.Slice.sliceAdjust lo hi 1 (n:Int) with | (lo,hi)=>pure (lo,(1:Int),Builtin.Slice.slicePlaces lo hi 1)) _ _ s;rw [HL lo hi n];show wpAny _ _ (pure (((iU n 0 lo:Nat):Int),(1:Int),Builtin.Slice.slicePlaces ((iU n 0 lo:Nat):Int) ((iU n n hi:Nat):Int) 1)) _ _ s;rw [GS];exact wpAny_pure h
theorem PH(xs:Array Value)(i k:Nat):((List.range k).filterMap λ(m:Nat)=>xs[((i:Int)+(m:Int)*1).toNat]?).toArray=((xs.toList.drop i).take k).toArray:=by
 have e:(λ(m:Nat)=>xs[((i:Int)+(m:Int)*1).toNat]?)=λm=>xs[i+m]?:=by
  funext m
  have:((i:Int)+(m:Int)*1).toNat=i+m:=Oo;rw [this]
 rw [e];have:=pick_run xs i k;rw [List.filterMap_map] at this;have e2:((λx=>xs[x]?) ∘ λx=>i+x)=λm=>xs[i+m]?:=rfl;rw [e2] at this;rw [this]
theorem tH{t sl:Addr}{items:Array Value}{vl vu:Value}{lo hi:Option Int}{Q:Value->Shared->Prop}(ht:IsTup s.heap t items)(hs:s.heap.IsSliceOf sl vl vu .none)(pl:IsPart vl lo)(pu:IsPart vu hi)
  (hw:¬(iU items.size 0 lo=0/\iU items.size items.size hi=items.size))
  (h:Q (.ref s.heap.objs.size) { s with heap:=s.heap.push { cls:=.type "tuple",data:=.seq ((items.toList.drop (iU items.size 0 lo)).take (iU items.size items.size hi-iU items.size 0 lo)).toArray } })
  (hsz:items.size<=sizeLine):wpAny (model prog w) A (getItem (.ref t) (.ref sl)) Q E s:=by
 have htake:sizeOk (.seq ((items.toList.drop (iU items.size 0 lo)).take (iU items.size items.size hi-iU items.size 0 lo)).toArray):=by
  show ((items.toList.drop (iU items.size 0 lo)).take (iU items.size items.size hi-iU items.size 0 lo)).toArray.size<=sizeLine;rw [aS,cL,List.length_drop,Array.length_toList];omega
 have hj:iU items.size items.size hi<=items.size:=ZU _ _ (aI _) hi;obtain ⟨os,hos,hcs,hds⟩:=id hs;have hTs:s.TypeIs (.ref sl) "slice" := ⟨os,hos,hcs⟩;unfold getItem
 try with_reducible refine wpAny_holding ?_
 first | refine wpAny_bind (wpAny_pure ?_) | skip
 refine wpAny_bind (wpAny_sequenceKey ht.typeIs Dd ?_);refine wpAny_bind (wpAny_callSpecial?_slot (name:=Str.ofString "__getitem__") ht.typeIs PyProof.Rows.slot_tuple_getitem
  (wpAny_call_entry PyProof.Rows.slot_tuple_getitem ht.typeIs entry_tuple_getitem ?_ (args_tuple_getitem _ _)))
 show wpAny _ _ (Builtin.Tuple.tupleItemsOf (.ref t) >>= _) _ _ s;refine wpAny_bind (tupleItemsOf_ ht ?_);refine wpAny_bind (wpAny_typeOf hTs ?_);rw [if_pos Dd];refine wpAny_bind (oB hs pl pu ?_);have hno:¬((((iU items.size 0 lo:Nat):Int) == 0&&(1:Int) == 1&&(iU items.size items.size hi-iU items.size 0 lo) == items.size)=true):=by
  intro q;rw [cM,cM] at q;have q1:((iU items.size 0 lo:Nat):Int)=0:=eq_of_beq q.1.1;have q2:iU items.size items.size hi-iU items.size 0 lo=items.size:=eq_of_beq q.2;exact hw ⟨Oo,Oo⟩
 show wpAny _ _ (if (((iU items.size 0 lo:Nat):Int) == 0&&(1:Int) == 1&&(iU items.size items.size hi-iU items.size 0 lo) == items.size)=true then _ else _) _ _ s;rw [if_neg hno,PH]
 first
  | exact wpAny_bind (m:=Builtin.Tuple.tupleExact _) (wpAny_newObj_type (wpAny_pure ⟨_,rfl,wpAny_pure h⟩) htake)
  | exact wpAny_bind (m:=Builtin.Tuple.tupleExact _) (wpAny_newObj_type (wpAny_bind (wpAny_pure (wpAny_pure ⟨_,rfl,wpAny_pure h⟩))) htake)
  | exact wpAny_bind (wpAny_bind (m:=Builtin.Tuple.tupleExact _) (wpAny_newObj_type (wpAny_pure (wpAny_pure ⟨_,rfl,wpAny_pure h⟩)) htake))
  | exact wpAny_bind (wpAny_bind (m:=Builtin.Tuple.tupleExact _) (wpAny_newObj_type (wpAny_pure ⟨_,rfl,wpAny_pure h⟩) htake))
end
end HT
namespace L2
open PySem PySem.Spec PyProof.Rows
abbrev TO:=St->Hp->(Option Int->Hp->Prop)->Prop
def PO(X:Cx)(e:Option Expr)(t:TO):Prop :=
 ∀(pins:List (Addr × Obj)) (s:Shared) (σ:St) (H:Hp) (Q:Option Int->Hp->Prop),cF X pins σ H s->t σ H Q ->
  wpAny (model X.prog X.w) X.A (evalPart e X.env) (λu s'=>∃o H',cF X pins σ H' s'/\IsPart u o/\Q o H') X.xe s
def IE:TO:=λ_ H Q=>Q none H
def YF(t:TE):TO:=λσ H Q=>t σ H λx H1=>∃i,x=.int i/\Q (some i) H1
theorem oW{ns:List Int}:∀{us:List Value},cZ (ns.map V.int) us->IntsAre us ns:=by
 induction ns with
 | nil=>intro us r;rw [List.map_nil] at r;cases r;exact .nil
 | cons n ns ih =>
  intro us r;rw [bH] at r;cases r with
  | cons r1 r2 =>
   obtain ⟨t,e⟩:=r1;subst e;exact .cons n t (ih r2)
section
variable{X:Cx}{e:Expr}{te:TE}{lo hi:Option Expr}{tl th:TO}{pos p2:Pos}
theorem po_none:PO X none IE:=by
 intro pins s σ H Q I h;rw [evalPart_none];exact wpAny_pure ⟨none,H,I,.none,h⟩
theorem VQ(h:PE X e te):PO X (some e) (YF te):=by
 intro pins s σ H Q I hw;rw [evalPart_some];refine thn (h pins s σ H _ I hw) λu s1 ⟨x,H1,I1,r1,q1⟩=>?_;obtain ⟨i,rfl,q⟩:=q1;obtain ⟨t,rfl⟩:=r1;exact ⟨some i,H1,I1,.int i t,q⟩
def SlR(X:Cx)(r:V->Option Int->Option Int->Hp->VK->Prop):Prop :=
 ∀(pins:List (Addr × Obj)) (s:Shared) (σ:St) (H:Hp) (x:V) (v vl vu:Value) (lo hi:Option Int) (sl:Addr) (Q:VK),cF X pins σ H s->dJ x v->s.heap.IsSliceOf sl vl vu .none->IsPart vl lo->IsPart vu hi->r x lo hi H Q ->
  ∃T id,typeLookup (.type T) "__getitem__" = pure (some (.builtin id))/\s.TypeIs v T/\wpAny (model X.prog X.w) X.A (getItem v (.ref sl)) (EP X pins σ Q) X.xe s
def tSl(r:V->Option Int->Option Int->Hp->VK->Prop)(te:TE)(tl th:TO):TE:=λσ H Q=>te σ H λx H1=>tl σ H1 λl H2=>th σ H2 λu H3=>r x l u H3 Q
theorem PM{r:V->Option Int->Option Int->Hp->VK->Prop}(hr:SlR X r)(he:PE X e te)(hl:PO X lo tl)(hu:PO X hi th):PE X (.Subscript e (.Slice lo hi none p2) pos) (tSl r te tl th):=by
 intro pins s σ H Q I h;refine Subscript_ (thn (he pins s σ H _ I h) λv s1 ⟨x,H1,I1,r1,q1⟩=>?_);refine wpAny_Slice (thn (hl pins s1 σ H1 _ I1 q1) λvl s2 ⟨l,H2,I2,pl,q2⟩=>thn (hu pins s2 σ H2 _ I2 q2) λvu s3 ⟨u,H3,I3,pu,q3⟩=>?_);rw [evalPart_none];refine wpAny_pure ?_;have I4:cF X pins σ H3 { s3 with heap:=s3.heap.push { cls:=.type "slice",data:=.fields #[vl,vu,.none] } }:=I3.kept (t':=s3.toks) λb ob q=>aC _ q;obtain ⟨T,id,hT,ht,hg⟩:=hr pins { s3 with heap:=s3.heap.push { cls:=.type "slice",data:=.fields #[vl,vu,.none] } } σ H3 x v vl vu l u s3.heap.objs.size Q I4 r1 (Heap.IsSliceOf.new ..) pl pu q3;show wpAny (model X.prog X.w) X.A (subscriptTail e (.Slice lo hi none p2) v (.ref s3.heap.objs.size)) (EP X pins σ Q) X.xe { s3 with heap:=s3.heap.push { cls:=.type "slice",data:=.fields #[vl,vu,.none] } };exact tail_any (ops:=[.ref s3.heap.objs.size,v]) ht hT hg (by with_unfolding_all rfl)
def lK(xs:List V)(lo hi:Option Int):List V:=(xs.drop (HT.iU xs.length 0 lo)).take (HT.iU xs.length xs.length hi-HT.iU xs.length 0 lo)
theorem vO(xs:List V)(lo hi:Option Int):(lK xs lo hi).length<=xs.length:=by
 unfold lK;rw [cL,List.length_drop];omega
def aCL(K:PySem.W.Frag):V->Option Int->Option Int->Hp->VK->Prop:=λx lo hi H Q=>∃a xs,x=.ref a/\jH K H a xs /\
 ¬(HT.iU xs.length 0 lo=0/\HT.iU xs.length xs.length hi=xs.length)/\∀p,H p=none->Q (.ref p) (upd H p (.tup (lK xs lo hi)))
theorem ZQ:SlR X (aCL X.K):=by
 intro pins s σ H x v vl vu lo hi sl Q I rx hs pl pu h;obtain ⟨a,xs,rfl,hx,hw,q⟩:=h;cases rx;obtain ⟨its,r,ht,hz⟩:=I.tuple hx;have hlen:its.toArray.size=xs.length:=by rw [aS];exact r.length.symm
 refine ⟨"tuple",_,PyProof.Rows.slot_tuple_getitem.lookup,ht.typeIs,?_⟩;refine HT.tH ht hs pl pu (by rw [hlen];exact hw) ?_ (by rw [hlen];exact hz);rw [hlen];refine ⟨.ref s.heap.objs.size,_,I.laid (t':=s.toks) (o:=.tup (lK xs lo hi)) (λb ob q=>aC _ q) (aI _) ?_,rfl,q _ (I.hok.fresh (aI _))⟩;exact ⟨⟨aK (vO xs lo hi) hz,_,bB _ rfl,rfl⟩,_,(r.drop (HT.iU xs.length 0 lo)).take (HT.iU xs.length xs.length hi-HT.iU xs.length 0 lo),IsTup.new _ _⟩
def aBN(K:PySem.W.Frag):R2:=λx y H Q=>∃a b xs ys,x=.ref a/\y=.ref b/\jH K H a xs/\jH K H b ys/\xs≠[]/\xs.length+ys.length<=sizeLine /\
 (ys=[]->Q (.ref a) H)/\(ys≠[]->∀p,H p=none->Q (.ref p) (upd H p (.tup (xs++ys))))
theorem cZ.nil_iff{xs:List V}{us:List Value}(r:cZ xs us):us=[]↔xs=[]:=by
 cases r with
 | nil=>simp
 | cons _ _=>simp
theorem WF:tW X (binaryOp .Add) (aBN X.K):=by
 intro pins s σ H x y v u Q I rx ry h;obtain ⟨a,b,xs,ys,rfl,rfl,ha,hb,hx,hz,q1,q2⟩:=h;cases rx;cases ry;obtain ⟨its,r1,p1,_⟩:=I.tuple ha;obtain ⟨its2,r2,p2,_⟩:=I.tuple hb;refine HT.XC p1 p2 (λz=>hx (r1.nil_iff.mp z)) (λz=>⟨.ref a,H,I,rfl,q1 (r2.nil_iff.mp z)⟩) (λz=>?_) (by rw [<-r1.length,<-r2.length];exact hz);refine ⟨.ref s.heap.objs.size,_,I.laid (t':=s.toks) (o:=.tup (xs++ys)) (λb ob q=>aC _ q) (aI _) ?_,rfl,q2 (λw=>z (r2.nil_iff.mpr w)) _ (I.hok.fresh (aI _))⟩;exact ⟨⟨by rw [bE];exact hz,_,bB _ rfl,rfl⟩,_,r1.append r2,IsTup.new _ _⟩
end
def MQ(n:Nat)(i:Int):Option Nat:=if 0<=i then (if i<n then some i.toNat else none) else if -(n:Int)<=i then some (i+n).toNat else none
def yI{α:Type}(xs:List α)(i:Int):Option α:=(MQ xs.length i).bind λj=>xs[j]?
theorem IZ{n:Nat}{i:Int}{j:Nat}(h:MQ n i=some j):seqIndex? i n=some j/\j<n/\-(n:Int)<=i/\i<n:=by
 unfold MQ at h;by_cases h0:0<=i
 ·rw [if_pos h0] at h;by_cases h1:i<n
  ·rw [if_pos h1] at h;have e:i.toNat=j:=fQ h;exact ⟨by rw [seqIndex_of h0 h1,e],Oo,Oo,h1⟩
  ·rw [if_neg h1] at h;cases h
 ·rw [if_neg h0] at h;by_cases h1:-(n:Int)<=i
  ·rw [if_pos h1] at h;have e:(i+n).toNat=j:=fQ h;exact ⟨by rw [seqIndex_neg Oo h1,e],Oo,h1,Oo⟩
  ·rw [if_neg h1] at h;cases h
theorem CG{α:Type}{xs:List α}{i:Int}{v:α}(h:yI xs i=some v):∃j,seqIndex? i xs.length=some j/\xs[j]?=some v/\j<xs.length/\-(xs.length:Int)<=i/\i<xs.length:=by
 unfold yI at h;cases e:MQ xs.length i with
 | none=>rw [e] at h;cases h
 | some j =>
  rw [e] at h;obtain ⟨h1,h2,h3,h4⟩:=IZ e;exact ⟨j,h1,h,h2,h3,h4⟩
theorem cT{α:Type}{xs:List α}{j:Nat}{v:α}(h:xs[j]?=some v):yI xs (j:Int)=some v:=by
 have hj:j<xs.length:=(aF.mp h).1;have e:MQ xs.length (j:Int)=some j:=by
  unfold MQ;rw [if_pos Oo,if_pos Oo];simp
 unfold yI;rw [e];exact h
theorem RX{α:Type}(xs:List α)(v:α):yI (xs++[v]) (-1)=some v:=by
 have hl:(xs++[v]).length=xs.length+1:=by simp
 have e:MQ (xs++[v]).length (-1)=some xs.length:=by
  unfold MQ;rw [hl,if_neg Dd,if_pos Oo];congr 1;omega
 unfold yI;rw [e];show (xs++[v])[xs.length]?=some v;simp
def JX(b:Expr):Prop:=∀o i,subscripted b false o i=operate [o,i] (getItem o i)
def SE(X:Cx)(r:R2):Prop :=
 ∀(value slice:Expr) (pins:List (Addr × Obj)) (s:Shared) (σ:St) (H:Hp) (x y:V) (v u:Value) (Q:VK),cF X pins σ H s->dJ x v->dJ y u->r x y H Q ->
  subscripted slice false v u=operate [v,u] (getItem v u)->wpAny (model X.prog X.w) X.A (subscriptTail value slice v u) (EP X pins σ Q) X.xe s
def MtR(X:Cx)(id:String)(r:V->List V->Hp->VK->Prop):Prop :=
 ∀(pins:List (Addr × Obj)) (s:Shared) (σ:St) (H:Hp) (x:V) (xs:List V) (v:Value) (us:List Value) (Q:VK),cF X pins σ H s->dJ x v->cZ xs us->r x xs H Q ->
  wpAny (model X.prog X.w) X.A (call (.builtin id) (v::us)) (EP X pins σ Q) X.xe s
section
variable{X:Cx}{a b:Expr}{ta tb:TE}{pos:Pos}
theorem SE.or{r r':R2}(h:SE X r)(h':SE X r'):SE X (λx y H Q=>r x y H Q\/r' x y H Q):=by
 intro value slice pins s σ H x y v u Q I rx ry q hs;rcases q with q | q
 ·exact h value slice pins s σ H x y v u Q I rx ry q hs
 ·exact h' value slice pins s σ H x y v u Q I rx ry q hs
theorem aBT{r:R2}(hr:SE X r)(ha:PE X a ta)(hb:PE X b tb)(hs:JX b):PE X (.Subscript a b pos) (SZ r ta tb):=by
 intro pins s σ H Q I h;exact Subscript_ (aAZ ha hb I h λv u s2 x y H2 I2 rx ry q=>hr a b pins s2 σ H2 x y v u Q I2 rx ry q (hs _ _))
def aBL(K:PySem.W.Frag):R2:=λx y H Q=>∃p xs i v,x=.ref p/\y=.int i/\fN K H p xs/\yI xs i=some v/\Q v H
def aBJ(K:PySem.W.Frag):R2:=λx y H Q=>∃p xs i v,x=.ref p/\y=.int i/\jH K H p xs/\yI xs i=some v/\Q v H
def aBK:R2:=λx y H Q=>∃z i c,x=.str z/\y=.int i/\z.length<=sizeLine/\yI z.cps.toList i=some c/\Q (.str ⟨#[c]⟩) H
theorem WQ:SE X (aBL X.K):=by
 intro value slice pins s σ H x y v u Q I rx ry h hs;obtain ⟨p,xs,i,z,rfl,rfl,hq,he,q⟩:=h;cases rx;obtain ⟨t,rfl⟩:=ry;obtain ⟨its,r,pl,hz⟩:=I.list hq;obtain ⟨j,h1,h2,h3,h4,h5⟩:=CG he;obtain ⟨w,ew,rw'⟩:=r.get h2;have hl:=r.length;have hn:=xF;have fin:EP X pins σ Q w s:=⟨z,H,I,rw',q⟩;by_cases h0:0<=i
 ·have hj:i.toNat=j:=by
   rw [seqIndex_of h0 h5] at h1;exact fQ h1
  exact item_listR pl.isList h0 Oo (by rw [hj];simpa using ew) fin hs
 ·have hj:(i+(its.toArray.size:Int)).toNat=j:=by
   rw [seqIndex_neg Oo h4] at h1;rw [aS,<-hl];exact fQ h1
  exact subscriptTail_builtinR (x:=w) pl.isList.typeIs slot_list_getitem.lookup
   (wpAny_getItem_list_neg (Q:=λr s'=>r=w/\EP X pins σ Q r s') pl.isList Oo (by rw [aS] <;> omega) Oo (by rw [hj];simpa using ew) ⟨rfl,fin⟩) hs
theorem aAF:SE X (aBJ X.K):=by
 intro value slice pins s σ H x y v u Q I rx ry h hs;obtain ⟨p,xs,i,z,rfl,rfl,hq,he,q⟩:=h;cases rx;obtain ⟨t,rfl⟩:=ry;obtain ⟨its,r,pl,hz⟩:=I.tuple hq;obtain ⟨j,h1,h2,h3,h4,h5⟩:=CG he;obtain ⟨w,ew,rw'⟩:=r.get h2;have hl:=r.length;have hn:=xF;have fin:EP X pins σ Q w s:=⟨z,H,I,rw',q⟩;exact subscriptTail_builtinR (x:=w) pl.typeIs slot_tuple_getitem.lookup
  (getItem_tuple (j:=j) (Q:=λr s'=>r=w/\EP X pins σ Q r s') pl Oo Oo (by rw [aS,<-hl];exact h1) (by simpa using ew) ⟨rfl,fin⟩) hs
theorem aAG:SE X aBK:=by
 intro value slice pins s σ H x y v u Q I rx ry h hs;obtain ⟨z,i,c,rfl,rfl,hz,he,q⟩:=h;obtain ⟨t,rfl⟩:=rx;obtain ⟨t',rfl⟩:=ry;obtain ⟨j,h1,h2,h3,h4,h5⟩:=CG he;have hl:z.cps.toList.length=z.length:=by simp [Str.length]
 rw [hl] at h1 h4 h5;have hn:=xF;exact tail_any (typeIs_str s z t) slot_str_getitem.lookup (getItem_str (c:=c) (by
  have e1:decide (i < -(2^63:Int))=false:=cH Oo;have e2:decide (i ≥ 2^63)=false:=cH Oo;rw [e1,e2,Bool.or_false]) (by rw [h1];simpa using h2) ⟨.str ⟨#[c]⟩,H,I.tok _,⟨_,rfl⟩,q⟩) hs
def rIx(K:PySem.W.Frag):R2:=λx y H Q=>aBL K x y H Q\/aBJ K x y H Q\/aBK x y H Q
theorem bL:SE X (rIx X.K):=WQ.or (aAF.or aAG)
theorem GY(its:List Value)(n j:Nat)(u:Value):Obj.mapSeq (·.setIfInBounds j u) { cls:=.type "list",data:=.seq its.toArray n }={ cls:=.type "list",data:=.seq (its.set j u).toArray n }:=by
 simp [Obj.mapSeq]
theorem cF.lst{pins:List (Addr × Obj)}{σ:St}{H:Hp}{s:Shared}{p:Addr}{xs:List V}(I:cF X pins σ H s)(h:H p=some (.lst xs)) :
  ∃(its:List Value) (n:Nat),cZ xs its/\s.heap.get? p=some { cls:=.type "list",data:=.seq its.toArray n }/\xs.length<=sizeLine:=by
 obtain ⟨z,its,n,r,e⟩:=I.hok p _ h;exact ⟨its,n,r,e,z⟩
theorem cF.lstUpd{pins:List (Addr × Obj)}{σ:St}{H:Hp}{s:Shared}{p:Addr}{xs ys:List V}{its its':List Value}{n n':Nat}{f:Obj->Obj}(I:cF X pins σ H s)(h:H p=some (.lst xs))
  (ho:s.heap.get? p=some { cls:=.type "list",data:=.seq its.toArray n }) (hf:f { cls:=.type "list",data:=.seq its.toArray n }={ cls:=.type "list",data:=.seq its'.toArray n' }) (r:cZ ys its') (hz:ys.length<=sizeLine) (t:Nat) :
  cF X pins σ (upd H p (.lst ys)) { s with heap:=s.heap.update p f,toks:=t }:=by
 have e:(s.heap.update p f).get? p=some { cls:=.type "list",data:=.seq its'.toArray n' }:=by
  rw [Heap.get?_update_self f ho (by rw [hf] <;> rfl),hf]
 refine I.write (x:=p) (e:=p) (by rw [h];trivial) (.inl rfl) (λb u hb q=>(Heap.get?_update_other _ _ (Ne.symm hb)).trans q) ⟨_,e⟩ ?_;exact ⟨hz,its',n',r,e⟩
def OW:V->V->V->Hp->(Hp->Prop)->Prop:=λo i v H Q=>∃p xs k j,o=.ref p/\i=.int k/\H p=some (.lst xs)/\MQ xs.length k=some j/\Q (upd H p (.lst (xs.set j v)))
theorem OC:aA7 X OW:=by
 intro pins s σ H o i v ov iv u Q I ro ri rv h;obtain ⟨p,xs,k,j,rfl,rfl,hp,hj,q⟩:=h;cases ro;obtain ⟨t,rfl⟩:=ri;obtain ⟨its,n,r,ho,hz⟩:=I.lst hp;obtain ⟨h1,h2,h3,h4⟩:=IZ hj;have hl:=r.length;have hn:=xF;have I':cF X pins σ (upd H p (.lst (xs.set j v))) { s with heap:=s.heap.update p (Obj.mapSeq (·.setIfInBounds j u)) } :=
  I.lstUpd hp ho (GY its n j u) (r.set rv j) (by rw [List.length_set];exact hz) s.toks
 by_cases h0:0<=k
 ·have hk:k.toNat=j:=by
   rw [seqIndex_of h0 h4] at h1;exact fQ h1
  exact PySem.W.ki_setAt ho h0 Oo (by rw [aS,<-hl];exact h4) (by rw [hk];exact ⟨_,I',q⟩)
 ·have hk:(k+(its.toArray.size:Int)).toNat=j:=by
   rw [seqIndex_neg Oo h3] at h1;rw [aS,<-hl];exact fQ h1
  exact PySem.W.ki_setBack ho Oo (by rw [aS,<-hl];exact h3) Oo (by rw [hk];exact ⟨_,I',q⟩)
theorem AZ(lo hi:Option Int)(n:Nat):(sliceBounds lo hi none n).1=((HT.iU n 0 lo:Nat):Int)/\(sliceBounds lo hi none n).2.1=((HT.iU n n hi:Nat):Int)/\(sliceBounds lo hi none n).2.2=1:=by
 refine ⟨?_,?_,rfl⟩
 ·cases lo with
  | none=>simp [sliceBounds,HT.iU]
  | some i =>
   simp only [sliceBounds,HT.iU,Option.getD_none,show (1:Int) > 0 by decide,if_true];by_cases h:i<0
   ·simp only [h,if_true] <;> omega
   ·simp only [h,if_false] <;> omega
 ·cases hi with
  | none=>simp [sliceBounds,HT.iU]
  | some i =>
   simp only [sliceBounds,HT.iU,Option.getD_none,show (1:Int) > 0 by decide,if_true];by_cases h:i<0
   ·simp only [h,if_true] <;> omega
   ·simp only [h,if_false] <;> omega
theorem yG(its:List Value)(lo hi:Option Int):slicePick its.toArray lo hi none=((its.drop (HT.iU its.length 0 lo)).take (HT.iU its.length its.length hi-HT.iU its.length 0 lo)).toArray:=by
 obtain ⟨h1,h2,h3⟩:=AZ lo hi its.toArray.size;unfold slicePick;rw [h1,h2,h3];simp only [sliceRange_one,pick_run,aS] <;> rfl
def aBI(K:PySem.W.Frag):V->Option Int->Option Int->Hp->VK->Prop:=λx lo hi H Q=>∃a xs,x=.ref a/\fN K H a xs/\∀p,H p=none->Q (.ref p) (upd H p (.lst (lK xs lo hi)))
theorem IH:SlR X (aBI X.K):=by
 intro pins s σ H x v vl vu lo hi sl Q I rx hs pl pu h;obtain ⟨a,xs,rfl,hx,q⟩:=h;cases rx;obtain ⟨its,r,ht,hz⟩:=I.list hx;have hlen:=r.length;refine ⟨"list",_,slot_list_getitem.lookup,ht.isList.typeIs,?_⟩;refine wpAny_getItem_list_slice ht.isList hs pl pu .none (by simp) ?_ (by rw [aS] <;> omega);rw [yG,<-hlen];refine ⟨.ref s.heap.objs.size,_,I.laid (t':=s.toks) (o:=.lst (lK xs lo hi)) (λb ob q=>aC _ q) (aI _) ?_,rfl,q _ (I.hok.fresh (aI _))⟩;exact ⟨aK (vO xs lo hi) hz,_,0,(r.drop (HT.iU xs.length 0 lo)).take (HT.iU xs.length xs.length hi-HT.iU xs.length 0 lo),bB _ rfl⟩
def qF:V->Bool
 | .non=>true
 | .bl _=>true
 | .int _=>true
 | .str _=>true
 | _=>false
def QQ:V->V->Bool
 | .non,.non=>true
 | .bl a,.bl b=>a == b
 | .bl a,.int b=>(if a then 1 else 0) == b
 | .int a,.bl b=>a == (if b then 1 else 0)
 | .int a,.int b=>a == b
 | .str a,.str b=>a == b
 | _,_=>false
theorem aAP{A:Around}{s:Shared}{y x:V}{u v:Value}(ry:dJ y u)(rx:dJ x v)(fy:qF y=true)(fx:qF x=true):SeqAt.EqAt A s u v (QQ y x):=by
 cases y with
 | non =>
  cases ry;cases x with
  | non=>cases rx;exact SeqAt.EqAt.same _
  | bl b=>cases rx;exact SeqAt.EqAt.none_bool b
  | int b=>obtain ⟨t,rfl⟩:=rx;exact SeqAt.EqAt.none_int b t
  | str b=>obtain ⟨t,rfl⟩:=rx;exact SeqAt.EqAt.none_str b t
  | _=>exact absurd (show false=true from fx) bN
 | bl a =>
  cases ry;cases x with
  | non=>cases rx;exact SeqAt.EqAt.bool_none a
  | bl b=>cases rx;exact SeqAt.EqAt.bool_bool a b
  | int b=>obtain ⟨t,rfl⟩:=rx;exact SeqAt.EqAt.bool_int a b t
  | str b=>obtain ⟨t,rfl⟩:=rx;exact SeqAt.EqAt.bool_str a b t
  | _=>exact absurd (show false=true from fx) bN
 | int a =>
  obtain ⟨t',rfl⟩:=ry;cases x with
  | non=>cases rx;exact SeqAt.EqAt.int_none a t'
  | bl b=>cases rx;exact SeqAt.EqAt.int_bool a t' b
  | int b=>obtain ⟨t,rfl⟩:=rx;exact SeqAt.EqAt.int_int a t' b t
  | str b=>obtain ⟨t,rfl⟩:=rx;exact SeqAt.EqAt.int_str a t' b t
  | _=>exact absurd (show false=true from fx) bN
 | str a =>
  obtain ⟨t',rfl⟩:=ry;cases x with
  | non=>cases rx;exact SeqAt.EqAt.str_none a t'
  | bl b=>cases rx;exact SeqAt.EqAt.str_bool a t' b
  | int b=>obtain ⟨t,rfl⟩:=rx;exact SeqAt.EqAt.str_int a t' b t
  | str b=>obtain ⟨t,rfl⟩:=rx;exact SeqAt.EqAt.str_str a t' b t
  | _=>exact absurd (show false=true from fx) bN
 | _=>exact absurd (show false=true from fy) bN
def MR(x:V)(u:Value):Bool:=match u with
 | .none=>QQ .non x
 | .bool b=>QQ (.bl b) x
 | .int i _=>QQ (.int i) x
 | .str z _=>QQ (.str z) x
 | _=>false
theorem QR{x y:V}{u:Value}(r:dJ y u)(f:qF y=true):MR x u=QQ y x:=by
 cases y with
 | non=>cases r;rfl
 | bl b=>cases r;rfl
 | int i=>obtain ⟨t,rfl⟩:=r;rfl
 | str z=>obtain ⟨t,rfl⟩:=r;rfl
 | _=>exact absurd (show false=true from f) bN
theorem CI{x:V}:∀{xs:List V}{us:List Value},cZ xs us->xs.all qF=true->us.any (MR x)=xs.any λy=>QQ y x
 | _,_,.nil,_=>rfl
 | y::xs,u::us,.cons r t,f=>by
  rw [List.all_cons,cM] at f;rw [List.any_cons,List.any_cons,QR r f.1,CI t f.2]
theorem tE{A:Around}{s:Shared}{x:V}{v:Value}(rx:dJ x v)(fx:qF x=true):∀{xs:List V}{us:List Value},cZ xs us->xs.all qF=true->∀u∈us,SeqAt.EqAt A s u v (MR x u)
 | _,_,.nil,_=>λu hu=>by cases hu
 | y::xs,u::us,.cons r t,f=>λu' hu=>by
  rw [List.all_cons,cM] at f;rcases bC.mp hu with rfl | hu
  ·rw [QR r f.1];exact aAP r rx f.1 fx
  ·exact tE rx fx t f.2 u' hu
def inV(x:V)(xs:List V):Bool:=xs.any λy=>QQ y x
def rIn(K:PySem.W.Frag)(neg:Bool):R2:=λx y H Q=>∃p xs,y=.ref p/\(fN K H p xs\/jH K H p xs)/\qF x=true/\xs.all qF=true/\Q (.bl (if neg then !inV x xs else inV x xs)) H
theorem BL:tW X (compareOp .NotIn) (rIn X.K true):=by
 intro pins s σ H x y v u Q I rx ry h;obtain ⟨p,xs,rfl,hq,fx,fs,q⟩:=h;cases ry;rcases hq with hq | hq
 ·obtain ⟨its,r,pl,hz⟩:=I.list hq;refine SeqAt.notIn_listAt (MR x) pl.isList (λw hw=>tE rx fx r fs w (by simpa using hw)) ⟨.bl _,H,I,rfl,?_⟩;rw [show its.toArray.any (MR x)=its.any (MR x) by simp,CI r fs];exact q
 ·obtain ⟨its,r,pl,hz⟩:=I.tuple hq;refine SeqAt.notIn_tupleAt (MR x) pl (λw hw=>tE rx fx r fs w (by simpa using hw)) ⟨.bl _,H,I,rfl,?_⟩;rw [show its.toArray.any (MR x)=its.any (MR x) by simp,CI r fs];exact q
theorem tP:jJ X (.type "list") (λxs H Q=>∃p ys,xs=[.ref p]/\(fN X.K H p ys\/jH X.K H p ys)/\∀l,H l=none->Q (.ref l) (upd H l (.lst ys))):=by
 intro pins s σ H xs us Q I r h;obtain ⟨p,ys,rfl,hq,q⟩:=h;obtain ⟨u,rfl,rx⟩:=lD r;cases rx;have fin:∀(its:List Value),cZ ys its->ys.length<=sizeLine->∀(h':Heap) (c':Nat),(∀b o',s.heap.get? b=some o'->h'.get? b=some o') ->
   h'.get? s.heap.objs.size=some { cls:=.type "list",dict:=none,data:=.seq its.toArray c',slots:=#[] }->EP X pins σ Q (.ref s.heap.objs.size) { s with heap:=h' }:=λits r' hz h' c' kp e =>
  ⟨.ref s.heap.objs.size,_,I.laid (t':=s.toks) kp (aI _) (show fE X.prog X.w _ h' _ (.lst ys) from ⟨hz,its,c',r',e⟩),rfl,q _ (I.hok.fresh (aI _))⟩
 rcases hq with hq | hq
 ·obtain ⟨its,r',pl,hz⟩:=I.list hq;have hlen:=r'.length;obtain ⟨o,ho,hc,n,hd⟩:=pl.isList;exact call_list_seq p (.inl rfl) ho hc hd (λh' c' kp e=>fin its r' hz h' c' kp e) (by simp only [aS] <;> omega)
 ·obtain ⟨its,r',pl,hz⟩:=I.tuple hq;have hlen:=r'.length;obtain ⟨o,ho,hc,n,hd⟩:=pl;exact call_list_seq p (.inr rfl) ho hc hd (λh' c' kp e=>fin its r' hz h' c' kp e) (by simp only [aS] <;> omega)
theorem eV:jJ X (.type "tuple") (λxs H Q=>∃p ys,xs=[.ref p]/\((fN X.K H p ys/\∀l,H l=none->Q (.ref l) (upd H l (.tup ys)))\/(jH X.K H p ys/\Q (.ref p) H))):=by
 intro pins s σ H xs us Q I r h;obtain ⟨p,ys,rfl,h⟩:=h;obtain ⟨u,rfl,rx⟩:=lD r;cases rx;rcases h with ⟨hq,q⟩ | ⟨hq,q⟩
 ·obtain ⟨its,r',pl,hz⟩:=I.list hq;have hlen:=r'.length;refine call_tuple_list pl.isList (λh' kp=>?_) (by simp only [aS] <;> omega);have I1:cF X pins σ H { s with heap:=h' }:=I.kept (t':=s.toks) kp;have I2:cF X pins σ (upd H h'.objs.size (.tup ys)) { s with heap:=h'.push { cls:=.type "tuple",data:=.seq its.toArray } } :=
   I1.laid (t':=s.toks) (λb o e=>aC _ e) (aI _) (show fE X.prog X.w _ _ _ (.tup ys) from ⟨⟨hz,_,bB _ rfl,rfl⟩,its,r',IsTup.new _ _⟩)
  exact ⟨.ref h'.objs.size,_,I2,rfl,q _ (I1.hok.fresh (aI _))⟩
 ·obtain ⟨its,r',pl,hz⟩:=I.tuple hq;exact call_tuple_same pl ⟨.ref p,H,I,rfl,q⟩
def tyV(K:PySem.W.Frag)(T:String)(x:V)(H:Hp):Prop:=match x with
 | .str _=>T = "str"
 | .int _=>T = "int"
 | .ref p=>(T = "list" /\ ∃xs,fN K H p xs)\/(T = "tuple" /\ ((∃o,K.lookup p=some o/\o.cls=.type "tuple" /\ o.dict=none)\/∃xs,H p=some (.tup xs))) \/
   (T = "dict" /\ ((∃kvs,H p=some (.dK kvs))\/∃kvs,H p=some (.dT kvs)))\/(T = "set" /\ ∃S n,H p=some (.set S n))
 | _=>False
theorem ZL{pins:List (Addr × Obj)}{σ:St}{H:Hp}{s:Shared}{T:String}{x:V}{v:Value}(I:cF X pins σ H s)(r:dJ x v)(ty:tyV X.K T x H) :
  s.TypeIs v T/\∀a,v=.ref a->∃ob,s.heap.get? a=some ob/\ob.dict=none:=by
 cases x with
 | str z =>
  obtain ⟨t,rfl⟩:=r;cases (show T = "str" from ty);exact ⟨typeIs_str s z t,λ_ e=>nomatch e⟩
 | int i =>
  obtain ⟨t,rfl⟩:=r;cases (show T = "int" from ty);exact ⟨typeIs_int s i t,λ_ e=>nomatch e⟩
 | ref p =>
  cases r;rcases ty with ⟨rfl,xs,hq⟩ | ⟨rfl,⟨o,hk,hc,hd⟩ | ⟨xs,hq⟩⟩ | ⟨rfl,hk⟩ | ⟨rfl,S,n,hk⟩
  ·obtain ⟨its,_,pl,_⟩:=I.list hq;refine ⟨pl.isList.typeIs,λa e=>?_⟩;cases e;obtain ⟨o,n,e,c,hd,_⟩:=pl;exact ⟨o,e,hd⟩
  ·refine ⟨⟨o,I.kIn p o hk,hc⟩,λa e=>?_⟩;cases e;exact ⟨o,I.kIn _ o hk,hd⟩
  ·obtain ⟨⟨_,on,en,dn⟩,_,_,o,e1,e2,_⟩:=(show fE X.prog X.w H s.heap p (.tup xs) from I.hok p _ hq);refine ⟨⟨o,e1,e2⟩,λa e=>?_⟩;cases e;exact ⟨on,en,dn⟩
  ·have z:∃o,s.heap.get? p=some o/\o.ExactDict:=by
    rcases hk with ⟨kvs,hk⟩ | ⟨kvs,hk⟩
    ·obtain ⟨_,_,_,_,o,_,_,e,ex,_⟩:=I.hok p _ hk;exact ⟨o,e,ex⟩
    ·obtain ⟨_,_,_,_,o,_,_,e,ex,_⟩:=I.hok p _ hk;exact ⟨o,e,ex⟩
   obtain ⟨o,e,ex⟩:=z;refine ⟨⟨o,e,ex.1⟩,λa e2=>?_⟩;cases e2;exact ⟨o,e,ex.2.1⟩
  ·obtain ⟨o,_,_,_,e,ex,_⟩:=I.hok p _ hk;refine ⟨⟨o,e,ex.1⟩,λa e2=>?_⟩;cases e2;exact ⟨o,e,ex.2.1⟩
 | _=>exact False.elim ty
def tBM(K:PySem.W.Frag)(T:String)(r:V->List V->Hp->VK->Prop)(to:TE)(t:TA):TE:=λσ H Q=>to σ H λx H1=>tyV K T x H1/\t σ H1 λxs H2=>r x xs H2 Q
variable{o e:Expr}{es:List Expr}{to:TE}{t:TA}{name:Str}{apos cpos:Pos}{T id:String}{r:V->List V->Hp->VK->Prop}
theorem aBV(pa:PlainAttrs T)(slot:Slot T name id)(hty:typeOf (.builtin id)=pure (.type "method_descriptor"))(hm:MtR X id r)(ho:PE X o to)(ha:PA X (e::es) t)
  (hbase:attributeBase o name X.env (eval o X.env)=eval o X.env:=by rfl)
  (hfew:((backTo cpos (starEach (e::es) X.env)).all (λx=>!x.1)&&(backToKw cpos (keywordEach [] X.env)).all (λx=>x.1.isSome)
   && decide ((e::es).length+([]:List Keyword).length+(if ([]:List Keyword).isEmpty then 0 else 1)<30))=true:=by rfl)
  (hline:(apos.endLine == cpos.line)=true:=by rfl) (hs:starEach (e::es) X.env=(false,eval e X.env)::starEach es X.env:=by rfl) (hplain:(backTo cpos (starEach es X.env)).any (·.1)=false:=by rfl) :
  PE X (.Call (.Attribute o name apos) (e::es) [] cpos) (tBM X.K T r to t):=by
 intro pins s σ H Q I h;refine wpAny_Call_method_late hbase hfew hline rfl (thn (ho pins s σ H _ I h) λv s1 ⟨x,H1,I1,r1,ty,q1⟩=>?_);obtain ⟨h1,h2⟩:=ZL I1 r1 ty;refine ⟨T,id,pa,slot,hty,h1,h2,?_⟩;have hA:=ha cpos pins s1 σ H1 _ I1 q1;rw [hs] at hA ⊢;refine Calls.callWith_builtin (by show (false || (backTo cpos (starEach es X.env)).any (·.1))=false;rw [hplain] <;> rfl) (Calls.evalArgs_plain ?_);exact thn hA λus s2 ⟨vs,H2,I2,r2,q2⟩=>hm pins s2 σ H2 x vs v us Q I2 r1 r2 q2
/- xs.append(e),list.index on a module's tuple .. are MtR facts of 06m -/
end
def MtM(X:Cx)(id:String)(r:V->List V->Hp->VK->Prop):Prop :=
 ∀(pins:List (Addr × Obj)) (s:Shared) (σ:St) (H:Hp) (x:V) (xs:List V) (v:Value) (us:List Value) (Q:VK),cF X pins σ H s->dJ x v->cZ xs us->r x xs H Q ->
  wpAny (model X.prog X.w) X.A (call (.builtin id) (v::us)) (EP X pins σ Q) X.xe s
theorem cZ.one:∀{x:V}{us:List Value},cZ [x] us->∃u,us=[u]/\dJ x u
 | _,_,.cons r .nil=>⟨_,rfl,r⟩
theorem zM(its:List Value):∀(k:Nat) (acc:List Value),
  List.foldl (λx1 x2=>x1++x2) acc.toArray (List.replicate k its.toArray)=(acc++(List.replicate k its).flatten).toArray
 | 0,acc=>by simp
 | k+1,acc=>by
  have e:acc.toArray++its.toArray=(acc++its).toArray:=by simp
  have e2:(acc++its)++(List.replicate k its).flatten=acc++(List.replicate (k+1) its).flatten:=by
   rw [List.replicate_succ,List.flatten_cons,List.append_assoc]
  rw [<-e2,<-zM its k (acc++its),<-e,List.replicate_succ,List.foldl_cons]
section
variable{X:Cx}{pins:List (Addr × Obj)}{σ:St}{H:Hp}{s:Shared}{l b:Addr}{xs ys zs:List V}
theorem cF.lset{its its':List Value}{n:Nat}{f:Array Value->Array Value}{t':Nat}(I:cF X pins σ H s)(hH:H l=some (.lst xs))
  (e:s.heap.get? l=some { cls:=.type "list",data:=.seq its.toArray n }) (hf:f its.toArray=its'.toArray) (hv:cZ ys its') (hz:ys.length<=sizeLine) :
  cF X pins σ (upd H l (.lst ys)) { s with heap:=s.heap.update l (Obj.mapSeq f),toks:=t' }:=by
 have q:=PySem.IsL.update e f;rw [hf] at q;refine I.write (x:=l) (e:=l) (by rw [hH];exact trivial) (.inl rfl) (λb' u hb hu=>(Heap.get?_update_other s.heap (Obj.mapSeq f) (Ne.symm hb)).trans hu) ⟨_,q⟩ ?_;exact ⟨hz,its',_,hv,q⟩
theorem cF.lnew{its:List Value}{t':Nat}(I:cF X pins σ H s)(hv:cZ ys its)(hz:ys.length<=sizeLine) :
  cF X pins σ (upd H s.heap.objs.size (.lst ys)) { s with heap:=s.heap.push { cls:=.type "list",data:=.seq its.toArray },toks:=t' } :=
 I.laid (λ_ _ q=>aC _ q) (aI _) ⟨hz,its,0,hv,bB _ rfl⟩
theorem cF.fresh(I:cF X pins σ H s):H s.heap.objs.size=none:=I.hok.fresh (aI _)
theorem cF.lstM(I:cF X pins σ H s)(hH:H l=some (.lst xs)):xs.length<=sizeLine/\∃(its:List Value) (n:Nat),cZ xs its/\xs.length=its.length/\s.heap.get? l=some { cls:=.type "list",data:=.seq its.toArray n }:=by
 obtain ⟨z,its,n,r,e⟩:=I.hok l _ hH;exact ⟨z,its,n,r,r.length,e⟩
theorem QA{n:Nat}(h:n<=sizeLine):Builtin.List.listTooLong n=false:=by
 unfold Builtin.List.listTooLong;exact cH Oo
end
section
variable{X:Cx}
def IU:V->List V->Hp->VK->Prop:=λx vs H Q=>∃l xs y,x=.ref l/\vs=[y]/\H l=some (.lst xs)/\xs.length<sizeLine/\Q .non (upd H l (.lst (xs++[y])))
theorem qT:MtM X "list.append" IU:=by
 intro pins s σ H x vs v us Q I rx rv h;obtain ⟨l,xs,y,rfl,rfl,hH,hz,q⟩:=h;cases rx;obtain ⟨u,rfl,ru⟩:=rv.one;obtain ⟨z,its,n,r,hl,e⟩:=I.lstM hH;refine call_meets F.slot_list_append ⟨_,e,rfl⟩ F.entry_list_append (F.args_list_append_2 _ _) (PySem.list_append l its.toArray n u (by rw [aS];omega)) ⟨e,?_⟩;refine ⟨.non,_,I.lset (its':=its++[u]) hH e (by simp) (r.append (.cons ru .nil)) ?_,rfl,q⟩;rw [bE,List.length_singleton];omega
def IS:V->List V->Hp->VK->Prop:=λx vs H Q=>∃l b xs zs,x=.ref l/\vs=[.ref b]/\H l=some (.lst xs)/\H b=some (.lst zs)/\xs.length+zs.length<=sizeLine/\Q .non (upd H l (.lst (xs++zs)))
theorem LL:MtM X "list.extend" IS:=by
 intro pins s σ H x vs v us Q I rx rv h;obtain ⟨l,b,xs,zs,rfl,rfl,hH,hB,hz,q⟩:=h;cases rx;obtain ⟨u,rfl,ru⟩:=rv.one;cases ru;obtain ⟨z,its,n,r,hl,e⟩:=I.lstM hH;obtain ⟨z2,its2,n2,r2,hl2,e2⟩:=I.lstM hB;have hsz:its.toArray.size+its2.toArray.size<=sizeLine:=by rw [aS,aS];omega
 have hlong:¬(!its.toArray.isEmpty&&Builtin.List.listTooLong (its.toArray.size+its2.toArray.size))=true:=by
  rw [QA hsz,Bool.and_false];exact bN
 refine call_meets F.slot_list_extend ⟨_,e,rfl⟩ F.entry_list_extend (F.args_list_extend_2 _ _)
  (AutoSeq1.list_extend_list_list_0 l its.toArray n b its2.toArray n2 hlong (by rw [aS];omega) Oo) ⟨e,e2,?_⟩
 refine ⟨.non,_,I.lset (its':=its++its2) hH e (by simp) (r.append r2) ?_,rfl,q⟩;rw [bE];omega
def aBO:R2:=λx y H Q=>∃l b xs zs,x=.ref l/\y=.ref b/\H l=some (.lst xs)/\H b=some (.lst zs)/\xs.length+zs.length<=sizeLine/\∀p,H p=none->Q (.ref p) (upd H p (.lst (xs++zs)))
theorem xD:tW X (binaryOp .Add) aBO:=by
 intro pins s σ H x y v u Q I rx ry h;obtain ⟨l,b,xs,zs,rfl,rfl,hH,hB,hz,q⟩:=h;cases rx;cases ry;obtain ⟨z,its,n,r,hl,e⟩:=I.lstM hH;obtain ⟨z2,its2,n2,r2,hl2,e2⟩:=I.lstM hB;refine PySem.P.add_list e e2 ?_ (by rw [aS,aS];omega);have ea:its.toArray++its2.toArray=(its++its2).toArray:=by simp
 rw [ea];exact ⟨.ref _,_,I.lnew (t':=s.toks) (r.append r2) (by rw [bE];omega),rfl,q _ I.fresh⟩
end
section
variable{prog:Program}{w:World}{A:Around}{E:Value->Shared->Prop}{s:Shared}
end
section
variable{X:Cx}
end
end L2
namespace Att
open PySem PySem.W PySem.Calls PyProof.Rows
theorem vQ{P:Params}{h:Heap}:∀(ns:List Int) (vs:List Value),WellAll P h vs (ns.map WData.int)->IntsAre vs ns:=by
 intro ns
 induction ns with
 | nil =>
  intro vs w;rw [List.map_nil] at w;cases w;exact .nil
 | cons n ns ih =>
  intro vs w;rw [bH] at w;cases w with
  | cons a b =>
   cases a;exact .cons _ _ (ih _ b)
theorem KR{l:OpenLaw}{n:Nat}(hn:l.most=some n){P:Params}{h:Heap}{args:List WData}{vals:List Value}
  (hpre:l.row.toRowW.claim.pre args=true) (hwl:WellAll P h vals args) :
  ∃a vs ns,vals=[Value.ref a]/\args=[WData.list (ns.map WData.int)]/\h.get? a=some { cls:=.type "list",data:=.seq vs.toArray }/\IntsAre vs ns/\ns.length<=n:=by
 have hsh:WShape.hasAll [] args [.list .int]=true:=(pre_splitW hpre).1;have hc:l.pre.holds [] { args:=args }=true:=(pre_splitW hpre).2;obtain ⟨d,r,rfl,h1,h2⟩:=hasAllW_cons hsh;obtain rfl:=hasAllW_nil h2;obtain ⟨xs,rfl,h3⟩:=hasW_list h1;obtain ⟨ns,rfl⟩:=items_int h3;have hlen:ns.length<=n:=by
  unfold OpenLaw.pre at hc;have h4:(WTm.not (.lt (.lit (.int (n:Int))) (.len (.arg 0)))).holds [] { args:=[.list (ns.map .int)] }=true:=by
   have h4:=(holds_andW hc).1;rw [hn] at h4;exact h4
  have h5:=condW_of h4 (w_not (w_lt w_lit (w_len_list (w_arg rfl))));rw [aA] at h5;refine Nat.le_of_not_lt λq=>?_;have q':(n:Int)<((ns.length:Nat):Int):=Oo
  first
   | (rw [cO q'] at h5;exact absurd h5 Dd)
   | (simp at h5;omega)
 cases hwl with
 | cons w1 w2 =>
  cases w2;cases w1 with
  | list ho hall=>exact ⟨_,_,ns,rfl,rfl,ho,vQ ns _ hall,hlen⟩
theorem LG(l:OpenLaw)(args:List WData):l.row.toRowW.claim.post args (.bool true) args=true :=
 postW_of (r:=l.row.toRowW) (X:=(true == true))
  (show WShape.has [] (.bool true) .bool=true by first | rfl | decide | simp [WShape.has,WShape.arms,WShape.armsAll])
  (show (WTm.eq .res (.lit (.bool true))).value [] { args:=args,res:=some (.bool true),after:=args }=some (.bool (true == true)) from w_eq_bool (w_res rfl) w_lit) rfl
theorem FJ{l:OpenLaw}{n:Nat}{q:Program}{loose:List Str}{XP:(Str->Option Value)->Heap->Prop}{YP:World->Heap->Prop}{d:DefRec}
  (hn:l.most=some n) (hdf:d.params.defaults=[])
  (call:∀(w:World) (s₀ s₁:Shared) (mg mb:Str->Option Value) (fa:Addr) (o:Obj) (pm cd doc:Value) (a:Addr) (vs:List Value) (ns:List Int),
   Ground q loose [] XP w s₀ mg mb s₁.heap->YP w s₁.heap ->
   s₁.heap.get? fa=some o->o.data=.func (docDef d.name d.params d.body d.scope pm cd doc)->s₁.heap.CodeRec cd d.name->mg d.name=some (.ref fa) ->
   s₁.heap.get? a=some { cls:=.type "list",data:=.seq vs.toArray }->IntsAre vs ns->ns.length<=n->s₁.gens=#[] ->
   codeAny (model l.prog w) callerA (.call (.ref fa) ⟨[.ref a],[]⟩) (λr s'=>r=.ok (.ret (.bool true))/\OldK s₁.heap s'.heap/\s'.os=s₁.os/\AllBare s'.gens) s₁) :
  WalkO q loose XP YP l.row.toRowW d [] (λf vs=>PySem.call f vs):=by
 intro w s₀ s₁ mg mb G Y fa o pm cd doc dV kV ho hd hcd hD hmg hg args vals as hpre hlay hrd hwl hlo;obtain rfl:dV=.none:=Dflts.none hD hdf;obtain rfl:kV=.none:=Dflts.noKw hD;obtain ⟨a,vs,ns,rfl,rfl,hobj,hints,hlen⟩:=KR hn hpre hwl;refine enter_call (codeAny_mono (call w s₀ s₁ mg mb fa o pm cd doc a vs ns G Y ho (fd_plain hd) hcd hmg hobj hints hlen hg) λr s' hq=>?_);obtain ⟨rfl,h2,h3,h4⟩:=hq;exact ⟨.inl ⟨.bool true,.bool true,[],rfl,λ_=>rfl,.bool true,LG l _,λ_=>⟨List.Pairwise.nil,λ_ hm=>(nomatch hm)⟩⟩,h2,h3,h4⟩
section
variable{prog:Program}{w:World}{A:Around}{E:Value->Shared->Prop}{s:Shared}{K:Frag}
end
end Att
namespace L2
open PySem PySem.Spec PyProof.Rows
theorem yQ:∀{vs:List Value}{ns:List Int},IntsAre vs ns->cZ (ns.map V.int) vs
 | _,_,.nil=>.nil
 | _,_,.cons n t h=>.cons ⟨t,rfl⟩ (yQ h)
def XX(H:Hp):Prop:=∀b,H b=none\/∃o xs,H b=some (.frz o (.lst xs))
theorem QG{P:Program}{w:World}{K:PySem.W.Frag}{mg mb:Str->Option Value}{CX:MO}{k:Nat}{fa a:Addr}{fd:FuncData}{x:Str}{sp:Sp}{s₁:Shared}{vs:List Value}{ns:List Int}
  (KX:K.In s₁.heap) (hns:s₁.heap.Ns mainGlobals mg) (hb:s₁.heap.Ns builtinsNs mb) (hbb:∀x:Str,x ≠ "__name__" -> mb x=bootBuiltins x) (hlim:s₁.heap.NoLimit) (hg:s₁.gens=#[])
  (ha:s₁.heap.get? a=some { cls:=.type "list",data:=.seq vs.toArray }) (hi:IntsAre vs ns) (hl:ns.length<=sizeLine) (hr:iH k callerA)
  (F:∀base:Heap,K.In base->base.Ns mainGlobals mg->dY P w K mg base CX k fa fd [x] sp) (hbind:∀(s:Shared) (u:Value),BindsTo s fd ⟨[u],[]⟩ [(x,u)])
  (hsp:∀H:Hp,XX H->fN K H a (ns.map V.int)->sp [.ref a] H (λv _=>v=.bl true) λ_ _ _=>False)
  (hCX:∀H e s',CX [] H s₁ (λ_ _ _=>False) e s'->False) :
  codeAny (model P w) callerA (.call (.ref fa) ⟨[.ref a],[]⟩) (λr s'=>r=.ok (.ret (.bool true))/\OldK s₁.heap s'.heap/\s'.os=s₁.os/\AllBare s'.gens) s₁:=by
 have rv:=yQ hi;have lenV:=hi.length;have core:∀H:Hp,XX H->fN K H a (ns.map V.int)->pF P w H s₁.heap->(∀b,H b≠none->b=a)->(H a≠none->K.lookup a=none) ->
   codeAny (model P w) callerA (.call (.ref fa) ⟨[.ref a],[]⟩) (λr s'=>r=.ok (.ret (.bool true))/\OldK s₁.heap s'.heap/\s'.os=s₁.os/\AllBare s'.gens) s₁:=by
  intro H hO hS hok hA hK;have base_of:∀{b:Addr} {o:Obj},s₁.heap.get? b=some o->H b=none->(BT s₁.heap H).get? b=some o:=λe n=>QN e n;have noA:∀{b:Addr} {o:Obj} {es:Array DictEntry} {ep:Nat},s₁.heap.get? b=some o->o.data=.dict es ep->H b=none:=λ{b o es ep} e d=>by
   cases q:H b with
   | none=>rfl
   | some u =>
    have e':b=a:=hA b (by rw [q];simp);subst e';rw [ha] at e;cases e;have d':Data.seq vs.toArray _=Data.dict es ep:=d;cases d'
  have nsK:∀{b:Addr} {m:Str->Option Value},s₁.heap.Ns b m->(BT s₁.heap H).Ns b m:=λ{b m} ⟨o,es,ep,e,d,r⟩=>⟨o,es,ep,base_of e (noA e d),d,r⟩;have hKb:K.In (BT s₁.heap H):=λb o e=>base_of (KX b o e) (by
   cases q:H b with
   | none=>rfl
   | some u =>
    have e':b=a:=hA b (by rw [q];simp);subst e';rw [hK (by rw [q];simp)] at e;cases e)
  have hM:Mod K mg (BT s₁.heap H):=⟨hKb,nsK hns,⟨mb,nsK hb,hbb⟩,let ⟨mc,h1,h2⟩:=hlim;⟨mc,nsK h1,h2⟩⟩;have e0:yN P w K mg (BT s₁.heap H) callerA [] s₁ H:=⟨rfl,hM,λb o e=>WG e,Nat.le_of_eq (LU _ _),trivial,λb hb=>absurd (show b∈([]:List Addr) from hb) (by simp),hok,.of_eq hg⟩;refine codeAny_mono ((F _ hKb (nsK hns)).run callerA [] s₁ H ⟨[.ref a],[]⟩ [.ref a] [.ref a] _ _ hr e0 (hbind s₁ (.ref a)) (.cons rfl .nil) (hsp H hO hS)) λr s' h=>?_;cases r with
  | error e=>exact (hCX H e s' h).elim
  | ok fl =>
   cases fl with
   | next=>exact False.elim h
   | brk=>exact False.elim h
   | cont=>exact False.elim h
   | ret u =>
    obtain ⟨v,H',os,bare,un,hok',r',q⟩:=h;have q':v=.bl true:=q;subst q';obtain rfl:u=Value.bool true:=r';refine ⟨rfl,OldK.of_keep λb o e=>?_,os,bare⟩;cases q:H b with
    | none=>exact un.keep b o e q (by intro z;exact absurd (show b∈([]:List Addr) from z) (by simp)) (by simp)
    | some u =>
     rcases hO b with z | ⟨ob,xs,z⟩
     ·rw [q] at z;cases z
     ·have z2:=un.frzs b ob _ z;obtain ⟨e1,_⟩:=hok b _ z;obtain ⟨e2,_⟩:=hok' b _ z2;rw [e] at e1;cases e1;exact e2
 cases hk:K.lookup a with
 | some o =>
  have e:=KX a o hk;rw [ha] at e;cases e;refine core (λ_=>none) (λ_=>.inl rfl) (.inr ⟨_,vs.toArray,_,hk,rfl,rfl,rfl,by rw [aS,lenV];exact hl,by simpa using rv⟩) (λb u z=>by have z':(none:Option HO)=some u:=z;cases z') (λb z=>absurd rfl z) λz=>absurd rfl z
 | none =>
  refine core (λb=>if b=a then some (.frz { cls:=.type "list",data:=.seq vs.toArray } (.lst (ns.map V.int))) else none) (λb=>?_) (.inl (.inr ⟨{ cls:=.type "list",data:=.seq vs.toArray },if_pos rfl⟩)) (λb u z=>?_) (λb z=>?_) λ_=>hk
  ·by_cases hb:b=a
   ·exact .inr ⟨_,_,if_pos hb⟩
   ·exact .inl (if_neg hb)
  ·by_cases hb:b=a
   ·have z':=(if_pos hb).symm.trans z;cases z';subst hb;exact ⟨ha,by rw [aA];exact hl,vs,_,rv,ha⟩
   ·have z':=(if_neg hb).symm.trans z;cases z'
  ·by_cases hb:b=a
   ·exact hb
   ·exact absurd (if_neg hb) z
theorem IB{l:PySem.W.OpenLaw}{n k:Nat}{q:Program}{loose:List Str}{XP:(Str->Option Value)->Heap->Prop}{YP:World->Heap->Prop}{d:DefRec}{K:Params->PySem.W.Frag}{CX:World->MO}{sp:World->Sp}{x:Str}
  (hn:l.most=some n) (hn2:n<=sizeLine) (hdf:d.params.defaults=[]) (hr:iH k callerA)
  (hY:∀(w:World) (h:Heap),YP w h->(K w.params).In h)
  (F:∀(w:World) (mg:Str->Option Value) (fa:Addr) (h:Heap),(K w.params).In h->h.Ns mainGlobals mg->mg d.name=some (.ref fa) ->
   ∃fd:FuncData,(∀(s:Shared) (u:Value),BindsTo s fd ⟨[u],[]⟩ [(x,u)]) /\
    ∀base:Heap,(K w.params).In base->base.Ns mainGlobals mg->dY l.prog w (K w.params) mg base (CX w) k fa fd [x] (sp w))
  (hsp:∀(w:World) (H:Hp) (a:Addr) (ns:List Int),ns.length<=n->XX H->fN (K w.params) H a (ns.map V.int)->sp w [.ref a] H (λv _=>v=.bl true) λ_ _ _=>False)
  (hCX:∀(w:World) (H:Hp) (s:Shared) (e:Value) (s':Shared),CX w [] H s (λ_ _ _=>False) e s'->False) :
  PySem.W.WalkO q loose XP YP l.row.toRowW d [] (λf vs=>PySem.call f vs):=by
 refine Att.FJ hn hdf λw s₀ s₁ mg mb fa o pm cd doc a vs ns G Y ho hd hcd hmg hobj hints hlen hg=>?_;have KX:=hY w _ Y;obtain ⟨fd,hb,hF⟩:=F w mg fa _ KX G.T.g hmg;exact QG KX G.T.g G.T.b G.T.builtins G.T.nolimit hg hobj hints (aK hlen hn2) hr hF hb (λH hO hS=>hsp w H a ns hlen hO hS) λH e s'=>hCX w H s₁ e s'
theorem NF{l:PySem.W.OpenLaw}{n k:Nat}{q:Program}{loose:List Str}{XP:(Str->Option Value)->Heap->Prop}{YP:World->Heap->Prop}{d:DefRec}{K:Params->PySem.W.Frag}{CX:MO}{sp:PySem.W.Frag->Sp}{x:Str}
  (hn:l.most=some n) (hn2:n<=sizeLine) (hdf:d.params.defaults=[]) (hr:iH k callerA)
  (hY:∀(w:World) (h:Heap),YP w h->(K w.params).In h)
  (F:∀(w:World) (mg:Str->Option Value) (fa:Addr) (h:Heap),(K w.params).In h->h.Ns mainGlobals mg->mg d.name=some (.ref fa) ->
   ∃fd:FuncData,(∀(s:Shared) (u:Value),BindsTo s fd ⟨[u],[]⟩ [(x,u)]) /\
    ∀base:Heap,(K w.params).In base->base.Ns mainGlobals mg->dY l.prog w (K w.params) mg base CX k fa fd [x] (sp (K w.params)))
  (hsp:∀(K:PySem.W.Frag) (H:Hp) (a:Addr) (ns:List Int),ns.length<=n->XX H->fN K H a (ns.map V.int)->sp K [.ref a] H (λv _=>v=.bl true) λ_ _ _=>False)
  (hCX:∀(H:Hp) (s:Shared) (e:Value) (s':Shared),CX [] H s (λ_ _ _=>False) e s'->False) :
  PySem.W.WalkO q loose XP YP l.row.toRowW d [] (λf vs=>PySem.call f vs) :=
 IB (K:=K) (CX:=λ_=>CX) (sp:=λw=>sp (K w.params)) hn hn2 hdf hr hY F (λw H a ns h1 h2 h3=>hsp (K w.params) H a ns h1 h2 h3) λ_ H s e s'=>hCX H s e s'
end L2
/- THE LAST THEOREM (shape;LID,My.* are yours):
   My.Adr: a structure of the addresses that your layer names (classes,functions);My.Txt K t: a structure (Prop) of the equations over K;
   My.txt_mk:{K} {implicit addresses ..} (e1:nsIn K mainGlobals "law" = some (some (.ref f))) (e2:K.lookup f=some ⟨oc,od,.func (fnOf "law" "law" params body scope dV kV doc pm an cdv ct),sl⟩) (e3:codeIn K cdv "law" = true) .. : ∃t,My.Txt K t
set_option maxRecDepth 100000 in
set_option maxHeartbeats 0 in
theorem PySem.Challenge.cw_LID_holds : PySem.Challenge.rw_LID.Holds := by
  w_on;o_law;k_head;(case hw=>w_witness2)
  k_fill
  refine L2.IB (l:=PySem.Challenge.rw_LID) (n:=63) (k:=40) (x := "script") (CX:=λw=>..) (sp:=λ_=>My.sp_law) rfl Dd rfl ⟨rfl,Dd,Dd⟩ (λw h Y=>PySem.W.kIn_of Y) ?F ?S ?C
  case F =>
    intro w mg fa h KX G hmg;have T:∃t,My.Txt (L2.KOf KX) t:=by
      dsimp only [L2.KOf]                          -- K must stand as «<heap const> w.params» for k_is
      refine' My.txt_mk ?e1 ?e2 ?e3 ..
      (case e1=>PySem.W.k_is)                    -- in the order: a name -> its address -> its object -> its parts
      (case e2=>PySem.W.k_is)
      ..
    obtain ⟨t,T⟩:=T;have e0:=hmg.symm.trans (PySem.W.mg_of KX G T.law);cases e0                                       -- fa is the law's own address;exact ⟨_,λs u=>.of_eq rfl,λbase kb nb=>My.law_fn T kb nb⟩     -- if «.of_eq rfl» comes too early: refine' ⟨_,?b,λbase kb nb=>My.law_fn T kb nb⟩;exact λs u=>.of_eq rfl
  case S=>exact λw H a ns hl hO hS=>..
  case C=>exact ..
(the tactic k_is has no namespace: write k_is) -/
namespace L2
open PySem PySem.Spec PyProof.Rows
def WR(s:Stmt)(j:Nat):Stmt:=match s with
 | .ClassDef _ _ _ body _ _ _ _ _ _ _=>body.getD j (.Pass ⟨0,0,0,0⟩)
 | _=>.Pass ⟨0,0,0,0⟩
def tL(s:Stmt):Arguments:=match s with
 | .FunctionDef _ a _ _ _ _ _ _ _ _=>a
 | _=>{ posonlyargs:=[],args:=[],vararg:=none,kwonlyargs:=[],kw_defaults:=[],kwarg:=none,defaults:=[] }
def nH(s:Stmt):List Stmt:=match s with
 | .FunctionDef _ _ b _ _ _ _ _ _ _=>b
 | _=>[]
def aX(s:Stmt):Scope:=match s with
 | .FunctionDef _ _ _ _ _ _ sc _ _ _=>sc
 | _=>{ kind:=.function,names:=[],isGenerator:=false,isCoroutine:=false }
abbrev dP:MO:=λ_ _ _ _ _ _=>False
abbrev E0:XK:=λ_ _ _=>False
theorem YQ{X:Cx}:yA dP X E0:=λ_ _ _ _ _ _ _ h=>h.elim
structure jT(K:PySem.W.Frag)(x qual:Str)(st:Stmt)(f:Addr)(fd:FuncData):Prop where
 ex:∃(oc:Value) (od:Option Addr) (kV doc pm:Value) (an:Option Addr) (cdv ct:Value) (osl:Array (Option Value)),
  fd=PySem.W.fnOf x qual (tL st) (nH st) (aX st) .none kV doc pm an cdv ct/\K.lookup f=some ⟨oc,od,.func fd,osl⟩/\PySem.W.codeIn K cdv qual=true
 kp:PySem.W.keepIn K (.ref f)=true
section
variable{P:Program}{w:World}{K:PySem.W.Frag}{mg:Str->Option Value}{base:Heap}
theorem jT.ok{x qual:Str}{st:Stmt}{f:Addr}{fd:FuncData}{N ps:List Str}{k:Nat}{sp:Sp}(F:jT K x qual st f fd)(S:cA N ps (aX st))(len:∀vs H Q E,sp vs H Q E->vs.length=ps.length)
  (hbody:∀(cdv:Value) (A:Around) (outer:List Env) (s:Shared) (H:Hp) (vs:List V) (Q:VK) (E:XK),iH k (A.deeper (envOfC qual (aX st) s.heap.objs.size f cdv))->sp vs H Q E ->
   ∃t,HQ (EU dP P w K mg base N qual (aX st) f cdv A outer s H E).nox (nH st) t/\t { nx:=λ_ H'=>Q .non H',rt:=Q } (start N vs) H):dY P w K mg base dP (k+1) f fd ps sp:=by
 obtain ⟨oc,od,kV,doc,pm,an,cdv,ct,osl,rfl,lk,hcd⟩:=F.ex;refine aB8 lk hcd S len λA outer s H vs Q E hr hsp=>?_;obtain ⟨t,h,q⟩:=hbody cdv A outer s H vs Q E hr hsp;exact ⟨t,h.nox,q⟩
theorem jT.binds{x qual:Str}{st:Stmt}{f:Addr}{fd:FuncData}{ps:List Str}(F:jT K x qual st f fd)
  (h:∀(kV doc pm:Value) (an:Option Addr) (cdv ct:Value) (us:List Value),us.length=ps.length->bindArgs (PySem.W.fnOf x qual (tL st) (nH st) (aX st) .none kV doc pm an cdv ct) ⟨us,[]⟩=pure (ps.zip us)):pD K fd ps []:=by
 obtain ⟨oc,od,kV,doc,pm,an,cdv,ct,osl,rfl,lk,hcd⟩:=F.ex;exact .all (h kV doc pm an cdv ct)
theorem cS{x qual:Str}{st:Stmt}{f:Addr}{oc:Value}{od an:Option Addr}{osl:Array (Option Value)}{kV doc pm cdv ct:Value}(l:K.lookup f=some ⟨oc,od,.func (PySem.W.fnOf x qual (tL st) (nH st) (aX st) .none kV doc pm an cdv ct),osl⟩)
  (c:PySem.W.codeIn K cdv qual=true) (k:PySem.W.keepIn K (.ref f)=true):jT K x qual st f (PySem.W.fnOf x qual (tL st) (nH st) (aX st) .none kV doc pm an cdv ct):=⟨⟨oc,od,kV,doc,pm,an,cdv,ct,osl,rfl,l,c⟩,k⟩
end
theorem uF{n:Nat}(h:n<=1000):n<sizeLine:=bA h Dd
section
variable{X:Cx}
theorem pv(i:Nat){x:Str}{pos:Pos}(hN:X.N[i]?=some x:=by rfl)(hv:Vis X.env.scope x:=by first | exact Or.inl rfl | exact Or.inr (Or.inl rfl) | exact Or.inr (Or.inr rfl))(hd:(x == ("__debug__" : Str))=false:=by decide)
  (hcd:(x == ("__classdict__" : Str))=false:=by decide):PE X (.Name x pos) (ZN i):=aAq hN hv hd hcd
end
theorem HE{A B:Prop}(h:B):if false=true then A else B:=by
 rw [if_neg bN];exact h
theorem LP{A B:Prop}(h:A):if true=true then A else B:=by
 rw [if_pos rfl];exact h
theorem aB4{c A B:Prop}[Decidable c](h1:c->A)(h2:¬c->B):if c then A else B:=by
 by_cases h:c
 ·rw [if_pos h];exact h1 h
 ·rw [if_neg h];exact h2 h
def aY(H H':Hp):Prop:=∀b o,H b=some o->H' b=some o
theorem aY.refl(H:Hp):aY H H:=λ_ _ h=>h
theorem aY.trans{H H1 H2:Hp}(a:aY H H1)(b:aY H1 H2):aY H H2:=λc o h=>b c o (a c o h)
theorem aY.free{H H':Hp}(e:aY H H'){l:Addr}(h:H' l=Option.none):H l=Option.none:=by
 cases q:H l with
 | none=>rfl
 | some o =>
  rw [e l o q] at h;cases h
section
variable{κ:Type}[DecidableEq κ]
def fM(kvs:List (κ × V))(k:κ):Option V:=(kvs.find? λkv=>decide (kv.1=k)).map (·.2)
def iR(kvs:List (κ × V))(k:κ)(v:V):List (κ × V) :=
 if (kvs.any λkv=>decide (kv.1=k))=true then kvs.map (λkv=>if kv.1=k then (kv.1,v) else kv) else kvs++[(k,v)]
theorem iJ{p:κ × V}{r:List (κ × V)}{k:κ}(e:p.1=k):fM (p::r) k=some p.2:=by simp [fM,List.find?_cons,e]
theorem iK{p:κ × V}{r:List (κ × V)}{k:κ}(e:¬p.1=k):fM (p::r) k=fM r k:=by simp [fM,List.find?_cons,e]
theorem kU(k:κ):∀kvs:List (κ × V),(kvs.any λkv=>decide (kv.1=k))=(fM kvs k).isSome
 | []=>rfl
 | p::r=>by
  rw [List.any_cons];by_cases e:p.1=k
  ·simp only [iJ e,cO e,Bool.true_or,Option.isSome_some]
  ·rw [iK e,cH e,Bool.false_or];exact kU k r
theorem CY(k j:κ)(y:V):∀kvs:List (κ × V),fM (kvs.map λkv=>if kv.1=k then (kv.1,y) else kv) j=(fM kvs j).map λx=>if j=k then y else x
 | []=>rfl
 | p::r=>by
  have ih:=CY k j y r;rw [bH];by_cases h:p.1=k
  ·rw [if_pos h];by_cases e:p.1=j
   ·rw [iJ (p:=(p.1,y)) e,iJ e,Option.map_some,if_pos (e.symm.trans h)]
   ·rw [iK (p:=(p.1,y)) e,iK e,ih]
  ·rw [if_neg h];by_cases e:p.1=j
   ·rw [iJ (p:=p) e,iJ e,Option.map_some,if_neg (λz=>h (e.trans z))]
   ·rw [iK (p:=p) e,iK e,ih]
theorem yR(k j:κ)(y:V):∀kvs:List (κ × V),fM kvs k=none->fM (kvs++[(k,y)]) j=if j=k then some y else fM kvs j
 | [],_=>by
  by_cases e:k=j
  ·rw [if_pos e.symm];exact iJ (p:=(k,y)) e
  ·rw [if_neg (λz=>e z.symm)];exact iK (p:=(k,y)) e
 | p::r,hn=>by
  rw [List.cons_append];have hk:¬p.1=k:=λz=>by rw [iJ z] at hn;cases hn
  rw [iK hk] at hn;have ih:=yR k j y r hn;by_cases e:p.1=j
  ·rw [iJ e,iJ e,if_neg (λz=>hk (e.trans z))]
  ·rw [iK e,iK e,ih]
theorem hZ(kvs:List (κ × V))(k j:κ)(y:V):fM (iR kvs k y) j=if j=k then some y else fM kvs j:=by
 unfold iR;by_cases a:(kvs.any λkv=>decide (kv.1=k))=true
 ·rw [if_pos a,CY];rw [kU] at a;by_cases e:j=k
  ·obtain ⟨x,hx⟩:=Option.isSome_iff_exists.mp a;rw [if_pos e,e,hx,Option.map_some,if_pos rfl]
  ·rw [if_neg e];cases fM kvs j with
   | none=>rfl
   | some x=>rw [Option.map_some,if_neg e]
 ·rw [if_neg a];refine yR k j y kvs ?_;rw [kU] at a;cases q:fM kvs k with
  | none=>rfl
  | some x=>rw [q] at a;exact (a rfl).elim
theorem eX(kvs:List (κ × V))(k:κ)(v:V):(iR kvs k v).length<=kvs.length+1:=by
 unfold iR;split
 ·rw [aA];omega
 ·rw [bE,bU,List.length_nil];omega
theorem OY{kvs:List (κ × V)}{k:κ}(v:V)(h:fM kvs k=none):iR kvs k v=kvs++[(k,v)]:=by
 unfold iR;rw [kU,h];exact if_neg Dd
theorem rW.isSome_eq{o:Option V}{u:Option Value}(r:rW o u):o.isSome=u.isSome:=by
 cases o with
 | none=>cases u with
  | none=>rfl
  | some _=>exact (show False from r).elim
 | some _=>cases u with
  | none=>exact (show False from r).elim
  | some _=>rfl
theorem rW.getD{o:Option V}{u:Option Value}{d:V}{d':Value}(r:rW o u)(rd:dJ d d'):dJ (o.getD d) (u.getD d'):=by
 cases o with
 | none=>cases u with
  | none=>exact rd
  | some _=>exact (show False from r).elim
 | some _=>cases u with
  | none=>exact (show False from r).elim
  | some _=>exact r
theorem KV.val{kvs:List (κ × V)}{vs:List (κ × Value)}(r:KV kvs vs)(k:κ):rW (fM kvs k) (valueAt vs k):=by
 unfold KV at r
 induction r with
 | nil=>exact True.intro
 | @cons p q ps qs h t ih =>
  obtain ⟨h1,h2⟩:=h;by_cases e:p.1=k
  ·have e':q.1=k:=h1.symm.trans e;have b:valueAt (q::qs) k=some q.2:=by simp [valueAt,List.find?_cons,e']
   rw [iJ e,b];exact h2
  ·have e':¬q.1=k:=λz=>e (h1.trans z);have b:valueAt (q::qs) k=valueAt qs k:=by simp [valueAt,List.find?_cons,e']
   rw [iK e,b];exact ih
theorem KV.any{kvs:List (κ × V)}{vs:List (κ × Value)}(r:KV kvs vs)(k:κ):(kvs.any λkv=>decide (kv.1=k))=vs.any λkv=>decide (kv.1=k):=by
 unfold KV at r
 induction r with
 | nil=>rfl
 | cons h t ih=>rw [List.any_cons,List.any_cons,ih,h.1]
theorem KV.repl{kvs:List (κ × V)}{vs:List (κ × Value)}(r:KV kvs vs)(k:κ){y:V}{u:Value}(ry:dJ y u) :
  KV (kvs.map λkv=>if kv.1=k then (kv.1,y) else kv) (vs.map λkv=>if kv.1=k then (kv.1,u) else kv):=by
 unfold KV at r ⊢
 induction r with
 | nil=>exact .nil
 | @cons p q ps qs h t ih =>
  rw [bH,bH];refine .cons ?_ ih;obtain ⟨h1,h2⟩:=h;by_cases e:p.1=k
  ·rw [if_pos e,if_pos (h1.symm.trans e)];exact ⟨h1,ry⟩
  ·rw [if_neg e,if_neg (λz=>e (h1.trans z))];exact ⟨h1,h2⟩
theorem KV.put{kvs:List (κ × V)}{vs:List (κ × Value)}(r:KV kvs vs)(k:κ){y:V}{u:Value}(ry:dJ y u):KV (iR kvs k y) (stored vs k u):=by
 unfold iR stored;rw [r.any k];by_cases e:(vs.any λkv=>decide (kv.1=k))=true
 ·rw [if_pos e,if_pos e];exact r.repl k ry
 ·rw [if_neg e,if_neg e];exact Paired.snoc r ⟨rfl,ry⟩
theorem KV.length{kvs:List (κ × V)}{vs:List (κ × Value)}(r:KV kvs vs):kvs.length=vs.length:=Paired.length r
end
theorem zJ{P:Program}{w:World}{k:eZ}{u:Value}(r:dJ (kV k) u):(fS P w).is k u=true:=by
 cases k with
 | inl i=>obtain ⟨t,e⟩:=(show ∃t,u=Value.int i t from r);subst e;exact EC P w i t
 | inr x=>obtain ⟨t,e⟩:=(show ∃t,u=Value.str x t from r);subst e;exact EB P w x t
theorem zK{P:Program}{w:World}:∀{ks:List eZ}{us:List Value},cZ (ks.map kV) us->ItemsAre (fS P w) ks us
 | [],_,r=>by rw [List.map_nil] at r;cases r;exact .nil
 | k::ks,_,r=>by
  rw [bH] at r;cases r with
  | cons h t=>exact .cons (zJ h) (zK t)
abbrev KT(H:Hp):List (List eZ × V)->List (List eZ × Addr × Value)->Prop:=Paired λp q=>p.1=q.1/\H q.2.1=some (.tup (p.1.map kV))/\dJ p.2 q.2.2
theorem KT.val{H:Hp}{kvs:List (List eZ × V)}{xs:List (List eZ × Addr × Value)}(r:KT H kvs xs)(k:List eZ):rW (fM kvs k) ((atKey xs k).map (·.2)):=by
 induction r with
 | nil=>exact True.intro
 | @cons p q ps qs h t ih =>
  obtain ⟨h1,_,h2⟩:=h;by_cases e:p.1=k
  ·have e':q.1=k:=h1.symm.trans e;have b:atKey (q::qs) k=some q.2:=by simp [atKey,List.find?_cons,e']
   rw [iJ e,b];exact h2
  ·have e':¬q.1=k:=λz=>e (h1.trans z);have b:atKey (q::qs) k=atKey qs k:=by simp [atKey,List.find?_cons,e']
   rw [iK e,b];exact ih
theorem KT.repl{H:Hp}{kvs:List (List eZ × V)}{xs:List (List eZ × Addr × Value)}(r:KT H kvs xs)(k:List eZ){y:V}{u:Value}(ry:dJ y u) :
  KT H (kvs.map λkv=>if kv.1=k then (kv.1,y) else kv) (xs.map (putAt k u)):=by
 induction r with
 | nil=>exact .nil
 | @cons p q ps qs h t ih =>
  rw [bH,bH];refine .cons ?_ ih;obtain ⟨h1,h2,h3⟩:=h;unfold putAt;by_cases e:p.1=k
  ·rw [if_pos e,if_pos (h1.symm.trans e)];exact ⟨h1,h2,ry⟩
  ·rw [if_neg e,if_neg (λz=>e (h1.trans z))];exact ⟨h1,h2,h3⟩
theorem KT.put{H:Hp}{kvs:List (List eZ × V)}{xs:List (List eZ × Addr × Value)}(r:KT H kvs xs)(k:List eZ){b:Addr}{y:V}{u:Value}(hb:H b=some (.tup (k.map kV)))(ry:dJ y u) :
  KT H (iR kvs k y) (storedH xs k b u):=by
 have e:(kvs.any λkv=>decide (kv.1=k))=(atKey xs k).isSome:=by
  rw [kU,(r.val k).isSome_eq,Option.isSome_map]
 unfold iR storedH;rw [e];by_cases q:(atKey xs k).isSome=true
 ·rw [if_pos q,if_pos q];exact r.repl k ry
 ·rw [if_neg q,if_neg q];exact Paired.snoc r ⟨rfl,hb,ry⟩
theorem KT.keeps{H H':Hp}{kvs:List (List eZ × V)}{xs:List (List eZ × Addr × Value)}(r:KT H kvs xs)(ht:∀b ys,H b=some (.tup ys)->H' b=some (.tup ys)):KT H' kvs xs :=
 Paired.mapP r λ_ _ z=>⟨z.1,ht _ _ z.2.1,z.2.2⟩
section
variable{P:Program}{w:World}{H:Hp}{h:Heap}{a:Addr}
theorem YO{u:HO}(ok:pF P w H h)(e:Rd H a u):fE P w H h a u:=e.ok ok
theorem zP{kvs:List (eZ × V)}(ok:pF P w H h)(e:Rd H a (.dK kvs)):kvs.length<=sizeLine/\(a == sysModules)=false/\∃vs,KV kvs vs/\h.DictOf (fS P w) a vs :=
 show fE P w H h a (.dK kvs) from YO ok e
theorem YY{kvs:List (eZ × V)}(ok:pF P w H h)(e:H a=some (.dK kvs)):kvs.length<=sizeLine/\(a == sysModules)=false/\∃vs,KV kvs vs/\h.DictOf (fS P w) a vs:=zP ok (.inl e)
theorem uP{ks:List eZ}(ok:pF P w H h)(e:H a=some (.tup (ks.map kV))):(tupleKind (fS P w)).is h ks a:=by
 obtain ⟨_,its,r,o,h1,h2,n,h3⟩:=(show fE P w H h a (.tup (ks.map kV)) from ok a _ e);exact ⟨o,its.toArray,n,h1,h2,h3,by simpa using zK r⟩
theorem zO{kvs:List (List eZ × V)}(ok:pF P w H h)(e:Rd H a (.dT kvs)):kvs.length<=sizeLine/\(a == sysModules)=false /\
  ∃xs,KT H kvs xs/\h.DictOfH (tupleKind (fS P w)) a xs:=by
 obtain ⟨z,y,xs,r,o,es,ep,h1,h2,h3,h4,h5⟩:=(show fE P w H h a (.dT kvs) from YO ok e);refine ⟨z,y,xs,r,o,es,ep,h1,h2,h3,h4,λx hx=>?_,h5⟩;have all:∀{l:List (List eZ × V)} {m:List (List eZ × Addr × Value)},KT H l m->∀x∈m,(tupleKind (fS P w)).is h x.1 x.2.1:=by
  intro l m q
  induction q with
  | nil=>intro x hx;exact nomatch hx
  | @cons p q ps qs hq t ih =>
   intro x hx;rcases bC.mp hx with e | hx
   ·subst e;exact uP ok (by rw [<-hq.1];exact hq.2.1)
   ·exact ih x hx
 exact all r x hx
theorem YX{kvs:List (List eZ × V)}(ok:pF P w H h)(e:H a=some (.dT kvs)):kvs.length<=sizeLine/\(a == sysModules)=false /\
  ∃xs,KT H kvs xs/\h.DictOfH (tupleKind (fS P w)) a xs:=zO ok (.inl e)
end
def oK(H:Hp)(a:Addr)(y:V)(r:Option V):Prop :=
 (∃kvs k,Rd H a (.dK kvs)/\y=kV k/\r=fM kvs k)\/∃kvs k b,Rd H a (.dT kvs)/\y=.ref b/\H b=some (.tup (k.map kV))/\r=fM kvs k
def CP(H:Hp)(a:Addr)(y v:V)(H':Hp):Prop :=
 (∃kvs k,H a=some (.dK kvs)/\y=kV k/\kvs.length<sizeLine/\H'=upd H a (.dK (iR kvs k v))) \/
 ∃kvs k b,H a=some (.dT kvs)/\y=.ref b/\H b=some (.tup (k.map kV))/\kvs.length<sizeLine/\H'=upd H a (.dT (iR kvs k v))
theorem oK.k{H:Hp}{a:Addr}{kvs:List (eZ × V)}{k:eZ}(e:H a=some (.dK kvs)):oK H a (kV k) (fM kvs k):=.inl ⟨kvs,k,.inl e,rfl,rfl⟩
theorem oK.t{H:Hp}{a b:Addr}{kvs:List (List eZ × V)}{k:List eZ}(e:H a=some (.dT kvs))(eb:H b=some (.tup (k.map kV))):oK H a (.ref b) (fM kvs k):=.inr ⟨kvs,k,b,.inl e,rfl,eb,rfl⟩
theorem CP.k{H:Hp}{a:Addr}{kvs:List (eZ × V)}{k:eZ}{v:V}(e:H a=some (.dK kvs))(hl:kvs.length<sizeLine):CP H a (kV k) v (upd H a (.dK (iR kvs k v))):=.inl ⟨kvs,k,e,rfl,hl,rfl⟩
theorem CP.t{H:Hp}{a b:Addr}{kvs:List (List eZ × V)}{k:List eZ}{v:V}(e:H a=some (.dT kvs))(eb:H b=some (.tup (k.map kV)))(hl:kvs.length<sizeLine) :
  CP H a (.ref b) v (upd H a (.dT (iR kvs k v))):=.inr ⟨kvs,k,b,e,rfl,eb,hl,rfl⟩
section
variable{X:Cx}{pins:List (Addr × Obj)}{σ:St}{H:Hp}{s:Shared}{a:Addr}{y v:V}{u r:Value}{o:Option V}{A:Around}{E:Value->Shared->Prop}
theorem cF.big(I:cF X pins σ H s):sysModules<s.heap.objs.size:=by
 have h:mainGlobals<s.heap.objs.size:=(I.mod.glob.keeps I.bk).lt;exact Nat.lt_trans Dd h
theorem LZ{Q:Value->Shared->Prop}(hu:A.units+1<cLine)(I:cF X pins σ H s)(g:oK H a y (some v))(ry:dJ y u)(h:∀w' s',cF X pins σ H s'->dJ v w'->Q w' s') :
  wpAny (model X.prog X.w) A (getItem (.ref a) u) Q E s:=by
 rcases g with ⟨kvs,k,e,ey,l⟩ | ⟨kvs,k,b,e,ey,eb,l⟩
 ·subst ey;obtain ⟨z,hd,vs,rel,dd⟩:=zP I.hok e;obtain ⟨w',hw,rw'⟩:=rW.some_of (v:=v) (o:=valueAt vs k) (by rw [l];exact rel.val k);exact wpAny_getItem_of (zJ ry) dd.mapOf hw (h w' _ (I.tok _) rw')
 ·subst ey;cases (show u=Value.ref b from ry);obtain ⟨z,hd,xs,rel,dd⟩:=zO I.hok e;obtain ⟨w',hw,rw'⟩:=rW.some_of (v:=v) (o:=(atKey xs k).map (·.2)) (by rw [l];exact rel.val k);obtain ⟨p,hp,hp2⟩:=dX.mp hw;refine wpAny_getItem_heap (tupleKind_room_in1 hu) (uP I.hok eb) dd hp ?_;rw [hp2];exact h w' _ (I.tok _) rw'
theorem aDw{Q:Value->Shared->Prop}(hu:A.units+1<cLine)(I:cF X pins σ H s)(g:oK H a y o)(ry:dJ y u)(h:∀s',cF X pins σ H s'->Q (.bool o.isSome) s') :
  wpAny (model X.prog X.w) A (compareOp .In u (.ref a)) Q E s:=by
 rcases g with ⟨kvs,k,e,ey,l⟩ | ⟨kvs,k,b,e,ey,eb,l⟩
 ·subst ey;obtain ⟨z,hd,vs,rel,dd⟩:=zP I.hok e;refine wpAny_in_of (zJ ry) hd dd.mapOf ?_;rw [<-(rel.val k).isSome_eq,<-l];exact h _ (I.tok _)
 ·subst ey;cases (show u=Value.ref b from ry);obtain ⟨z,hd,xs,rel,dd⟩:=zO I.hok e;refine wpAny_in_heap (tupleKind_room_in1 hu) (uP I.hok eb) hd dd ?_;have q:=(rel.val k).isSome_eq;rw [Option.isSome_map] at q;rw [<-q,<-l];exact h _ (I.tok _)
theorem wH{h':Heap}{t':Nat}{ob:HO}(I:cF X pins σ H s)(mu:Mut (H a))(hs:Heap.SameBut a s.heap h')(he:∃q,h'.get? a=some q)(new:fE X.prog X.w (upd H a ob) h' a ob) :
  cF X pins σ (upd H a ob) { s with heap:=h',toks:=t' } :=
 I.write (x:=a) (e:=a) mu (.inl rfl) (λb q hb z=>(hs.2 b hb).trans z) he new
theorem QV{P:Program}{w:World}{H':Hp}{h':Heap}{kvs:List (eZ × V)}{vs:List (eZ × Value)}(z:kvs.length<=sizeLine)(hd:(a == sysModules)=false)(rel:KV kvs vs)(dd:h'.DictOf (fS P w) a vs) :
  fE P w H' h' a (.dK kvs):=⟨z,hd,vs,rel,dd⟩
theorem LY{H':Hp}{Q:Unit->Shared->Prop}(hu:A.units+1<cLine)(I:cF X pins σ H s)(g:CP H a y v H')(ry:dJ y u)(rv:dJ v r)(h:∀s',cF X pins σ H' s'->Q () s') :
  wpAny (model X.prog X.w) A (setItem (.ref a) u r) Q E s:=by
 rcases g with ⟨kvs,k,e,ey,l,eH⟩ | ⟨kvs,k,b,e,ey,eb,l,eH⟩
 ·subst ey eH;obtain ⟨z,hd,vs,rel,dd⟩:=YY I.hok e;have hz:vs.length<=sizeLine:=by rw [<-rel.length];exact z
  have hl:(iR kvs k v).length<=sizeLine:=by have:=eX kvs k v;omega
  refine wpAny_setItem_pairs (hsz:=hz) (zJ ry) dd λh' dd' hs=>h _ ?_;have he:∃q,h'.get? a=some q:=let ⟨q,_,_,hq,_⟩:=dd';⟨q,hq⟩;exact wH I (by rw [e];exact True.intro) hs he (QV hl hd (rel.put k rv) dd')
 ·subst ey eH;cases (show u=Value.ref b from ry);obtain ⟨z,hd,xs,rel,dd⟩:=YX I.hok e;have hz:xs.length<=sizeLine:=by rw [<-Paired.length rel];exact z
  have hl:(iR kvs k v).length<=sizeLine:=by have:=eX kvs k v;omega
  refine wpAny_setItem_heap (hsz:=hz) (tupleKind_room_in1 hu) (uP I.hok eb) dd λh' dd' hs=>h _ ?_;obtain ⟨q,es,ep,hq,h2,h3,h4,_,h5⟩:=dd';refine wH I (by rw [e];exact True.intro) hs ⟨q,hq⟩ ⟨hl,hd,_,(rel.put k eb rv).keeps λc ys ec=>?_,q,es,ep,hq,h2,h3,h4,h5⟩;rw [cX (pC ec e (λz=>nomatch z))];exact ec
end
section
variable{X:Cx}{pins:List (Addr × Obj)}{σ:St}{H:Hp}{s:Shared}{a:Addr}{kvs:List (eZ × V)}{k:eZ}{u:Value}{A:Around}{E:Value->Shared->Prop}
end
def aA8(i:Expr):Prop:=∀ov iv,subscripted i false ov iv=operate [ov,iv] (getItem ov iv)
theorem TF{prog:Program}{w:World}{A:Around}{E:Value->Shared->Prop}{s:Shared}{env:Env}{value slice:Expr}{pos:Pos}{T id:String}{Q:Value->Shared->Prop}
  (hl:typeLookup (.type T) "__getitem__" = pure (some (.builtin id))) (hs:aA8 slice)
  (h:wpAny (model prog w) A (eval value env) (λo s₁=>wpAny (model prog w) A (eval slice env) (λi s₂=>s₂.TypeIs o T/\wpAny (model prog w) A (getItem o i) Q E s₂) E s₁) E s) :
  wpAny (model prog w) A (eval (.Subscript value slice pos) env) Q E s:=by
 refine Subscript_ (wpAny_mono h (λo s₁ h₁=>wpAny_mono h₁ (λi s₂ h₂=>?_) λ_ _ x=>x) λ_ _ x=>x);obtain ⟨hT,h₂⟩:=h₂;unfold subscriptTail;refine wpAny_bind ?_;rw [getitemInPython_of_ne hT.not_modules];refine wpAny_bind (wpAny_specialOf hT hl ?_);have fin:wpAny (model prog w) A (subscripted slice false o i) (λr s₃=>wpAny (model prog w) A (letTemporaryGo value o r >>= λ_=>pure r) Q E s₃) E s₂:=by
  rw [hs o i];exact wpAny_operating (wpAny_mono h₂ (λr s₃ h₃=>wpAny_bind (wpAny_letTemporaryGo (wpAny_pure h₃))) λ_ _ x=>x)
 first
  | exact wpAny_pure (wpAny_bind fin)
  | exact wpAny_bind (wpAny_pure (wpAny_bind fin))
  | exact wpAny_bind fin
theorem ER{X:Cx}{pins:List (Addr × Obj)}{σ:St}{H:Hp}{s:Shared}{a:Addr}{y:V}{o:Option V}(I:cF X pins σ H s)(g:oK H a y o):s.TypeIs (.ref a) "dict" := by
 rcases g with ⟨kvs,k,e,_,_⟩ | ⟨kvs,k,b,e,_,_,_⟩
 ·obtain ⟨_,_,vs,_,dd⟩:=zP I.hok e;exact dd.typeIs
 ·obtain ⟨_,_,xs,_,dd⟩:=zO I.hok e;exact dd.typeIs
def aBy(td ty:TE):TE:=λσ H Q=>td σ H λx H1=>ty σ H1 λy H2=>∃a v,x=.ref a/\oK H2 a y (some v)/\Q v H2
def aBE(td ty tv:TE):TS:=λD σ H=>tv σ H λv H1=>td σ H1 λx H2=>ty σ H2 λy H3=>∃a H4,x=.ref a/\CP H3 a y v H4/\D.nx σ H4
section
variable{X:Cx}{o i e value:Expr}{pos pos' tpos:Pos}{td ty tv:TE}
theorem VZ(hu:X.A.units+1<cLine)(ho:PE X o td)(hi:PE X i ty)(hs:aA8 i):PE X (.Subscript o i pos) (aBy td ty):=by
 intro pins s σ H Q I h;refine TF PySem.F.slot_dict_getitem.lookup hs (thn (ho pins s σ H _ I h) λu s1 ⟨x,H1,I1,rx,q1⟩=>thn (hi pins s1 σ H1 _ I1 q1) λiv s2 ⟨y,H2,I2,ry,a,v,ex,g,q2⟩=>?_);subst ex;obtain rfl:u=Value.ref a:=rx;exact ⟨ER I2 g,LZ hu I2 g ry λw' s3 I3 rw'=>⟨v,H2,I3,rw',q2⟩⟩
theorem VP(hu:X.A.units+1<cLine)(ho:PE X o td)(hi:PE X i ty)(hv:PE X value tv)(hs:swapsWith value (some (.Subscript o i pos')) pos.line X.env=pure false) :
  PS X (.Assign [.Subscript o i pos'] value pos) (aBE td ty tv):=by
 intro pins s σ H D I h;refine wpAny_Assign_Subscript (thn (hv pins s σ H _ I h) λr s1 ⟨v,H1,I1,rv,q1⟩=>thn (ho pins s1 σ H1 _ I1 q1) λu s2 ⟨x,H2,I2,rx,q2⟩=>thn (hi pins s2 σ H2 _ I2 q2) λiv s3 ⟨y,H3,I3,ry,a,H4,ex,g,q3⟩=>?_) hs;subst ex;obtain rfl:u=Value.ref a:=rx;exact LY hu I3 g ry rv λs4 I4=>⟨σ,H4,I4,q3⟩
end
theorem QW{P:Program}{w:World}{H:Hp}(h:Heap)(hb:sysModules<h.objs.size):fE P w H (h.push { cls:=.type "dict",data:=.dict #[] }) h.objs.size (.dK []) :=
 ⟨cE _,beq_eq_false_iff_ne.mpr (Ne.symm (cG hb)),[],.nil,Heap.DictOf.new h⟩
theorem EQ{P:Program}{w:World}{H:Hp}(h:Heap)(hb:sysModules<h.objs.size):fE P w H (h.push { cls:=.type "dict",data:=.dict #[] }) h.objs.size (.dT []) :=
 ⟨cE _,beq_eq_false_iff_ne.mpr (Ne.symm (cG hb)),[],.nil,_,#[],0,bB _ rfl,⟨rfl,rfl,rfl⟩,rfl,rfl,List.nodup_nil⟩
def NM:TE:=λ_ H Q=>∀p,H p=none->Q (.ref p) (upd H p (.dT []))
section
variable{X:Cx}{pos:Pos}
theorem pe_dnewT:PE X (.Dict [] [] pos) NM:=λpins s σ H Q I h =>
 wpAny_Dict_empty ⟨.ref s.heap.objs.size,_,I.laid (a:=s.heap.objs.size) (o:=.dT []) (t':=s.toks) (λ_ _ q=>aC _ q) (aI _) (EQ s.heap I.big),rfl,h _ (I.hok.fresh (aI _))⟩
end
def FX:List (TE × TE)->St->Hp->(List (V × V)->Hp->Prop)->Prop
 | [],_,H,Q=>Q [] H
 | (tk,tv)::r,σ,H,Q=>tk σ H λx H1=>tv σ H1 λy H2=>FX r σ H2 λps H3=>Q ((x,y)::ps) H3
abbrev VV:List (V × V)->List (Value × Value)->Prop:=Paired λp q=>dJ p.1 q.1/\dJ p.2 q.2
def PPs(X:Cx)(pos:Pos)(keys:List (Option Expr))(values:List Expr)(trs:List (TE × TE)):Prop :=
 ∀(pins:List (Addr × Obj)) (s:Shared) (σ:St) (H:Hp) (Q:List (V × V)->Hp->Prop),cF X pins σ H s->FX trs σ H Q ->
  wpAny (model X.prog X.w) X.A (evalPairs (pairTrees keys values X.env pos)) (λvs s'=>∃ps H',cF X pins σ H' s'/\VV ps vs/\Q ps H') X.xe s
theorem pps_nil{X:Cx}{pos:Pos}:PPs X pos [] [] []:=λpins s σ H Q I h=>pairTrees_nil_walk ⟨[],H,I,.nil,h⟩
theorem PD{X:Cx}{pos:Pos}{k v:Expr}{ks:List (Option Expr)}{vs:List Expr}{tk tv:TE}{trs:List (TE × TE)}(hk:PE X k tk)(hv:PE X v tv)(hr:PPs X pos ks vs trs) :
  PPs X pos (some k::ks) (v::vs) ((tk,tv)::trs):=λpins s σ H Q I h =>
 pairTrees_cons_walk (thn (hk pins s σ H _ I h) λu s1 ⟨x,H1,I1,rx,q1⟩=>thn (hv pins s1 σ H1 _ I1 q1) λw2 s2 ⟨y,H2,I2,ry,q2⟩ =>
  thn (hr pins s2 σ H2 _ I2 q2) λws s3 ⟨ps,H3,I3,rel,q3⟩=>⟨(x,y)::ps,H3,I3,.cons ⟨rx,ry⟩ rel,q3⟩)
def xE(kvs more:List (eZ × V)):List (eZ × V):=more.foldl (λacc kv=>iR acc kv.1 kv.2) kvs
theorem KV.merge:∀{more:List (eZ × V)}{rs:List (eZ × Value)}{kvs:List (eZ × V)}{vs:List (eZ × Value)},KV more rs->KV kvs vs->KV (xE kvs more) (merged vs rs):=by
 intro more rs kvs vs r;unfold KV at r
 induction r generalizing kvs vs with
 | nil=>intro q;exact q
 | @cons p q ps qs h t ih =>
  intro r0;have e:KV (iR kvs p.1 p.2) (stored vs q.1 q.2):=by
   have:=r0.put p.1 h.2;rw [<-h.1];exact this
  exact ih e
theorem rG:∀(more kvs:List (eZ × V)),(xE kvs more).length<=kvs.length+more.length
 | [],kvs=>by show kvs.length<=kvs.length+0;omega
 | p::r,kvs=>by
  have h1:=rG r (iR kvs p.1 p.2);have h2:=eX kvs p.1 p.2;show (xE (iR kvs p.1 p.2) r).length<=_;rw [bU];omega
theorem xU{P:Program}{w:World}:∀{kvs:List (eZ × V)}{ws:List (Value × Value)},VV (kvs.map λkv=>(kV kv.1,kv.2)) ws->∃rs,Carries (fS P w) ws rs/\KV kvs rs
 | [],_,r=>by rw [List.map_nil] at r;cases r;exact ⟨[],True.intro,.nil⟩
 | p::kvs,_,r=>by
  rw [bH] at r;cases r with
  | @cons a b as bs h t =>
   obtain ⟨rs,c,q⟩:=xU (P:=P) (w:=w) t;obtain ⟨b1,b2⟩:=b;exact ⟨(p.1,b2)::rs,⟨zJ h.1,rfl,c⟩,.cons ⟨rfl,h.2⟩ q⟩
def YK(trs:List (TE × TE)):TE:=λσ H Q=>∀p,H p=none->FX trs σ (upd H p (.dK [])) λps H2=>H2 p=some (.dK [])/\∃kvs:List (eZ × V),ps=kvs.map (λkv=>(kV kv.1,kv.2))/\kvs.length<=15/\Q (.ref p) (upd H2 p (.dK (xE [] kvs)))
theorem VY{X:Cx}{pos:Pos}{keys:List (Option Expr)}{values:List Expr}{trs:List (TE × TE)}(h:PPs X pos keys values trs)(hall:keys.all (·.isSome)=true)(hl:keys.length=values.length)(h0:keys≠[])
  (h15:keys.length<=15):PE X (.Dict keys values pos) (YK trs):=by
 intro pins s σ H Q I q;have hn:=I.hok.fresh (aI s.heap.objs.size);have I1:=I.laid (a:=s.heap.objs.size) (o:=.dK []) (h':=s.heap.push { cls:=.type "dict",data:=.dict #[] }) (t':=s.toks) (λ_ _ q=>aC _ q) (aI _) (QW s.heap I.big);refine wpAny_Dict_walk (knd:=fS X.prog X.w) hall hl h0 h15 (thn (h pins _ σ _ _ I1 (q _ hn)) λws s2 ⟨ps,H2,I2,rel,e,kvs,ep,lk,q2⟩=>?_);subst ep;obtain ⟨rs,c,rk⟩:=xU (P:=X.prog) (w:=X.w) rel;obtain ⟨z,hd,vs0,r0,dd⟩:=YY I2.hok e;cases r0;refine ⟨rs,c,dd,λh' dd' hs=>⟨.ref s.heap.objs.size,_,?_,rfl,q2⟩⟩;have hz:(xE [] kvs).length<=sizeLine:=by
  have h1:=rG kvs [];rw [List.length_nil] at h1;rw [sizeLine_eq];omega
 have he:∃q,h'.get? s.heap.objs.size=some q:=let ⟨q,_,_,hq,_⟩:=dd';⟨q,hq⟩;exact wH I2 (by rw [e];exact True.intro) hs he (QV hz hd (rk.merge .nil) dd')
structure M2(X:Cx)(o:Expr)(m:Str)(apos:Pos)(e f:Expr)(cpos:Pos):Prop where
 base:attributeBase o m X.env (eval o X.env)=eval o X.env
 few:((backTo cpos (starEach [e,f] X.env)).all (λx=>!x.1)&&(backToKw cpos (keywordEach [] X.env)).all (λx=>x.1.isSome)
  && decide (([e,f]:List Expr).length+([]:List Keyword).length+(if ([]:List Keyword).isEmpty then 0 else 1)<30))=true
 line:(apos.endLine == cpos.line)=true
 trees:backTo cpos (starEach [e,f] X.env)=[(false,eval e X.env),(false,eval f X.env)]
def IsD(H:Hp)(a:Addr):Prop:=(∃kvs,Rd H a (.dK kvs))\/∃kvs,Rd H a (.dT kvs)
theorem aAH{X:Cx}{pins:List (Addr × Obj)}{σ:St}{H:Hp}{s:Shared}{a:Addr}(I:cF X pins σ H s)(d:IsD H a) :
  s.TypeIs (.ref a) "dict" /\ (∀b,Value.ref a=.ref b->∃ob,s.heap.get? b=some ob/\ob.dict=none)/\(a == sysModules)=false:=by
 rcases d with ⟨kvs,e⟩ | ⟨kvs,e⟩
 ·obtain ⟨_,hd,vs,_,dd⟩:=zP I.hok e;refine ⟨dd.typeIs,λb q=>?_,hd⟩;cases q;obtain ⟨ob,_,_,h1,h2,_⟩:=dd;exact ⟨ob,h1,h2.2.1⟩
 ·obtain ⟨_,hd,xs,_,dd⟩:=zO I.hok e;refine ⟨dd.typeIs,λb q=>?_,hd⟩;cases q;obtain ⟨ob,_,_,h1,h2,_⟩:=dd;exact ⟨ob,h1,h2.2.1⟩
section
variable{X:Cx}{pins:List (Addr × Obj)}{σ:St}{H:Hp}{s:Shared}{a:Addr}{y d:V}{u r:Value}{o:Option V}{A:Around}{E:Value->Shared->Prop}
theorem aAQ{Q:Value->Shared->Prop}(hu:A.units+1<cLine)(I:cF X pins σ H s)(g:oK H a y o)(ry:dJ y u)(rd:dJ d r)(h:∀w' s',cF X pins σ H s'->dJ (o.getD d) w'->Q w' s') :
  wpAny (model X.prog X.w) A (call (.builtin "dict.get") [.ref a,u,r]) Q E s:=by
 rcases g with ⟨kvs,k,e,ey,l⟩ | ⟨kvs,k,b,e,ey,eb,l⟩
 ·subst ey;obtain ⟨z,hd,vs,rel,dd⟩:=zP I.hok e;refine call_meetsIn PySem.F.slot_dict_get dd.typeIs PySem.F.entry_dict_get (PySem.F.args_dict_get_3 _ _ _) (meets_dict_get_default (fS X.prog X.w) a (zJ ry) hd r) ⟨_,dd.mapOf,h _ _ (I.tok _) ?_⟩;rw [l];exact (rel.val k).getD rd
 ·subst ey;cases (show u=Value.ref b from ry);obtain ⟨z,hd,xs,rel,dd⟩:=zO I.hok e;refine call_meetsIn PySem.F.slot_dict_get dd.typeIs PySem.F.entry_dict_get (PySem.F.args_dict_get_3 _ _ _) (meetsH_dict_get_default (tupleKind (fS X.prog X.w)) a b hd r) ⟨tupleKind_room_in1 hu,k,xs,uP I.hok eb,dd,h _ _ (I.tok _) ?_⟩;rw [l];exact (rel.val k).getD rd
end
def NN(td ty tx:TE):TE:=λσ H Q=>td σ H λx H1=>∃a,x=.ref a/\IsD H1 a/\ty σ H1 λy H2=>tx σ H2 λz H3=>∃o,oK H3 a y o/\Q (o.getD z) H3
section
variable{X:Cx}{o e f:Expr}{apos cpos:Pos}{td ty tx:TE}
theorem PP(hu:X.A.units+1<cLine)(ho:PE X o td)(he:PE X e ty)(hf:PE X f tx)(m:M2 X o "get" apos e f cpos):PE X (.Call (.Attribute o "get" apos) [e,f] [] cpos) (NN td ty tx):=by
 intro pins s σ H Q I h;refine wpAny_Call_method m.base m.few m.line PySem.F.plainAttrs_dict PySem.F.slot_dict_get PySem.F.type_dict_get (thn (ho pins s σ H _ I h) λu s1 ⟨x,H1,I1,rx,a,ex,d,q1⟩=>?_);subst ex;obtain rfl:u=Value.ref a:=rx;obtain ⟨t1,t2,_⟩:=aAH I1 d;refine ⟨t1,t2,?_⟩;rw [m.trees];refine Calls.callWith_builtin rfl (Calls.evalArgs_plain (Calls.spliced_cons (thn (he pins s1 σ H1 _ I1 q1) λiv s2 ⟨y,H2,I2,ry,q2⟩ =>
  Calls.spliced_cons (thn (hf pins s2 σ H2 _ I2 q2) λfv s3 ⟨z,H3,I3,rz,ov,g,q3⟩=>Calls.spliced_nil ?_))))
 exact aAQ hu I3 g ry rz λw' s4 I4 rw'=>⟨_,H3,I4,rw',q3⟩
end
section
variable{X:Cx}{pins:List (Addr × Obj)}{σ:St}{H:Hp}{s:Shared}{a:Addr}{kvs:List (eZ × V)}{A:Around}{E:Value->Shared->Prop}
end
section
variable{X:Cx}{pins:List (Addr × Obj)}{σ:St}{H:Hp}{s:Shared}{a:Addr}{y:V}{u:Value}{A:Around}{E:Value->Shared->Prop}
end
section
variable{κ:Type}[DecidableEq κ]
theorem NG{kvs:List (κ × V)}{k:κ}(h:fM kvs k=none):¬k∈kvs.map (·.1):=by
 intro m;obtain ⟨p,hp,e⟩:=aV.mp m;have q:(kvs.any λkv=>decide (kv.1=k))=true:=List.any_eq_true.mpr ⟨p,hp,cO e⟩;rw [kU,h] at q;exact absurd q (by simp)
theorem SX{kvs:List (κ × V)}{k:κ}{v:V}(h:fM kvs k=some v):k∈kvs.map (·.1):=by
 have q:(kvs.any λkv=>decide (kv.1=k))=true:=by
  rw [kU,h]
  all_goals rfl
 obtain ⟨p,hp,e⟩:=List.any_eq_true.mp q;exact aV.mpr ⟨p,hp,of_decide_eq_true e⟩
end
abbrev bits(i:Int):Nat:=Builtin.Int.intBits i
def SG(i j:Int):Prop:=0<j/\bits j<=9000
theorem vL{j:Int}{n:Nat}(h:bits j<=n)(hn:0<n):j.natAbs.log2<n:=by
 unfold bits Builtin.Int.intBits at h;by_cases hj:(j == 0)=true
 ·have:j=0:=by simpa using hj
  subst this;exact bA (by decide +kernel:(0:Int).natAbs.log2<=0) hn
 ·rw [if_neg hj] at h;omega
section
variable{X:Cx}
theorem fO:tW X (binaryOp .FloorDiv) (rI SG λi j=>.int (i/j)):=opI λi j _ _ _ _ _ hc q=>by
 refine floordiv_int (by have:=hc.1;omega) ?_ (.inl (PyProof.noPylong_of_log2 (vL hc.2 Dd)));rw [Int.fdiv_eq_ediv_of_nonneg i (by have:=hc.1;omega)];exact q
theorem dO:tW X (binaryOp .Mult) (rI IntMulOk λi j=>.int (i*j)):=opI λ_ _ _ _ _ _ _ hc q=>mul_int q hc
end
mutual
def cC(H:Hp):PyData->V->Prop
 | .none,v=>v=.non
 | .bool b,v=>v=.bl b
 | .int i,v=>v=.int i
 | .str x,v=>v=.str x
 | .list ds,v=>∃a xs,v=.ref a/\H a=some (.lst xs)/\aW H ds xs
 | .tuple ds,v=>∃a xs,v=.ref a/\H a=some (.tup xs)/\aW H ds xs
 | .dict kvs,v=>kvs=[]/\∃a,v=.ref a/\H a=some (.dK [])
def aW(H:Hp):List PyData->List V->Prop
 | [],vs=>vs=[]
 | d::ds,vs=>∃x xs,vs=x::xs/\cC H d x/\aW H ds xs
end
mutual
theorem cC.same{H H':Hp}(e:aY H H'):∀{d:PyData}{v:V},cC H d v->cC H' d v
 | .none,_,h=>h
 | .bool _,_,h=>h
 | .int _,_,h=>h
 | .str _,_,h=>h
 | .list ds,_,h=>by
  unfold cC at h ⊢;obtain ⟨a,xs,rfl,h1,h2⟩:=h;exact ⟨a,xs,rfl,e _ _ h1,aW.same e h2⟩
 | .tuple ds,_,h=>by
  unfold cC at h ⊢;obtain ⟨a,xs,rfl,h1,h2⟩:=h;exact ⟨a,xs,rfl,e _ _ h1,aW.same e h2⟩
 | .dict kvs,_,h=>by
  unfold cC at h ⊢;obtain ⟨h0,a,rfl,h1⟩:=h;exact ⟨h0,a,rfl,e _ _ h1⟩
theorem aW.same{H H':Hp}(e:aY H H'):∀{ds:List PyData}{vs:List V},aW H ds vs->aW H' ds vs
 | [],_,h=>h
 | d::ds,_,h=>by
  unfold aW at h ⊢;obtain ⟨x,xs,rfl,h1,h2⟩:=h;exact ⟨x,xs,rfl,cC.same e h1,aW.same e h2⟩
end
theorem cC.tup{H:Hp}{a:Addr}{xs:List V}{ds:List PyData}(h:H a=some (.tup xs))(r:aW H ds xs):cC H (.tuple ds) (.ref a):=by
 unfold cC;exact ⟨a,xs,rfl,h,r⟩
theorem cC.lst{H:Hp}{a:Addr}{xs:List V}{ds:List PyData}(h:H a=some (.lst xs))(r:aW H ds xs):cC H (.list ds) (.ref a):=by
 unfold cC;exact ⟨a,xs,rfl,h,r⟩
theorem cC.int{H:Hp}(i:Int):cC H (.int i) (.int i):=by unfold cC;rfl
theorem cC.str{H:Hp}(i:Str):cC H (.str i) (.str i):=by unfold cC;rfl
theorem aW.nil{H:Hp}:aW H [] []:=by unfold aW;rfl
theorem aW.cons{H:Hp}{d:PyData}{ds:List PyData}{x:V}{xs:List V}(h:cC H d x)(hs:aW H ds xs):aW H (d::ds) (x::xs):=by
 unfold aW;exact ⟨x,xs,rfl,h,hs⟩
section
variable{X:Cx}{pins:List (Addr × Obj)}{σ:St}{H:Hp}{s:Shared}
mutual
theorem cC.reads(I:cF X pins σ H s):∀{d:PyData}{v:V}{u:Value},cC H d v->dJ v u->∃as,Reads s.heap u d as
 | .none,_,u,h,r=>by
  cases (show _=V.non from h);cases (show u=Value.none from r);exact ⟨_,.none⟩
 | .bool b,_,u,h,r=>by
  cases (show _=V.bl b from h);cases (show u=Value.bool b from r);exact ⟨_,.bool b⟩
 | .int b,_,u,h,r=>by
  cases (show _=V.int b from h);obtain ⟨t,q⟩:=(show ∃t,u=Value.int b t from r);cases q;exact ⟨_,.int b t⟩
 | .str b,_,u,h,r=>by
  cases (show _=V.str b from h);obtain ⟨t,q⟩:=(show ∃t,u=Value.str b t from r);cases q;exact ⟨_,.str b t⟩
 | .list ds,v,u,h,r=>by
  unfold cC at h;obtain ⟨a,xs,rfl,h1,h2⟩:=h;cases (show u=Value.ref a from r);obtain ⟨_,its,n,r',e⟩:=(show fE X.prog X.w H s.heap a (.lst xs) from I.hok a _ h1);obtain ⟨as,q⟩:=aW.reads I h2 r';exact ⟨_,.list e rfl rfl (by simpa using q)⟩
 | .tuple ds,v,u,h,r=>by
  unfold cC at h;obtain ⟨a,xs,rfl,h1,h2⟩:=h;cases (show u=Value.ref a from r);obtain ⟨_,its,r',o,e,hc,n,hd⟩:=(show fE X.prog X.w H s.heap a (.tup xs) from I.hok a _ h1);obtain ⟨as,q⟩:=aW.reads I h2 r';exact ⟨_,.tuple e hc hd (by simpa using q)⟩
 | .dict kvs,v,u,h,r=>by
  unfold cC at h;obtain ⟨rfl,a,rfl,h1⟩:=h;cases (show u=Value.ref a from r);obtain ⟨_,_,vs,kv,o,es,ep,e,hx,hd,_,hes,_⟩:=(show fE X.prog X.w H s.heap a (.dK []) from I.hok a _ h1);cases kv;have he:es.toList=[]:=by
   cases q:es.toList with
   | nil=>rfl
   | cons y ys=>rw [q] at hes;cases hes
  exact ⟨_,.dict e hx.1 hd (by rw [he];exact .nil) (by rw [he];exact .nil)⟩
theorem aW.reads(I:cF X pins σ H s):∀{ds:List PyData}{vs:List V}{us:List Value},aW H ds vs->cZ vs us->∃as,ReadsAll s.heap us ds as
 | [],_,us,h,r=>by
  cases (show _=[] from h);cases r;exact ⟨_,.nil⟩
 | d::ds,_,us,h,r=>by
  unfold aW at h;obtain ⟨x,xs,rfl,h1,h2⟩:=h;cases r with
  | cons r1 r2 =>
   obtain ⟨as,q1⟩:=cC.reads I h1 r1;obtain ⟨bs,q2⟩:=aW.reads I h2 r2;exact ⟨_,.cons q1 q2⟩
end
end
section
variable{X:Cx}
theorem MC(hg:X.A.guards=some [])(hu:X.A.units+64<cLine):jJ X (.builtin "repr") (λxs H Q=>∃x d,xs=[x]/\cC H d x/\d.showable=true/\d.hasDict=false/\d.depth<=60/\d.shown.length<=sizeLine/\Q (.str d.shown) H):=by
 intro pins s σ H xs us Q I r h;obtain ⟨x,d,rfl,hr,hs,hnd,hdp,hz,q⟩:=h;obtain ⟨u,rfl,ru⟩:=lD r;obtain ⟨as,rd⟩:=hr.reads I ru;cases rd with
 | none=>exact PySem.P.repr_of_none ⟨.str _,H,I.tok _,⟨_,rfl⟩,q⟩
 | bool b=>exact PySem.P.repr_of_bool ⟨.str _,H,I.tok _,⟨_,rfl⟩,q⟩
 | int i t=>exact PySem.P.repr_of_int (by simpa [PyData.showable] using hs) ⟨.str _,H,I.tok _,⟨_,rfl⟩,q⟩
 | str y t=>exact PySem.P.repr_of_str ⟨.str _,H,I.tok _,⟨_,rfl⟩,q⟩ hz
 | list a1 a2 a3 a4=>exact repr_of_reads' (.list a1 a2 a3 a4) hs (PyData.noDict_hsm hnd) hg Oo (λ_ _ e=>e) (λh' u tk hk=>⟨.str _,H,I.kept hk,⟨_,rfl⟩,q⟩) hz
 | tuple a1 a2 a3 a4=>exact repr_of_reads' (.tuple a1 a2 a3 a4) hs (PyData.noDict_hsm hnd) hg Oo (λ_ _ e=>e) (λh' u tk hk=>⟨.str _,H,I.kept hk,⟨_,rfl⟩,q⟩) hz
 | dict a1 a2 a3 a4 a5=>simp [PyData.hasDict] at hnd
end
def tyD:PyData->String
 | .none => "NoneType"
 | .bool _ => "bool"
 | .int _ => "int"
 | .str _ => "str"
 | .list _ => "list"
 | .tuple _ => "tuple"
 | .dict _ => "dict"
def isD(T:String)(d:PyData):Bool:=tyD d == T || (T == "int" && tyD d == "bool")
theorem aAA : ∀ T ∈ ["int", "bool", "tuple", "str", "list", "dict"], ∀ S ∈ ["NoneType", "bool", "int", "str", "list", "tuple", "dict"],
      PySem.W.kitOne [] (.type S) (.type T)=some (S == T || (T == "int" && S == "bool")):=Kk
theorem WN(K:PySem.W.Frag)(S T:String):PySem.W.kitOne K (.type S) (.type T)=PySem.W.kitOne [] (.type S) (.type T):=rfl
theorem aB2(K:PySem.W.Frag)(d:PyData)(T:String)(hT:T = "int" \/ T = "bool" \/ T = "tuple" \/ T = "str" \/ T = "list" \/ T = "dict"):PySem.W.kitOne K (.type (tyD d)) (.type T)=some (isD T d):=by
 rw [WN];refine aAA T ?_ (tyD d) ?_
 ·rcases hT with rfl | rfl | rfl | rfl | rfl | rfl <;> decide
 ·cases d <;> simp [tyD]
section
variable{X:Cx}
end
structure gM(CX:MO)(P:Program)(w:World)(K:PySem.W.Frag)(mg:Str->Option Value)(base:Heap)(k:Nat)(x:Str)(ps:List Str)(sp:Sp):Prop where
 ex:∃(f:Addr) (fd:FuncData),dY P w K mg base CX k f fd ps sp/\mg x=some (.ref f)/\PySem.W.keepIn K (.ref f)=true/\pD K fd ps []
section
variable{X:Cx}{k:Nat}{ps:List Str}{sp:Sp}{x:Str}{p pos:Pos}{e:Expr}{es:List Expr}{t:TA}
theorem aBU(F:gM dP X.prog X.w X.K X.mg X.base k x ps sp)(hr:iH k X.A)(ha:PA X (e::es) t)(hg:Gl X x:=by rfl)
  (hdb:(x == ("__debug__" : Str))=false:=by decide) (he:starEach (e::es) X.env=(false,eval e X.env)::starEach es X.env:=by rfl) (hpl:(backTo pos (starEach es X.env)).any (·.1)=false:=by rfl) :
  PE X (.Call (.Name x p) (e::es) [] pos) (NP sp [] E0 t):=by
 obtain ⟨f,fd,h1,h2,h3,h4⟩:=F.ex;exact WC h1 hr hg h2 h3 h4 .nil YQ ha hdb he hpl
end
section
variable{K:PySem.W.Frag}{H:Hp}{p:Addr}{xs:List V}{i:Int}{v:V}{Q:VK}
theorem FO(h:H p=some (.lst xs))(e:yI xs i=some v)(q:Q v H):rIx K (.ref p) (.int i) H Q:=.inl ⟨p,xs,i,v,rfl,rfl,fN.of h,e,q⟩
theorem lA(h:H p=some (.tup xs))(e:yI xs i=some v)(q:Q v H):rIx K (.ref p) (.int i) H Q:=.inr (.inl ⟨p,xs,i,v,rfl,rfl,jH.of h,e,q⟩)
theorem stL{u:V}{Q:Hp->Prop}{j:Nat}(h:H p=some (.lst xs))(e:MQ xs.length i=some j)(q:Q (upd H p (.lst (xs.set j u)))):OW (.ref p) (.int i) u H Q:=⟨p,xs,i,j,rfl,rfl,h,e,q⟩
end
def iP(p:Addr)(H:Hp):Hp:=λb=>if b=p then none else H b
theorem iP.at{p b:Addr}{H:Hp}(h:b≠p):iP p H b=H b:=by unfold iP;rw [if_neg h]
theorem iP.self{p:Addr}{H:Hp}:iP p H p=none:=by unfold iP;rw [if_pos rfl]
theorem iP.same{p:Addr}{H:Hp}:aY (iP p H) H:=λb o h=>by
 unfold iP at h;by_cases e:b=p
 ·rw [if_pos e] at h;cases h
 ·rw [if_neg e] at h;exact h
theorem iP.ne{p b:Addr}{H:Hp}{o:HO}(h:iP p H b=some o):b≠p:=λe=>by
 subst e;rw [iP.self] at h;cases h
theorem iP.of{p b:Addr}{H:Hp}{o:HO}(n:b≠p)(h:H b=some o):iP p H b=some o:=by rw [iP.at n];exact h
theorem iP.upd_self{p:Addr}{H:Hp}{o:HO}:iP p (upd H p o)=iP p H:=by
 funext b
 by_cases e:b=p
 ·subst e;rw [iP.self,iP.self]
 ·rw [iP.at e,iP.at e,L2.cX e]
abbrev aQ(p:Addr)(H H':Hp):Prop:=aY (iP p H) (iP p H')
theorem aY.but{p:Addr}{H H':Hp}(h:aY H H'):aQ p H H':=λb o e=>by
 have n:=iP.ne e;exact iP.of n (h _ _ (iP.same _ _ e))
theorem aY.upd{H:Hp}{q:Addr}{o:HO}(h:H q=none):aY H (upd H q o):=λb u e=>by
 rw [L2.cX (cY e h)];exact e
theorem aQ.self{p:Addr}{H:Hp}{o:HO}:aQ p H (upd H p o):=by unfold aQ;rw [iP.upd_self];exact aY.refl _
theorem aQ.free{p q:Addr}{H H':Hp}(e:aQ p H H')(hp:∃o,H' p=some o)(h:H' q=none):H q=none:=by
 cases k:H q with
 | none=>rfl
 | some o =>
  by_cases n:q=p
  ·subst n;obtain ⟨o',h'⟩:=hp;rw [h'] at h;cases h
  ·have:=iP.same _ _ (e q o (iP.of n k));rw [this] at h;cases h
section
variable{K:PySem.W.Frag}{H:Hp}{p:Addr}{xs:List V}{i:Int}{v:V}{Q:VK}
theorem stG{u:V}{Q:Hp->Prop}{j:Nat}(h:H p=some (.lst xs))(e:MQ xs.length i=some j)(k:∀H',H' p=some (.lst (xs.set j u))->aQ p H H'->Q H'):OW (.ref p) (.int i) u H Q :=
 stL h e (k _ bM aQ.self)
theorem alT{Q:V->Hp->Prop}(hz:xs.length<=sizeLine)(k:∀q H',H q=none->H' q=some (.tup xs)->aY H H'->Q (.ref q) H'):xs.length<=sizeLine/\∀p,H p=none->Q (.ref p) (upd H p (.tup xs)) :=
 ⟨hz,λq hq=>k q _ hq bM (aY.upd hq)⟩
theorem alL{Q:V->Hp->Prop}(hz:xs.length<=sizeLine)(k:∀q H',H q=none->H' q=some (.lst xs)->aY H H'->Q (.ref q) H'):xs.length<=sizeLine/\∀p,H p=none->Q (.ref p) (upd H p (.lst xs)) :=
 ⟨hz,λq hq=>k q _ hq bM (aY.upd hq)⟩
theorem aQ.at{p b:Addr}{H H':Hp}{o:HO}(s:aQ p H H')(n:b≠p)(h:H b=some o):H' b=some o:=iP.same _ _ (s _ _ (iP.of n h))
end
theorem sT{n:Nat}(h:n<=64):n<=sizeLine:=aK h Dd
theorem uQ{c A B:Prop}[Decidable c](h1:c->A)(h2:¬c->B):if decide c=true then A else B :=
 aB4 (λh=>h1 (of_decide_eq_true h)) (λh=>h2 (λk=>h (cO k)))
theorem aB3{c A B:Prop}[Decidable c](h1:¬c->A)(h2:c->B):if (!decide c)=true then A else B :=
 aB4 (λh=>h1 (λk=>by rw [cO k] at h;exact absurd h Dd)) (λh=>h2 (Decidable.of_not_not λk=>h (by rw [cH k];rfl)))
def rF(c:TT):TT:=λσ H Q=>∃Q':Bool->Hp->Prop,c σ H Q'/\∀b H1,Q' b H1->Q b H1
theorem PT.mono{X:Cx}{e:Expr}{c:TT}(h:PT X e c):PT X e (rF c):=λpins s σ H Q I ⟨Q',h1,h2⟩ =>
 thn (h pins s σ H Q' I h1) λb s' ⟨H',I',q⟩=>⟨H',I',h2 _ _ q⟩
theorem LF{X:Cx}{pos:Pos}{c:Expr}{body:List Stmt}{tc:TT}{tb:TS}(hp:PassesOwn (model X.prog X.w) X.A X.env X.xe)(hc:PT X c tc)(hb:HQ X body tb):PS X (.While c body [] pos) (AR (rF tc) tb) :=
 PB hp hc.mono hb
@[irreducible] def LE(K:PySem.W.Frag):List V->Hp->VK->Prop:=λxs H Q=>∃x n,xs=[x]/\aCk K x H n/\Q (.int n) H
@[irreducible] def VI:List V->Hp->VK->Prop:=λxs H Q=>∃i,xs=[.int i]/\Q (.int (i.natAbs:Int)) H
@[irreducible] def DT:List V->Hp->VK->Prop:=λxs H Q=>∃x d,xs=[x]/\cC H d x/\d.showable=true/\d.hasDict=false/\d.depth<=60/\d.shown.length<=sizeLine/\Q (.str d.shown) H
section
variable{X:Cx}{K:PySem.W.Frag}{H:Hp}{p:Addr}{xs:List V}{Q:VK}
theorem gB:jJ X (.builtin "len") (LE X.K):=by unfold LE;exact RM
theorem aAT:jJ X (.builtin "abs") VI:=by
 unfold VI;exact λpins s σ H xs us Q I r ⟨i,e,q⟩=>RN pins s σ H xs us Q I r ⟨i,e,by
 have:(if i<0 then -i else i)=(i.natAbs:Int):=by split <;> omega
 rw [this];exact q⟩
theorem tO(hg:X.A.guards=some [])(hu:X.A.units+64<cLine):jJ X (.builtin "repr") DT:=by unfold DT;exact MC hg hu
theorem OP(h:H p=some (.lst xs))(q:Q (.int xs.length) H):LE K [V.ref p] H Q:=by unfold LE;exact ⟨_,_,rfl,.inl ⟨xs,fN.of h,rfl⟩,q⟩
theorem KZ(h:H p=some (.tup xs))(q:Q (.int xs.length) H):LE K [V.ref p] H Q:=by unfold LE;exact ⟨_,_,rfl,.inr ⟨xs,jH.of h,rfl⟩,q⟩
theorem raI{i:Int}(q:Q (.int (i.natAbs:Int)) H):VI [V.int i] H Q:=by unfold VI;exact ⟨i,rfl,q⟩
theorem rrI{x:V}{d:PyData}(r:cC H d x)(h1:d.showable=true)(h2:d.hasDict=false)(h3:d.depth<=60)(h4:d.shown.length<=sizeLine)(q:Q (.str d.shown) H):DT [x] H Q:=by unfold DT;exact ⟨x,d,rfl,r,h1,h2,h3,h4,q⟩
end
theorem vV{c:TT}{tb:TS}{D:tY}{σ:St}{H:Hp}(W:Nat->St->Hp->Prop)(R:St->Hp->Prop)(m:Nat)(h0:W m σ H)
  (hs:∀m σ H,W m σ H->c σ H λb H1=>if b=true then tb { D with nx:=λσ' H'=>∃m',m' < m/\W m' σ' H',ct:=λσ' H'=>∃m',m' < m/\W m' σ' H',bk:=D.nx } σ H1 else R σ H1)
  (hd:∀σ H,R σ H->D.nx σ H):AR (rF c) tb D σ H :=
 ⟨W,⟨m,h0⟩,λm σ H hw=>⟨_,hs m σ H hw,λb H1 q=>by
  by_cases hb:b=true
  ·rw [if_pos hb] at q ⊢;exact ⟨_,λ_ _ h=>h,q⟩
  ·rw [if_neg hb] at q ⊢;exact hd _ _ q⟩⟩
def aBz(t:TS):TS:=λD σ H=>∃R:St->Hp->Prop,(∀σ' H',R σ' H'->D.nx σ' H')/\t { D with nx:=R } σ H
theorem aAj{X:Cx}{st:Stmt}{t:TS}(h:PS X st t):PS X st (aBz t):=λpins s σ H D I ⟨R,hR,q⟩ =>
 thn (h pins s σ H _ I q) λf s' z=>by
  cases f with
  | next=>obtain ⟨σ',H',I',r⟩:=z;exact ⟨σ',H',I',hR _ _ r⟩
  | brk=>exact z
  | cont=>exact z
  | ret u=>exact z
section
variable{es:List Expr}{env:Env}
theorem jE{a b c d}:starEach (.BinOp a b c d::es) env=(false,eval (.BinOp a b c d) env)::starEach es env:=by rw [starEach] <;> (intros;contradiction)
theorem fT{a b c d}:starEach (.ListComp a b c d::es) env=(false,eval (.ListComp a b c d) env)::starEach es env:=by rw [starEach] <;> (intros;contradiction)
theorem gL{a b c d}:starEach (.Compare a b c d::es) env=(false,eval (.Compare a b c d) env)::starEach es env:=by rw [starEach] <;> (intros;contradiction)
theorem gH{a b c d}:starEach (.Call a b c d::es) env=(false,eval (.Call a b c d) env)::starEach es env:=by rw [starEach] <;> (intros;contradiction)
theorem fU{a b c}:starEach (.Constant a b c::es) env=(false,eval (.Constant a b c) env)::starEach es env:=by rw [starEach] <;> (intros;contradiction)
theorem eK{a b c}:starEach (.Attribute a b c::es) env=(false,eval (.Attribute a b c) env)::starEach es env:=by rw [starEach] <;> (intros;contradiction)
theorem dG{a b c}:starEach (.Subscript a b c::es) env=(false,eval (.Subscript a b c) env)::starEach es env:=by rw [starEach] <;> (intros;contradiction)
theorem gP{a b}:starEach (.Name a b::es) env=(false,eval (.Name a b) env)::starEach es env:=by rw [starEach] <;> (intros;contradiction)
theorem jD{a b c}:starEach (.Tuple a b c::es) env=(false,eval (.Tuple a b c) env)::starEach es env:=by rw [starEach] <;> (intros;contradiction)
end
section
variable{X:Cx}{k:Nat}{ps:List Str}{sp:Sp}{x:Str}{p pos:Pos}{e:Expr}{es:List Expr}{te:TE}{t:TA}{id T:String}{r:List V->Hp->VK->Prop}
theorem xV{env:Env}:(backTo pos (starEach [] env)).any (·.1)=false:=rfl
theorem tR{env:Env}(hs:starEach (e::es) env=(false,eval e env)::starEach es env)(h:(backTo pos (starEach es env)).any (·.1)=false):(backTo pos (starEach (e::es) env)).any (·.1)=false:=by
 rw [hs];show (false || (backTo pos (starEach es env)).any (·.1))=false;rw [h];rfl
end
structure iG(X:Cx)(e:Expr)(t:TE):Prop where p:PE X e t
structure HN(X:Cx)(e:Expr)(t:TT):Prop where p:PT X e t
structure PWw(X:Cx)(e:Expr)(t:TT):Prop where p:PW X e t
structure HR(X:Cx)(es:List Expr)(t:TA):Prop where p:PA X es t
structure FM(X:Cx)(st:Stmt)(t:TS):Prop where p:PS X st t
structure yL(X:Cx)(st:List Stmt)(t:TS):Prop where p:HQ X st t
structure ZE(X:Cx)(e:Expr)(t:TG):Prop where p:PG X e t
structure XW(X:Cx)(es:List Expr)(t:SB):Prop where p:PGs X es t
structure SC(X:Cx)(tg iter:Expr)(t:TI):Prop where p:PI X tg iter t
structure POw(X:Cx)(e:Option Expr)(t:TO):Prop where p:PO X e t
@[irreducible] def IN(xs:List V)(H:Hp)(Q:VK):Prop:=xs.length<=sizeLine/\∀p,H p=none->Q (.ref p) (upd H p (.tup xs))
@[irreducible] def IO(xs:List V)(H:Hp)(Q:VK):Prop:=xs.length<=sizeLine/\∀p,H p=none->Q (.ref p) (upd H p (.lst xs))
theorem pY{xs:List V}{H:Hp}{Q:VK}(hz:xs.length<=64)(k:∀q H',H q=none->H' q=some (.tup xs)->aY H H'->Q (.ref q) H'):IN xs H Q:=by unfold IN;exact alT (sT hz) k
theorem DY{xs:List V}{H:Hp}{Q:VK}(hz:xs.length<=64)(k:∀q H',H q=none->H' q=some (.lst xs)->aY H H'->Q (.ref q) H'):IO xs H Q:=by unfold IO;exact alL (sT hz) k
def tTu(t:TA):TE:=λσ H Q=>t σ H λxs H1=>IN xs H1 Q
def tLs(t:TA):TE:=λσ H Q=>t σ H λxs H1=>IO xs H1 Q
section
variable{X:Cx}{a b c e o tg:Expr}{es rest:List Expr}{ta tb tc te to:TE}{tA tB':TT}{t:TA}{pos p p2:Pos}{st:Stmt}{sts body orelse:List Stmt}{ts us:TS}{x:Str}{r r':R2}{id T:String}{rl:List V->Hp->VK->Prop}{k i j:Nat}{ps:List Str}{sp:Sp}{n:Nat}
theorem aD(i:Nat){x:Str}{pos:Pos}(hN:X.N[i]?=some x:=by rfl)(hv:Vis X.env.scope x:=by first | exact Or.inl rfl | exact Or.inr (Or.inl rfl) | exact Or.inr (Or.inr rfl))(hd:(x == ("__debug__" : Str))=false:=by decide)
  (hcd:(x == ("__classdict__" : Str))=false:=by decide):iG X (.Name x pos) (ZN i):=⟨pv i hN hv hd hcd⟩
theorem aL{i j pos}:iG X (.Constant (.int i) j pos) (tC (.int i)):=⟨pe_int⟩
theorem vB{b j pos}:iG X (.Constant (.bool b) j pos) (tC (.bl b)):=⟨pe_bl⟩
theorem hJ{x j pos}:iG X (.Constant (.str x) j pos) (tC (.str x)):=⟨pe_str⟩
theorem sE{v:V}{u:Value}(hg:Gl X x)(hm:X.mg x=some u)(r:dJ v u)(hd:(x == ("__debug__" : Str))=false:=by decide):iG X (.Name x pos) (tC v):=⟨VX hg hm r hd⟩
theorem IA{v:V}{u:Value}(hg:Gl X x)(hm:X.mg x=none)(hv:bootBuiltins x=some u)(r:dJ v u)(hn:x ≠ "__name__" := by decide)(hd:(x == ("__debug__" : Str))=false:=by decide):iG X (.Name x pos) (tC v):=⟨WD hg hm hv r hn hd⟩
theorem bQ{op:Operator}(ho:tW X (binaryOp op) r)(ha:iG X a ta)(hb:iG X b tb):iG X (.BinOp a op b pos) (SZ r ta tb):=⟨aBS ho ha.p hb.p⟩
theorem YD{op:UnaryOp}{r:V->Hp->VK->Prop}(ho:UnR X (unaryOp op) r)(ha:iG X a ta):iG X (.UnaryOp op a pos) (tUn r ta):=⟨aBR ho ha.p⟩
theorem wN{op:CmpOp}(ho:tW X (compareOp op) r)(ha:iG X a ta)(hb:iG X b tb)(hm:behindInMarks op b=false):iG X (.Compare a [op] [b] pos) (SZ r ta tb):=⟨WB ho ha.p hb.p hm⟩
theorem eQ{op:CmpOp}(ho:tW X (compareOp op) r)(ha:iG X a ta)(hb:iG X b tb)(hm:behindInMarks op b=false):HN X (.Compare a [op] [b] pos) (YE (SZ r ta tb)):=⟨VM ho ha.p hb.p hm⟩
theorem rN(h:iG X e te)(he:∀whole,isTrue e X.env whole=(do let v <-whole;standAt e.pos;holding [v] (truthy v)):=by intro _;rfl):HN X e (tB te):=⟨aAc h.p he⟩
theorem vT(ha:HN X a tA):PWw X (.BoolOp .And [a] pos) tA:=⟨VJ ha.p⟩
theorem FP(ha:HN X a tA):PWw X (.BoolOp .Or [a] pos) tA:=⟨aAa ha.p⟩
theorem AG(ha:HN X a tA)(hb:PWw X (.BoolOp .And (b::rest) pos) tB'):PWw X (.BoolOp .And (a::b::rest) pos) (aBA tA tB'):=⟨aAb ha.p hb.p⟩
theorem HX(ha:HN X a tA)(hb:PWw X (.BoolOp .Or (b::rest) pos) tB'):PWw X (.BoolOp .Or (a::b::rest) pos) (tOr tA tB'):=⟨aBP ha.p hb.p⟩
theorem FQ(h:PWw X e tA):HN X e tA:=⟨h.p.pt⟩
theorem FR(ha:HN X a tA):HN X (.UnaryOp .Not a pos) (aBu tA):=⟨aAd ha.p⟩
theorem sD(hc:HN X c tA)(ha:iG X a ta)(hb:iG X b tb):iG X (.IfExp c a b pos) (tIf tA ta tb):=⟨PN hc.p ha.p hb.p⟩
theorem aE:HR X [] aBv:=⟨pa_nil⟩
theorem aJ(ha:iG X e te)(hr:HR X es t)(hs:starEach (e::es) X.env=(false,eval e X.env)::starEach es X.env:=by first | exact gP | exact fU | exact se_BoolOp | exact jE | exact se_UnaryOp | exact se_IfExp | exact se_Dict | exact fT | exact gL | exact gH | exact eK | exact dG | exact se_List | exact jD | exact se_JoinedStr | exact se_GeneratorExp):HR X (e::es) (YM te t):=⟨WE ha.p hr.p hs⟩
theorem dS{x1}(h:HR X es t):iG X (.Tuple es x1 pos) (tTu t):=⟨by unfold tTu IN;exact aAr h.p⟩
theorem iI(h:HR X es t):iG X (.List es pos) (tLs t):=⟨by unfold tLs IO;exact aAs h.p⟩
theorem mC:iG X (.Dict [] [] pos) NM:=⟨pe_dnewT⟩
theorem bT(hr:SE X r)(ha:iG X a ta)(hb:iG X b tb)(hs:JX b):iG X (.Subscript a b pos) (SZ r ta tb):=⟨aBT hr ha.p hb.p hs⟩
theorem kR:POw X none IE:=⟨po_none⟩
theorem kQ(h:iG X e te):POw X (some e) (YF te):=⟨VQ h.p⟩
theorem iZ{lo hi:Option Expr}{tl th:TO}{r:V->Option Int->Option Int->Hp->VK->Prop}(hr:SlR X r)(he:iG X e te)(hl:POw X lo tl)(hu:POw X hi th):iG X (.Subscript e (.Slice lo hi none p2) pos) (tSl r te tl th):=⟨PM hr he.p hl.p hu.p⟩
theorem bS(F:gM dP X.prog X.w X.K X.mg X.base k x ps sp)(hr:iH k X.A)(ha:HR X (e::es) t)(hg:Gl X x:=by rfl)
  (hdb:(x == ("__debug__" : Str))=false:=by decide) (he:starEach (e::es) X.env=(false,eval e X.env)::starEach es X.env:=by first | exact gP | exact fU | exact se_BoolOp | exact jE | exact se_UnaryOp | exact se_IfExp | exact se_Dict | exact fT | exact gL | exact gH | exact eK | exact dG | exact se_List | exact jD | exact se_JoinedStr | exact se_GeneratorExp)
  (hpl:(backTo pos (starEach es X.env)).any (·.1)=false:=by repeat (first | exact xV | refine tR (by first | exact gP | exact fU | exact se_BoolOp | exact jE | exact se_UnaryOp | exact se_IfExp | exact se_Dict | exact fT | exact gL | exact gH | exact eK | exact dG | exact se_List | exact jD | exact se_JoinedStr | exact se_GeneratorExp) ?_)) :
  iG X (.Call (.Name x p) (e::es) [] pos) (NP sp [] E0 t):=⟨aBU F hr ha.p hg hdb he hpl⟩
theorem eG(hc:jJ X (.builtin id) rl)(hg:Gl X x)(hm:X.mg x=none)(hv:bootBuiltins x=some (.builtin id))(ha:HR X (e::es) t)(hn:x ≠ "__name__" := by decide)(hdb:(x == ("__debug__" : Str))=false:=by decide)
  (he:starEach (e::es) X.env=(false,eval e X.env)::starEach es X.env:=by first | exact gP | exact fU | exact se_BoolOp | exact jE | exact se_UnaryOp | exact se_IfExp | exact se_Dict | exact fT | exact gL | exact gH | exact eK | exact dG | exact se_List | exact jD | exact se_JoinedStr | exact se_GeneratorExp) (hpl:(backTo pos (starEach es X.env)).any (·.1)=false:=by repeat (first | exact xV | refine tR (by first | exact gP | exact fU | exact se_BoolOp | exact jE | exact se_UnaryOp | exact se_IfExp | exact se_Dict | exact fT | exact gL | exact gH | exact eK | exact dG | exact se_List | exact jD | exact se_JoinedStr | exact se_GeneratorExp) ?_)):iG X (.Call (.Name x p) (e::es) [] pos) (tCB rl t) :=
 ⟨PR hc hg hm hv ha.p hn hdb he hpl⟩
theorem nB(hc:jJ X (.type T) rl)(hg:Gl X x)(hm:X.mg x=none)(hv:bootBuiltins x=some (.type T))(ha:HR X (e::es) t)(hn:x ≠ "__name__" := by decide)(hdb:(x == ("__debug__" : Str))=false:=by decide)
  (he:starEach (e::es) X.env=(false,eval e X.env)::starEach es X.env:=by first | exact gP | exact fU | exact se_BoolOp | exact jE | exact se_UnaryOp | exact se_IfExp | exact se_Dict | exact fT | exact gL | exact gH | exact eK | exact dG | exact se_List | exact jD | exact se_JoinedStr | exact se_GeneratorExp) (hpl:(backTo pos (starEach es X.env)).any (·.1)=false:=by repeat (first | exact xV | refine tR (by first | exact gP | exact fU | exact se_BoolOp | exact jE | exact se_UnaryOp | exact se_IfExp | exact se_Dict | exact fT | exact gL | exact gH | exact eK | exact dG | exact se_List | exact jD | exact se_JoinedStr | exact se_GeneratorExp) ?_)):iG X (.Call (.Name x p) (e::es) [] pos) (tCB rl t) :=
 ⟨LI hc hg hm hv ha.p hn hdb he hpl⟩
theorem pA{name:Str}{apos cpos:Pos}{r:V->List V->Hp->VK->Prop}(pa:PlainAttrs T)(slot:Slot T name id)(hty:typeOf (.builtin id)=pure (.type "method_descriptor"))(hm:MtR X id r)(ho:iG X o to)(ha:HR X (e::es) t)
  (hbase:attributeBase o name X.env (eval o X.env)=eval o X.env:=by rfl)
  (hfew:((backTo cpos (starEach (e::es) X.env)).all (λx=>!x.1)&&(backToKw cpos (keywordEach [] X.env)).all (λx=>x.1.isSome)
   && decide ((e::es).length+([]:List Keyword).length+(if ([]:List Keyword).isEmpty then 0 else 1)<30))=true:=by rfl)
  (hline:(apos.endLine == cpos.line)=true:=by rfl) (hs:starEach (e::es) X.env=(false,eval e X.env)::starEach es X.env:=by first | exact gP | exact fU | exact se_BoolOp | exact jE | exact se_UnaryOp | exact se_IfExp | exact se_Dict | exact fT | exact gL | exact gH | exact eK | exact dG | exact se_List | exact jD | exact se_JoinedStr | exact se_GeneratorExp) (hplain:(backTo cpos (starEach es X.env)).any (·.1)=false:=by repeat (first | exact xV | refine tR (by first | exact gP | exact fU | exact se_BoolOp | exact jE | exact se_UnaryOp | exact se_IfExp | exact se_Dict | exact fT | exact gL | exact gH | exact eK | exact dG | exact se_List | exact jD | exact se_JoinedStr | exact se_GeneratorExp) ?_)) :
  iG X (.Call (.Attribute o name apos) (e::es) [] cpos) (tBM X.K T r to t):=⟨aBV pa slot hty hm ho.p ha.p hbase hfew hline hs hplain⟩
theorem gC:yL X [] YG:=⟨pss_nil⟩
theorem aH(h1:FM X st ts)(h2:yL X sts us):yL X (st::sts) (aBr ts us):=⟨OZ h1.p h2.p⟩
theorem bD(h1:FM X st ts):yL X [st] ts:=⟨VN h1.p⟩
theorem jU(he:iG X e te)(hs:swapsWith e none pos.line X.env=pure false:=by rfl):FM X (.Expr e pos) (YJ te):=⟨VO he.p hs⟩
theorem cI(he:iG X e te):FM X (.Return (some e) pos) (aBs te):=⟨aAf he.p⟩
theorem kE{c:Expr}{a b:List Stmt}(hc:HN X c tA)(ha:yL X a ts)(hb:yL X b us):FM X (.If c a b pos) (aBw tA ts us):=⟨aBQ hc.p ha.p hb.p⟩
theorem wJ(h:FM X st ts):FM X st (aBz ts):=⟨aAj h.p⟩
theorem dF{i:Nat}{x:Str}(hN:X.N.Nodup)(hi:X.N[i]?=some x)(hx:Loc X.env.scope x)(hf:X.fn x=true\/X.env.scope.names.lookup x=some .local:=by first | exact .inl rfl | exact .inr rfl | assumption):ZE X (.Name x pos) (mW i):=⟨VU hN hi hx hf⟩
theorem sC:XW X [] aAK:=⟨pgs_nil⟩
theorem iY{t:TG}{u:SB}(h1:ZE X e t)(h2:XW X es u)
  (hs:(assignEach (e::es) X.env).map (·.2)=assign e X.env::(assignEach es X.env).map (·.2):=by rfl):XW X (e::es) (QO t u):=⟨PJ h1.p h2.p hs⟩
theorem wM{k:Nat}{t:SB}{n:Nat}(hc:X.calm=true)(h:XW X es t)
  (hn:(assignEach es X.env).length=n:=by rfl) (hst:(assignEach es X.env).findIdx? (·.1)=none:=by rfl):ZE X (.Tuple es k pos) (aAJ X.K n t):=⟨aAo hc h.p hn hst⟩
theorem ZK{i:Expr}{ti:TE}{t:XU}(ho:iG X o to)(hi:iG X i ti)(hs:aA7 X t)
  (ha:∀v,assign (.Subscript o i pos) X.env v=(do
   let ov <-holding [v] (eval o X.env)
   let iv <-holding [v,ov] (eval i X.env)
   standAt pos
   holding [v,ov,iv] (setItem ov iv v)
   release [v,ov,iv] []):=by intro _;rfl):ZE X (.Subscript o i pos) (aB7 to ti t):=⟨aAp ho.p hi.p hs ha⟩
theorem MW{g:TG}(he:iG X e te)(hg:ZE X tg g)(hs:swapsWithSole [tg] e pos.line X.env=pure false:=by rfl)(hw:swappedStores [tg] e X.env=pure none:=by rfl)(h1:(assignEach [tg] X.env).map (·.2)=[assign tg X.env]:=by rfl):FM X (.Assign [tg] e pos) (yE te g):=⟨aAk he.p hg.p hs hw h1⟩
theorem bK{i:Nat}{pos':Pos}(hN:X.N.Nodup)(hi:X.N[i]?=some x)(hx:Loc X.env.scope x)(he:iG X e te)(hs:swapsWith e (some (.Name x pos')) pos.line X.env=pure false:=by rfl)(hf:X.fn x=true\/X.env.scope.names.lookup x=some .local:=by first | exact .inl rfl | exact .inr rfl | assumption) :
  FM X (.Assign [.Name x pos'] e pos) (yE te (mW i)):=⟨aAe hN hi hx he.p hs hf⟩
theorem ZG{i j:Nat}{x y:Str}{ta:TA}{px py pt:Pos}{kt k2 pt2}(hc:X.calm=true)(hN:X.N.Nodup)(hi:X.N[i]?=some x)(hj:X.N[j]?=some y)(hij:i≠j)
  (hx:X.env.scope.names.lookup x=some .local) (hy:X.env.scope.names.lookup y=some .local) (ha:HR X [a,b] ta)
  (hw:swappedStores [.Tuple [.Name x px,.Name y py] kt pt] (.Tuple [a,b] k2 pt2) X.env=pure (some [x,y]))
  (hs:swapsWithSole [.Tuple [.Name x px,.Name y py] kt pt] (.Tuple [a,b] k2 pt2) pos.line X.env=pure false:=by rfl) :
  FM X (.Assign [.Tuple [.Name x px,.Name y py] kt pt] (.Tuple [a,b] k2 pt2) pos) (aBt i j ta):=⟨aAg hc hN hi hj hij hx hy ha.p hw hs⟩
theorem rZ{c:Expr}{tc:TT}{tb:TS}(hp:PassesOwn (model X.prog X.w) X.A X.env X.xe)(hc:HN X c tc)(hb:yL X body tb):FM X (.While c body [] pos) (AR (rF tc) tb):=⟨LF hp hc.p hb.p⟩
theorem fD{l:Expr}{tl:TE}(hl:iG X l tl):SC X tg l (YV X.K tl):=⟨VT hl.p⟩
theorem ZI{l:Expr}{tl:TE}(hl:iG X l tl):SC X tg l (aB6 X.K tl):=⟨aAn hl.p⟩
theorem cP{a:Expr}{ta:TA}{p pos:Pos}(hg:Gl X "range")(hm:X.mg "range" = none)(ha:HR X [a] ta)(hs:starEach [a] X.env=[(false,eval a X.env)]:=by first | exact gP | exact fU | exact se_BoolOp | exact jE | exact se_UnaryOp | exact se_IfExp | exact se_Dict | exact fT | exact gL | exact gH | exact eK | exact dG | exact se_List | exact jD | exact se_JoinedStr | exact se_GeneratorExp):SC X tg (.Call (.Name "range" p) [a] [] pos) (YU ta):=⟨LH hg hm ha.p hs⟩
theorem fF{iter:Expr}{wi:TI}{g:TG}{tb:TS}{pos:Pos}(hp:PassesOwn (model X.prog X.w) X.A X.env X.xe)(hc:X.calm=true)(hi:SC X tg iter wi)(hg:ZE X tg g)(hb:yL X body tb)
  (hs:∀x,foldedSetIterable iter X.env x=pure x:=by intro _;rfl):FM X (.For tg iter body [] pos) (aBx wi g tb):=⟨aAh hp hc hi.p hg.p hb.p hs⟩
end
theorem jT.okw{P:Program}{w:World}{K:PySem.W.Frag}{mg:Str->Option Value}{base:Heap}{x qual:Str}{st:Stmt}{f:Addr}{fd:FuncData}{N ps:List Str}{k:Nat}{sp:Sp}(F:jT K x qual st f fd)(S:cA N ps (aX st))(len:∀vs H Q E,sp vs H Q E->vs.length=ps.length)
  (hbody:∀(cdv:Value) (A:Around) (outer:List Env) (s:Shared) (H:Hp) (vs:List V) (Q:VK) (E:XK),iH k (A.deeper (envOfC qual (aX st) s.heap.objs.size f cdv))->sp vs H Q E ->
   ∃t,yL (EU dP P w K mg base N qual (aX st) f cdv A outer s H E).nox (nH st) t/\t { nx:=λ_ H'=>Q .non H',rt:=Q } (start N vs) H):dY P w K mg base dP (k+1) f fd ps sp :=
 F.ok S len λcdv A outer s H vs Q E hr h=>by
  obtain ⟨t,h1,h2⟩:=hbody cdv A outer s H vs Q E hr h;exact ⟨t,h1.p,h2⟩
theorem jT.oky{P:Program}{w:World}{K:PySem.W.Frag}{mg:Str->Option Value}{base:Heap}{x qual:Str}{st:Stmt}{f:Addr}{fd:FuncData}{N ps:List Str}{k:Nat}{sp:Sp}(F:jT K x qual st f fd)(S:cA N ps (aX st))
  (h:∀(vs:List V) (H:Hp) (Q:VK) (E:XK),sp vs H Q E->vs.length=ps.length/\∀(cdv:Value) (A:Around) (outer:List Env) (s:Shared),iH k (A.deeper (envOfC qual (aX st) s.heap.objs.size f cdv)) ->
   ∃t,yL (EU dP P w K mg base N qual (aX st) f cdv A outer s H E).nox (nH st) t/\t { nx:=λ_ H'=>Q .non H',rt:=Q } (start N vs) H):dY P w K mg base dP (k+1) f fd ps sp :=
 F.okw S (λvs H Q E q=>(h vs H Q E q).1) λcdv A outer s H vs Q E hr q=>(h vs H Q E q).2 cdv A outer s hr
theorem EN(a b:Int):Int.gcd b (a % b)=Int.gcd a b:=by
 have h:=Int.gcd_add_mul_right_right b (a % b) (a/b);rw [show a % b+a/b*b=a from by have:=Int.emod_add_mul_ediv a b;rw [Int.mul_comm];exact this] at h;rw [<-h,Int.gcd_comm]
theorem JB{a:Int}(h:0<a):(Int.gcd a 0:Int)=a:=by rw [Int.gcd_zero_right];omega
section
variable{H:Hp}{x:V}{d:PyData}{Q:VK}
end
theorem aW.len{H:Hp}:∀{ds:List PyData}{vs:List V},aW H ds vs->vs.length=ds.length
 | [],_,h=>by cases (show _=[] from h);rfl
 | d::ds,_,h=>by
  unfold aW at h;obtain ⟨x,xs,rfl,_,h2⟩:=h;simp [aW.len h2]
section
variable{p:Addr}{σ:St}{t:TE}{ta:TA}{d:PyData}{ds:List PyData}
end
theorem XS{α:Type}{xs:List α}{x:Int}(h0:0<=x)(h1:x<xs.length):∃v,yI xs x=some v/\v∈xs/\xs[x.toNat]?=some v:=by
 have h:x.toNat<xs.length:=Oo;have e:=aB h;have:=cT e;rw [Int.toNat_of_nonneg h0] at this;exact ⟨_,this,List.getElem_mem h,e⟩
theorem aW.append{H:Hp}{es:List PyData}{ws:List V}(h':aW H es ws):∀{ds:List PyData}{vs:List V},aW H ds vs->aW H (ds++es) (vs++ws)
 | [],_,h=>by cases (show _=[] from h);exact h'
 | d::ds,_,h=>by
  unfold aW at h;obtain ⟨x,xs,rfl,h1,h2⟩:=h;exact aW.cons h1 (aW.append h' h2)
end L2
namespace L2
end L2
namespace L2
open PySem PySem.Spec PyProof.Rows
theorem aY.thru{l:Addr}{H0 H1 H2:Hp}(hl:H0 l=none)(s:aY H0 H1)(b:aQ l H1 H2):aY H0 H2:=λc o e=>by
 have n:c≠l:=cY e hl;exact b.at n (s _ _ e)
theorem RK{H:Hp}{l b:Addr}{xs zs:List V}{Q:VK}(h1:H l=some (.lst xs))(h2:H b=some (.lst zs))(hz:xs.length+zs.length<=1000)(k:∀q H',H q=none->H' q=some (.lst (xs++zs))->aY H H'->Q (.ref q) H'):aBO (.ref l) (.ref b) H Q :=
 ⟨l,b,xs,zs,rfl,rfl,h1,h2,Nat.le_of_lt (uF hz),λq hq=>k q _ hq bM (aY.upd hq)⟩
@[irreducible] def VH:V->List V->Hp->VK->Prop:=IU
theorem qB{X:Cx}:MtR X "list.append" VH:=by unfold VH;exact qT
theorem FK{H:Hp}{l:Addr}{xs:List V}{y:V}{Q:VK}(h:H l=some (.lst xs))(hz:xs.length<=1000)(k:∀H',H' l=some (.lst (xs++[y]))->aQ l H H'->Q .non H'):VH (.ref l) [y] H Q:=by
 unfold VH;exact ⟨l,xs,y,rfl,rfl,h,uF hz,k _ bM aQ.self⟩
theorem MP{K:PySem.W.Frag}{H:Hp}{l:Addr}{xs:List V}(h:H l=some (.lst xs)):tyV K "list" (.ref l) H:=.inl ⟨rfl,xs,fN.of h⟩
def oG(env:Env):List (Str × NameKind)->List (Str × Addr)->List (Str × Addr)
 | [],cs=>cs
 | (n,k)::r,cs=>if k == .free then oG env r ((n,(env.cells.lookup n).getD 0)::cs) else oG env r cs
theorem JM(env:Env):∀(l:List (Str × NameKind)) (cs:List (Str × Addr)),(∀y∈l,y.2=.free->∃c,env.cells.lookup y.1=some c) ->
  (forIn l cs λ(x:Str × NameKind) r=>if x.2 == .free then (do let c <-cellOf env x.1;pure (ForInStep.yield ((x.1,c)::r)):Sem _) else pure (ForInStep.yield r))=pure (oG env l cs)
 | [],cs,_=>rfl
 | (n,k)::r,cs,h=>by
  rw [List.forIn_cons];have ih:=λcs=>JM env r cs λy hy=>h y (aR _ hy);by_cases hk:(k == NameKind.free)=true
  ·obtain ⟨c,hc⟩:=h (n,k) aU (by simpa using hk);dsimp only at hc;simp only [hk,if_true,oG,hc,Option.getD_some,cellOf,pure_bind];exact ih _
  ·simp only [hk,oG,pure_bind];exact ih _
theorem jG{env:Env}{scope:Scope}(h:∀y∈scope.names,y.2=.free->∃c,env.cells.lookup y.1=some c):closureFor scope env=pure (oG env scope.names []):=by
 have e:=JM env scope.names [] h;unfold closureFor;simp only [bind_pure];exact e
theorem uR{env:Env}:∀(l:List (Str × NameKind)) (cs:List (Str × Addr)),(∀y∈l,y.2=.free->∃c,env.cells.lookup y.1=some c)->∀p∈oG env l cs,p∈cs\/env.cells.lookup p.1=some p.2
 | [],cs,_,p,hp=>.inl hp
 | (n,k)::r,cs,h,p,hp=>by
  have h':∀y∈r,y.2=.free->∃c,env.cells.lookup y.1=some c:=λy hy=>h y (aR _ hy);unfold oG at hp;by_cases hk:(k == NameKind.free)=true
  ·rw [if_pos hk] at hp;obtain ⟨c,hc⟩:=h (n,k) aU (by simpa using hk);rcases uR r _ h' p hp with hm | hm
   ·rcases bC.mp hm with rfl | hm
    ·exact .inr (by dsimp only at hc ⊢;rw [hc];rfl)
    ·exact .inl hm
   ·exact .inr hm
  ·rw [if_neg hk] at hp;exact uR r cs h' p hp
theorem uT{env:Env}:∀(l:List (Str × NameKind)) (cs:List (Str × Addr)),∀p∈cs,p∈oG env l cs
 | [],_,_,hp=>hp
 | (n,k)::r,cs,p,hp=>by
  unfold oG;by_cases hk:(k == NameKind.free)=true
  ·rw [if_pos hk];exact uT r _ p (aR _ hp)
  ·rw [if_neg hk];exact uT r _ p hp
theorem uS{env:Env}:∀(l:List (Str × NameKind)) (cs:List (Str × Addr)) (y:Str),(y,NameKind.free)∈l->∃a,(y,a)∈oG env l cs
 | (n,k)::r,cs,y,hy=>by
  unfold oG;rcases bC.mp hy with e | hm
  ·cases e;rw [if_pos (by rfl)];exact ⟨_,uT r _ _ aU⟩
  ·by_cases hk:(k == NameKind.free)=true
   ·rw [if_pos hk];exact uS r _ y hm
   ·rw [if_neg hk];exact uS r _ y hm
theorem mT{α β:Type}[BEq α][LawfulBEq α]{x:α}{c:β}:∀{l:List (α × β)},l.lookup x=some c->(x,c)∈l
 | [],h=>by cases h
 | (a,b)::r,h=>by
  rw [List.lookup_cons] at h;by_cases e:(x == a)=true
  ·rw [e] at h;have:x=a:=by simpa using e
   subst this;cases h;exact aU
  ·have e':(x == a)=false:=by simpa using e
   rw [e'] at h;exact aR _ (mT h)
theorem mS{α β:Type}[BEq α][LawfulBEq α]{x:α}{c:β}:∀{l:List (α × β)},(x,c)∈l->∃c',l.lookup x=some c'
 | (a,b)::r,h=>by
  rw [List.lookup_cons];by_cases e:(x == a)=true
  ·rw [e];exact ⟨_,rfl⟩
  ·have e':(x == a)=false:=by simpa using e
   rw [e'];rcases bC.mp h with q | q
   ·cases q;simp at e
   ·exact mS q
def vR(X:Cx)(scope:Scope):List (Str × Addr):=oG X.env scope.names []
theorem fK{X:Cx}{scope:Scope}(h:∀y∈scope.names,y.2=.free->∃c,X.env.cells.lookup y.1=some c){x:Str}{c:Addr}(e:(vR X scope).lookup x=some c):X.env.cells.lookup x=some c:=by
 rcases uR scope.names [] h _ (mT e) with hm | hm
 ·cases hm
 ·exact hm
theorem kA{X:Cx}{scope:Scope}(h:∀y∈scope.names,y.2=.free->∃c,X.env.cells.lookup y.1=some c){x:Str}(hx:(x,NameKind.free)∈scope.names){c:Addr}(e:X.env.cells.lookup x=some c):(vR X scope).lookup x=some c:=by
 obtain ⟨a,ha⟩:=uS (env:=X.env) scope.names [] x hx;obtain ⟨c',hc'⟩:=mS ha;have:=fK h hc';rw [e] at this;cases this;exact hc'
def mB(X:Cx)(scope:Scope)(C:Addr)(fp:List Addr)(s₀:Shared)(H₀:Hp)(N':List Str):Cx where
 prog:=X.prog
 w:=X.w
 K:=X.K
 mg:=X.mg
 base:=X.base
 A:=X.A
 N:=N'
 s₀:=s₀
 H₀:=H₀
 env:=compEnvC scope (vR X scope) C X.env
 outer:=X.stack
 stack:=X.stack
 ex:=fp
 fn:=λ_=>false
 calm:=true
 pn:=[]
 xe:=λ_ _=>False
def slots(σ:St)(js:List Nat):St:=js.map λj=>(σ[j]?).getD none
def JY(X:Cx)(ifs:List Expr)(t:TT):Prop :=
 ∀(pins:List (Addr × Obj)) (s:Shared) (σ:St) (H:Hp) (Q:Bool->Hp->Prop),cF X pins σ H s->t σ H Q ->
  wpAny (model X.prog X.w) X.A (forIn ifs true λc r=>if r=true then do let ok <-isTrue c X.env (eval c X.env);pure (ForInStep.yield ok) else pure (ForInStep.yield r)) (TP X pins σ Q) X.xe s
def AO:TT:=λ_ H Q=>Q true H
theorem pts_nil{X:Cx}:JY X [] AO:=λpins s σ H Q I h=>wpAny_tests_nil ⟨H,I,h⟩
theorem VL{X:Cx}{c:Expr}{t:TT}(h:PT X c t):JY X [c] t:=λpins s σ H Q I q=>wpAny_tests_one (h pins s σ H Q I q)
def NO(wi:TI)(js:List Nat)(tc:TT)(te:TE):TE:=λσ H Q=>wi σ H λJ H1=>∀D,H1 D=none->∃W:Nat->Nat->List V->Hp->Prop,(∃m,W 0 m [] (upd H1 D (.lst []))) /\
 ∀i m ys H2,W i m ys H2->H2 D=some (.lst ys)/\((J.stop i H2/\Q (.ref D) H2)\/(J.go i H2/\ys.length<sizeLine/\∀x H3,J.yld i H2 x H3 ->
  tc (some x::slots σ js) H3 λb H4=>if b=true then te (some x::slots σ js) H4 λy H5=>H5 D=some (.lst ys)/\∃m',m' < m/\W (i+1) m' (ys++[y]) (upd H5 D (.lst (ys++[y])))
   else H4 D=some (.lst ys)/\∃m',m' < m/\W (i+1) m' ys H4))
structure dI(X:Cx)(scope:Scope)(x:Str)(N':List Str)(js:List Nat):Prop where
 calm:X.calm=true
 free:∀y∈scope.names,y.2=.free->X.env.kindOf y.1=some .cell
 cell:∀y∈scope.names,y.2 ≠ .cell
 kind:scope.kind=.function
 names:∀y∈scope.names,y.2=.local->scope.names.lookup y.1=some .local
 own:scope.names.lookup x=some .local
 nofl:∀y,(y,NameKind.free)∈scope.names->scope.names.lookup y=some .local->False
 len:N'.length=js.length+1
 zero:N'[0]?=some x
 nd:N'.Nodup
 slot:∀(i:Nat) (j:Nat),js[i]?=some j->∃y,N'[i+1]?=some y/\X.N[j]?=some y/\(y,NameKind.free)∈scope.names
section
variable{X:Cx}{pins:List (Addr × Obj)}{σ:St}{H:Hp}{s:Shared}{scope:Scope}{x:Str}{N':List Str}{js:List Nat}{fp:List Addr}
theorem dI.cells(S:dI X scope x N' js)(ok:X.Ok):∀y∈scope.names,y.2=.free->∃c,X.env.cells.lookup y.1=some c:=λy hy hf=>ok.has _ (.inl (S.free y hy hf))
theorem jF{env:Env}:∀{names:List (Str × NameKind)}{y:Str}{k:NameKind},(names.map λ(n,k)=>if (k == NameKind.free&&env.scope.kind == .function&&env.kindOf n == some .cell) then (n,NameKind.cell) else (n,k)).lookup y=some k ->
  (k=.cell\/k=.free)->(∀z∈names,z.2 ≠ .cell)->(y,NameKind.free)∈names
 | [],_,_,h,_,_=>by cases h
 | (n,q)::r,y,k,h,hk,hc=>by
  rw [bH,List.lookup_cons] at h;have ih:=λh=>@jF env r y k h hk λz hz=>hc z (aR _ hz);by_cases hq:(q == NameKind.free&&env.scope.kind == .function&&env.kindOf n == some .cell)=true
  ·dsimp only at h;rw [if_pos hq] at h;have qf:q=.free:=by
    rw [cM,cM] at hq;simpa using hq.1.1
   subst qf;by_cases e:(y == n)=true
   ·have:y=n:=by simpa using e
    subst this;exact aU
   ·have e':(y == n)=false:=by simpa using e
    dsimp only at h;rw [e'] at h;exact aR _ (ih h)
  ·dsimp only at h;rw [if_neg hq] at h;by_cases e:(y == n)=true
   ·have:y=n:=by simpa using e
    subst this;dsimp only at h;rw [e] at h;have hkq:k=q:=by injection h with h;exact h.symm
    subst hkq;rcases hk with rfl | rfl
    ·exact absurd rfl (hc _ aU)
    ·exact aU
   ·have e':(y == n)=false:=by simpa using e
    dsimp only at h;rw [e'] at h;exact aR _ (ih h)
theorem aAS(S:dI X scope x N' js)(I:cF X pins σ H s)(hf:∀b∈fp,iX X pins H b)(hb:∀b∈fp,b<s.heap.objs.size):(mB X scope s.heap.objs.size fp s H N').Ok where
 mod:=I.ok.mod
 kind:=S.kind
 glob:=I.ok.glob
 blt:=I.ok.blt
 above:=aI _
 inj:=λy z c h1 h2=>I.ok.inj y z c (fK (S.cells I.ok) h1) (fK (S.cells I.ok) h2)
 has:=λy hy=>by
  have hm:(y,NameKind.free)∈scope.names:=by
   rcases hy with hy | hy
   ·exact jF (env:=X.env) hy (.inl rfl) S.cell
   ·exact jF (env:=X.env) hy (.inr rfl) S.cell
  obtain ⟨c,hc⟩:=S.cells I.ok _ hm rfl;exact ⟨c,kA (S.cells I.ok) hm hc⟩
 cab:=λ_ _ h=>by cases h
 hd:=λ_=>I.ok.hd S.calm
 frames:=I.ok.frames
 stk:=.inl rfl
 exf:=λb hb'=>⟨λe=>by have:=hb b hb';rw [e] at this;exact bI _ this,λy c h=>(hf b hb').2.2.2.2.1 y c (fK (S.cells I.ok) h)⟩
 bs:=I.bs
 bsz:=aK I.ok.bsz I.sz
 noex:=λb o e hb'=>by
  rcases (hf b hb').2.2.2.1 with h | h
  ·exact I.ok.noex b o e h
  ·exact absurd (aO (aT e) (aK I.ok.bsz h)) (bI _)
 exfs:=λb hb' hs=>by
  have h2:=I.stkSub b hs;rcases bC.mp h2 with h2 | h2
  ·exact (hf b hb').2.1 h2
  ·exact (hf b hb').2.2.1 h2
 funs:=I.stack
 frf:=I.stkFree
theorem uG{i j:Nat}(h:js[i]?=some j):(slots σ js)[i]?=some ((σ[j]?).getD none):=by
 unfold slots;rw [aM,h];rfl
theorem WX{h':Heap}{tk:Nat}(S:dI X scope x N' js)(I:cF X pins σ H s)(hf:∀b∈fp,iX X pins H b)(hb:∀b∈fp,b<s.heap.objs.size)
  (hn:h'.Ns s.heap.objs.size (λ_=>none)) (hk:∀b o,s.heap.get? b=some o->h'.get? b=some o):cF (mB X scope s.heap.objs.size fp s H N') [] (none::slots σ js) H { s with heap:=h',toks:=tk } where
 ok:=aAS S I hf hb
 os:=rfl
 bare:=I.bare
 base:=Un.kept hk
 loc:=by
  refine ⟨_,hn,λi y v hi hv hvis=>?_⟩;cases i with
  | zero=>cases hv
  | succ i =>
   have hv':(slots σ js)[i]?=some (some v):=hv;have hlt:i<js.length:=by
    have:=(aF.mp hv').1;unfold slots at this
    rwa [aA] at this
   have hj:js[i]?=some js[i]:=aB hlt;obtain ⟨z,h1,h2,h3⟩:=S.slot i _ hj;have hzy:z=y:=by
    have:N'[i+1]?=some y:=hi;rw [h1] at this;cases this;rfl
   subst hzy;rw [uG hj] at hv';have hσ:σ[js[i]]?=some (some v):=by
    cases q:σ[js[i]]? with
    | none=>rw [q] at hv';cases hv'
    | some o=>rw [q] at hv';cases hv';rfl
   have hkc:X.env.kindOf z=some .cell:=S.free _ h3 rfl;obtain ⟨m,hm,hl⟩:=I.loc;obtain ⟨u,ru,lk⟩:=hl _ z v h2 hσ (.inr (.inl hkc));rcases lk with ⟨hk1,_⟩ | ⟨_,c,hc,hcell⟩
   ·rw [hkc] at hk1;cases hk1
   ·refine ⟨u,ru,.inr ⟨?_,c,kA (S.cells I.ok) h3 hc,?_⟩⟩
    ·rcases hvis with hvis | hvis | hvis
     ·exfalso;have hcl:=kA (S.cells I.ok) h3 hc;have hm2:=mT (l:=(relabel scope X.env).names) hvis;unfold relabel at hm2;obtain ⟨⟨n,k⟩,hmem,he⟩:=aV.mp hm2;dsimp only at he;by_cases hq:(k == NameKind.free&&X.env.scope.kind == .function&&X.env.kindOf n == some .cell)=true
      ·rw [if_pos hq] at he;cases he
      ·rw [if_neg hq] at he;cases he;have:=S.names _ hmem rfl;have l2:=mS h3;obtain ⟨c',l2⟩:=l2;dsimp only at this;rw [this] at l2;have key:(relabel scope X.env).names.lookup z=some .local:=lookup_relabel_local this;have hck:scope.names.lookup z=some .local:=this;exact S.nofl z h3 hck
     ·exact .inl hvis
     ·exact .inr hvis
    ·obtain ⟨o,e,r⟩:=hcell;exact ⟨o,hk _ _ e,r⟩
 cell:=λy c h=>by
  obtain ⟨v,o,e,r⟩:=I.cell y c (fK (S.cells I.ok) h);exact ⟨v,o,hk _ _ e,r⟩
 free:=I.hok.fresh (aI _)
 freeC:=λy c h=>I.freeC y c (fK (S.cells I.ok) h)
 pin:=λp hp=>by cases hp
 hok:=I.hok.kept hk
 len:=by
  show (slots σ js).length+1=N'.length;unfold slots;rw [aA,S.len]
theorem pF.but{P:Program}{w:World}{H:Hp}{h h':Heap}{C:Addr}(x:pF P w H h)(hC:H C=none)(k:∀b u,b≠C->h.get? b=some u->h'.get? b=some u):pF P w H h':=λa o e =>
 (x a o e).stay (λb u hb q=>k b u (by
  rcases hb with rfl | hb
  ·exact cY e hC
  ·exact cY hb hC) q) (λ_ q=>q) λ_ _ q=>q
theorem EV{H2:Hp}{σ':St}{s2:Shared}{h'':Heap}(S:dI X scope x N' js)(I:cF X pins σ H s)(hf:∀b∈fp,iX X pins H b)
  (J:cF (mB X scope s.heap.objs.size fp s H N') [] σ' H2 s2) (hs:Heap.SameBut s.heap.objs.size s2.heap h''):cF X pins σ H2 { s2 with heap:=h'' }:=by
 have hC:H2 s.heap.objs.size=none:=J.free;have ne:∀{b:Addr} {o:Obj},s.heap.get? b=some o->b≠s.heap.objs.size:=λe q=>by
  have:=aT e;rw [q] at this;exact bI _ this
 refine I.call' (s':={ s2 with heap:=h'' }) (ch:=fp) (by rw [show ({ s2 with heap:=h'' }:Shared).os=s2.os from rfl];exact J.os) ?_ (J.hok.but hC λb u hb q=>hs.extBut b u hb q) J.bare λb hb=>⟨(hf b hb).2.2.2.1,(hf b hb).2.1,(hf b hb).2.2.2.2.1,(hf b hb).2.2.2.2.2⟩;have U:=J.base;exact {
  keep:=λb o e n h1 h2=>hs.extBut b o (ne e) (U.keep b o e n h1 h2)
  slot:=λb o e n h1 h2=>by
   obtain ⟨sl,q⟩:=U.slot b o e n h1 h2;exact ⟨sl,hs.extBut b _ (ne e) q⟩
  free:=U.free
  there:=λb o e h2=>by
   obtain ⟨o',q⟩:=U.there b o e h2;exact ⟨o',hs.extBut b _ (ne e) q⟩
  tups:=U.tups
  frzs:=U.frzs
  tbls:=U.tbls }
end
abbrev MT:Value->Shared->Prop:=λ_ _=>False
theorem oZ{prog:Program}{w:World}{A:Around}{R:Result->Shared->Prop}{s:Shared}{elt target iter:Expr}{ifs:List Expr}{scope:Scope}{pos:Pos}{it acc:Value}{env:Env}(I:Nat->Shared->Prop)
  (turn:∀n s,I n s->wpAny (model prog w) A (pyNext it) (λr s₁=>match r with
   | none=>R (.ok .next) s₁
   | some v=>wpAny (model prog w) A (letOwnedTupleGo target it v) (λ_ s₁'=>wpAny (model prog w) A (assign target env v) (λ_ s₂ =>
     wpAny (model prog w) A (forIn ifs true λc r=>if r=true then do let ok <-isTrue c env (eval c env);pure (ForInStep.yield ok) else pure (ForInStep.yield r)) (λok s₃ =>
      if ok=true then wpAny (model prog w) A (eval elt env) (λx s₄=>wpAny (model prog w) A (call (.builtin "list.append") [acc,x]) (λ_ s₅=>∃m,m<n/\I m s₅) MT s₄) MT s₃
      else ∃m,m<n/\I m s₃) MT s₂) MT s₁') MT s₁) MT s)
  (n:Nat) (h:I n s):codeAny (model prog w) A (.compLoop (.ListComp elt [⟨target,iter,ifs,0⟩] scope pos) 0 it acc env) R s:=by
 refine codeAny_loop rfl I (λn s hI=>?_) n h;show wpAny _ A ((compTurn (.ListComp elt [⟨target,iter,ifs,0⟩] scope pos) 0 it acc env).onRaise (λx=>do noteFrame x env;theTreesLotGoes x)) _ _ s;refine wpAny_noted ?_;rw [compTurn_list];refine wpAny_bind (wpAny_standAt (wpAny_bind (wpAny_mono (turn n s hI) (λr s₁ h₁=>?_) λ_ _ h'=>h'.elim)));cases r with
 | none=>exact wpAny_pure h₁
 | some v =>
  refine wpAny_bind (wpAny_mono h₁ (λ_ s₁' h₁'=>?_) λ_ _ h'=>h'.elim);refine wpAny_bind (wpAny_mono h₁' (λ_ s₂ h₂=>wpAny_bind (wpAny_mono h₂ (λok s₃ h₃=>?_) λ_ _ h'=>h'.elim)) λ_ _ h'=>h'.elim);cases ok with
  | false=>exact wpAny_pure ⟨rfl,h₃⟩
  | true =>
   exact wpAny_bind (wpAny_bind (wpAny_mono h₃ (λx s₄ h₄=>wpAny_bind (wpAny_mono h₄ (λ_ s₅ h₅=>wpAny_pure (wpAny_pure ⟨rfl,h₅⟩)) λ_ _ h'=>h'.elim)) λ_ _ h'=>h'.elim))
section
variable{X:Cx}{pins:List (Addr × Obj)}{σ:St}{H:Hp}{s:Shared}{scope:Scope}{x:Str}{N':List Str}{js:List Nat}{fp:List Addr}{elt iter:Expr}{px pos:Pos}{ifs:List Expr}{tc:TT}{te:TE}
theorem xS{J:It}{it:Addr}{tn:Nat->Heap->Prop}{RR:Value->Addr->Result->Shared->Prop}{E:Value->Shared->Prop}{Q:VK}
  (S:dI X scope x N' js) (I:cF X pins σ H s) (T:CN X.prog X.w X.K (.Name x px) J fp it tn) (h0:tn 0 s.heap) (hf:∀b∈fp,iX X pins H b)
  (ht:∀C fp s₀ H₀,JY (mB X scope C fp s₀ H₀ N') ifs tc) (he:∀C fp s₀ H₀,PE (mB X scope C fp s₀ H₀ N') elt te)
  (R:∀D,H D=none->∃W:Nat->Nat->List V->Hp->Prop,(∃m,W 0 m [] (upd H D (.lst []))) /\
   ∀i m ys H2,W i m ys H2->H2 D=some (.lst ys)/\((J.stop i H2/\Q (.ref D) H2)\/(J.go i H2/\ys.length<sizeLine/\∀x H3,J.yld i H2 x H3 ->
    tc (some x::slots σ js) H3 λb H4=>if b=true then te (some x::slots σ js) H4 λy H5=>H5 D=some (.lst ys)/\∃m',m' < m/\W (i+1) m' (ys++[y]) (upd H5 D (.lst (ys++[y])))
     else H4 D=some (.lst ys)/\∃m',m' < m/\W (i+1) m' ys H4)))
  (hRR:∀(D:Addr) (H3:Hp) (s3:Shared) (σ':St) (H':Hp) (s':Shared),cF X pins σ H3 s3->(∀b∈fp,iX X pins H3 b)->cF (mB X scope s3.heap.objs.size fp s3 H3 N') [] σ' H' s'->Q (.ref D) H'->RR (.ref D) s3.heap.objs.size (.ok .next) s') :
  wpAny (model X.prog X.w) X.A (newList []) (λacc s₃=>wpAny (model X.prog X.w) X.A (newFunctionEnv scope X.env.globals (vR X scope) [] X.env.qual none .none (some X.env)) (λcenv s₄ =>
   codeAny (model X.prog X.w) X.A (.compStart (.ListComp elt [⟨.Name x px,iter,ifs,0⟩] scope pos) 0 (.ref it) acc { cenv with scope:=relabel scope X.env }) (RR acc cenv.locals) s₄) E s₃) E s:=by
 have hb:∀b∈fp,b<s.heap.objs.size:=λb hb=>by
  obtain ⟨o,e,_⟩:=T.obj 0 _ h0 b hb;exact aT e
 refine wpAny_newObj_type (wpAny_newFunctionEnv S.cell (by intro y hy;simp at hy) (λh₁ hns₁ hsb₁=>?_) S.kind);have hDn:H s.heap.objs.size=none:=I.hok.fresh (aI _);obtain ⟨W,⟨m0,hw0⟩,hW⟩:=R _ hDn;have I3:cF X pins σ (upd H s.heap.objs.size (.lst [])) { s with heap:=s.heap.push { cls:=.type "list",dict:=none,data:=.seq ([]:List Value).toArray } }:=I.lnew (its:=[]) (ys:=[]) (t':=s.toks) .nil (cE _);have hf3:∀b∈fp,iX X pins (upd H s.heap.objs.size (.lst [])) b:=λb hb' =>
  ⟨by rw [cX (λe=>by have:=hb b hb';rw [e] at this;exact bI _ this)];exact (hf b hb').1,(hf b hb').2⟩
 have hb3:∀b∈fp,b<(s.heap.push { cls:=.type "list",dict:=none,data:=.seq ([]:List Value).toArray }).objs.size:=λb hb'=>by
  rw [fC];exact Nat.lt_succ_of_lt (hb b hb')
 have hkeep:∀b o,(s.heap.push { cls:=.type "list",dict:=none,data:=.seq ([]:List Value).toArray }).get? b=some o->h₁.get? b=some o:=λb o e =>
  hsb₁.extBut b o (λq=>by have:=aT e;rw [q] at this;exact bI _ this) (aC _ e)
 have J4:=WX (h':=h₁) (tk:=s.toks+([]:List (Str × Value)).length) S I3 hf3 hb3 hns₁ hkeep;have t4:tn 0 h₁:=T.keep 0 _ _ h0 λb hb' o e=>hkeep b o (aC _ e);have loop:codeAny (model X.prog X.w) X.A (.compLoop (.ListComp elt [⟨.Name x px,iter,ifs,0⟩] scope pos) 0 (.ref it) (.ref s.heap.objs.size) (compEnvC scope (vR X scope) (s.heap.push { cls:=.type "list",dict:=none,data:=.seq ([]:List Value).toArray }).objs.size X.env))
   (RR (.ref s.heap.objs.size) (s.heap.push { cls:=.type "list",dict:=none,data:=.seq ([]:List Value).toArray }).objs.size) { s with heap:=h₁,toks:=s.toks+([]:List (Str × Value)).length }:=by
  refine oZ (λn s'=>∃(i:Nat) (ys:List V) (H2:Hp) (o:Option V),cF (mB X scope _ fp _ _ N') [] (o::slots σ js) H2 s'/\tn i s'.heap/\(∀b∈fp,H2 b=none)/\W i n ys H2) ?_ m0 ⟨0,[],_,none,J4,t4,λb hb'=>(hf3 b hb').1,hw0⟩;rintro n s' ⟨i,ys,H2,o,J2,t2,f2,w2⟩;obtain ⟨hD,hcase⟩:=hW i n ys H2 w2;have Fp:∀b∈fp,iX (mB X scope (s.heap.push { cls:=.type "list",dict:=none,data:=.seq ([]:List Value).toArray }).objs.size fp { s with heap:=s.heap.push { cls:=.type "list",dict:=none,data:=.seq ([]:List Value).toArray } } (upd H s.heap.objs.size (.lst [])) N') [] H2 b:=λb hb' =>
   ⟨f2 b hb',(J2.ok.exf b hb').1,J2.ok.exfs b hb',.inl hb',(J2.ok.exf b hb').2,λp hp=>by cases hp⟩
  rcases hcase with ⟨hstop,hq⟩ | ⟨hgo,hz,hturn⟩
  ·refine wpAny_mono (T.done (mB X scope _ fp _ _ N') rfl rfl rfl rfl i [] s' _ H2 MT J2 Fp t2 hstop) (λr s1 ⟨hr,J5⟩=>?_) λ_ _ f=>f;subst hr;exact hRR _ _ _ _ _ _ I3 hf3 J5 hq
  ·refine wpAny_mono (T.item (mB X scope _ fp _ _ N') rfl rfl rfl rfl i [] s' _ H2 MT J2 Fp t2 hgo) (λr s1 ⟨u,hr,hx⟩=>?_) λ_ _ f=>f;subst hr;refine wpAny_mono hx (λ_ s2 ⟨v,H3,J3,rv,hy,t3,f3⟩=>?_) λ_ _ f=>f;have Fp3:∀b∈fp,iX (mB X scope (s.heap.push { cls:=.type "list",dict:=none,data:=.seq ([]:List Value).toArray }).objs.size fp { s with heap:=s.heap.push { cls:=.type "list",dict:=none,data:=.seq ([]:List Value).toArray } } (upd H s.heap.objs.size (.lst [])) N') [] H3 b:=λb hb' =>
    ⟨f3 b hb',(J3.ok.exf b hb').1,J3.ok.exfs b hb',.inl hb',(J3.ok.exf b hb').2,λp hp=>by cases hp⟩
   have P3:=J3.pinned Fp3 (T.obj (i+1) _ t3);have keepT:∀{σ':St} {Hx:Hp} {sx:Shared},cF (mB X scope (s.heap.push { cls:=.type "list",dict:=none,data:=.seq ([]:List Value).toArray }).objs.size fp { s with heap:=s.heap.push { cls:=.type "list",dict:=none,data:=.seq ([]:List Value).toArray } } (upd H s.heap.objs.size (.lst [])) N') ([]++rQ fp s2.heap) σ' Hx sx->tn (i+1) sx.heap/\∀b∈fp,Hx b=none:=λJx =>
    ⟨T.keep (i+1) _ _ t3 λb hb' ob e=>(Jx.pin (b,ob) (aN _ (aN _ (iN hb' e)))).1,λb hb'=>by
     obtain ⟨ob,e,_⟩:=T.obj (i+1) _ t3 b hb';exact (Jx.pin (b,ob) (aN _ (aN _ (iN hb' e)))).2.1⟩
   refine wpAny_assign_Name (nT P3 (i:=0) (x:=x) (v:=v) ?nd ?hi ?hx rv (λs5 J5=>?_) ?hfn)
   case nd=>exact S.nd
   case hi=>exact S.zero
   case hx=>exact .inl (lookup_relabel_local S.own)
   case hfn=>exact .inr (lookup_relabel_local S.own)
   have J5':cF _ _ (some v::slots σ js) H3 s5:=J5;refine wpAny_mono (ht _ _ _ _ _ _ _ _ _ J5' (hturn v H3 hy)) (λok s6 ⟨H6,J6,q6⟩=>?_) λ_ _ f=>f;dsimp only at q6;by_cases hok:ok=true
   ·rw [if_pos hok] at q6 ⊢;refine wpAny_mono (he _ _ _ _ _ _ _ _ _ J6 q6) (λy s7 ⟨w',H7,J7,r7,hD7,m',hm',w7⟩=>?_) λ_ _ f=>f;refine wpAny_mono (qT (X:=mB X scope _ fp _ _ N') _ _ _ _ (.ref s.heap.objs.size) [w'] (.ref s.heap.objs.size) [y] (λ_ H8=>H8=upd H7 s.heap.objs.size (.lst (ys++[w']))) J7 rfl (.cons r7 .nil) ⟨_,_,_,rfl,rfl,hD7,hz,rfl⟩) (λ_ s8 ⟨_,H8,J8,_,e8⟩=>?_) λ_ _ f=>f;subst e8;obtain ⟨k1,k2⟩:=keepT J8;exact ⟨m',hm',i+1,ys++[w'],_,some v,J8.unpinned,k1,k2,w7⟩
   ·rw [if_neg hok] at q6 ⊢;obtain ⟨_,m',hm',w7⟩:=q6;obtain ⟨k1,k2⟩:=keepT J6;exact ⟨m',hm',i+1,ys,_,some v,J6.unpinned,k1,k2,w7⟩
 refine codeAny_compStart_list loop (T.self X.A 0 _ _ _ t4 loop)
theorem WA{wi:TI}(S:dI X scope x N' js)(hi:PI X (.Name x px) iter wi)(ht:∀C fp s₀ H₀,JY (mB X scope C fp s₀ H₀ N') ifs tc)(he:∀C fp s₀ H₀,PE (mB X scope C fp s₀ H₀ N') elt te)
  (hs:∀x,foldedSetIterable iter X.env x=pure x:=by intro _;rfl):PE X (.ListComp elt [⟨.Name x px,iter,ifs,0⟩] scope pos) (NO wi js tc te):=by
 intro pins s σ H Q I h;rw [eval_ListComp];refine wpAny_comprehension_free (use:=none) rfl hs (jG (S.cells I.ok)) S.kind S.names (wpAny_mono (hi pins s σ H _ I h) (λv s1 h1=>?_) λ_ _ e=>e);refine wpAny_mono h1 (λitv s2 ⟨it,fp,tn,J,H2,e,I2,T,t0,hf,R⟩=>?_) λ_ _ e=>e;subst e;refine xS S I2 T t0 hf ht he R ?_;intro D H3 s3 σ' H' s' I3 hf3 J3 q;obtain ⟨m,hm,_⟩:=J3.loc;exact ⟨m,hm,λh' hs'=>⟨.ref D,H',EV S I3 hf3 J3 hs',rfl,q⟩⟩
theorem GR{wi:TI}{y:Str}{py spos:Pos}{i:Nat}(S:dI X scope x N' js)(hN:X.N.Nodup)(hiN:X.N[i]?=some y)(hy:X.env.kindOf y=some .local)(hi:PI X (.Name x px) iter wi)(ht:∀C fp s₀ H₀,JY (mB X scope C fp s₀ H₀ N') ifs tc)(he:∀C fp s₀ H₀,PE (mB X scope C fp s₀ H₀ N') elt te)
  (hsw:swapsWith (.ListComp elt [⟨.Name x px,iter,ifs,0⟩] scope pos) (some (.Name y py)) spos.line X.env=pure true) (hs:∀x,foldedSetIterable iter X.env x=pure x:=by intro _;rfl) :
  PS X (.Assign [.Name y py] (.ListComp elt [⟨.Name x px,iter,ifs,0⟩] scope pos) spos) (yE (NO wi js tc te) (mW i)):=by
 intro pins s σ H D0 I h;rw [exec_Assign_Name_used _ _ _ _ hsw];refine wpAny_bind (wpAny_standAt (wpAny_bind ?_));show wpAny _ X.A (do let _ <-comprehension (.ListComp elt [⟨.Name x px,iter,ifs,0⟩] scope pos) scope X.env _ (newList []) false (eval iter X.env) (some (assign (.Name y py) X.env))) _ _ s;refine wpAny_bind (wpAny_mono (wpAny_comprehension_free (use:=some (assign (.Name y py) X.env)) (Q:=λ_ s'=>SP X pins D0 .next s') rfl hs (jG (S.cells I.ok)) S.kind S.names (wpAny_mono (hi pins s σ H _ I h) (λv s1 h1=>?_) λ_ _ e=>e)) (λ_ s' hq=>wpAny_pure (wpAny_pure hq)) λ_ _ e=>e);refine wpAny_mono h1 (λitv s2 ⟨it,fp,tn,J,H2,e,I2,T,t0,hf,R⟩=>?_) λ_ _ e=>e;subst e;refine xS (Q:=λv H'=>mW i v σ H' D0.nx) S I2 T t0 hf ht he R ?_;intro D H3 s3 σ' H' s' I3 hf3 J3 q;obtain ⟨m,hm,_⟩:=J3.loc;have IX:cF X pins σ H' s':=EV S I3 hf3 J3 (Heap.SameBut.refl ..);have hCL:s3.heap.objs.size≠X.env.locals:=λe=>by have:=I3.lt;rw [e] at this;exact bI _ this
 show wpAny _ X.A (assign (.Name y py) X.env (.ref D)) _ _ _;refine wpAny_assign_Name (qQ IX hN hiN (.inl hy) (v:=.ref D) rfl (λs5 I5 hsb=>?_) (.inr hy));obtain ⟨a,hsb,ha⟩:=hsb;have hCa:s3.heap.objs.size≠a:=by
  rcases ha with rfl | ha
  ·exact hCL
  ·intro e;obtain ⟨v,o,eo,_⟩:=I3.cell y a ha;have:=aT eo;rw [<-e] at this;exact bI _ this
 refine ⟨m,hm.sameBut hsb hCa,λh' hs'=>⟨_,H',?_,q⟩⟩;exact I5.turned (it:=s3.heap.objs.size) (t':=s5.toks) (λb o n e=>hs'.extBut b o n e) J3.free hCL (.inr I3.sz)
  (λz c hz e=>by
   obtain ⟨v,o,eo,_⟩:=I3.cell z c hz;have:=aT eo;rw [e] at this;exact bI _ this)
  (λp hp e=>by
   have:=aT (I3.pin p hp).1;rw [e] at this;exact bI _ this)
end
structure HP(X:Cx)(ifs:List Expr)(t:TT):Prop where p:JY X ifs t
def wP(t:TE):TE:=λσ H Q=>∃Q':VK,t σ H Q'/\∀v H1,Q' v H1->Q v H1
theorem PE.mono{X:Cx}{e:Expr}{t:TE}(h:PE X e t):PE X e (wP t):=λpins s σ H Q I ⟨Q',h1,h2⟩ =>
 thn (h pins s σ H Q' I h1) λb s' ⟨v,H',I',r,q⟩=>⟨v,H',I',r,h2 _ _ q⟩
theorem JY.mono{X:Cx}{es:List Expr}{t:TT}(h:JY X es t):JY X es (rF t):=λpins s σ H Q I ⟨Q',h1,h2⟩ =>
 thn (h pins s σ H Q' I h1) λb s' ⟨H',I',q⟩=>⟨H',I',h2 _ _ q⟩
@[irreducible] def lE(J:It)(σ:St)(js:List Nat)(tc:TT)(te:TE)(H1:Hp)(Q:VK):Prop:=∀D,H1 D=none->∃W:Nat->Nat->List V->Hp->Prop,(∃m,W 0 m [] (upd H1 D (.lst []))) /\
 ∀i m ys H2,W i m ys H2->H2 D=some (.lst ys)/\((J.stop i H2/\Q (.ref D) H2)\/(J.go i H2/\ys.length<sizeLine/\∀x H3,J.yld i H2 x H3 ->
  rF tc (some x::slots σ js) H3 λb H4=>if b=true then wP te (some x::slots σ js) H4 λy H5=>H5 D=some (.lst ys)/\∃m',m' < m/\W (i+1) m' (ys++[y]) (upd H5 D (.lst (ys++[y])))
   else H4 D=some (.lst ys)/\∃m',m' < m/\W (i+1) m' ys H4))
def uB(wi:TI)(js:List Nat)(tc:TT)(te:TE):TE:=λσ H Q=>wi σ H λJ H1=>lE J σ js tc te H1 Q
section
variable{X:Cx}{scope:Scope}{x y:Str}{N':List Str}{js:List Nat}{elt iter c:Expr}{px py pos spos:Pos}{ifs:List Expr}{tc:TT}{te:TE}{wi:TI}{i:Nat}
theorem dR:HP X [] AO:=⟨pts_nil⟩
theorem AH{t:TT}(h:HN X c t):HP X [c] t:=⟨VL h.p⟩
theorem fR(S:dI X scope x N' js)(hi:SC X (.Name x px) iter wi)(ht:∀C fp s₀ H₀,HP (mB X scope C fp s₀ H₀ N') ifs tc)(he:∀C fp s₀ H₀,iG (mB X scope C fp s₀ H₀ N') elt te)
  (hs:∀x,foldedSetIterable iter X.env x=pure x:=by intro _;rfl):iG X (.ListComp elt [⟨.Name x px,iter,ifs,0⟩] scope pos) (uB wi js tc te) :=
 ⟨by unfold uB lE;exact WA S hi.p (λC fp s₀ H₀=>(ht C fp s₀ H₀).p.mono) (λC fp s₀ H₀=>(he C fp s₀ H₀).p.mono) hs⟩
theorem gZ(S:dI X scope x N' js)(hN:X.N.Nodup)(hiN:X.N[i]?=some y)(hy:X.env.kindOf y=some .local)(hi:SC X (.Name x px) iter wi)(ht:∀C fp s₀ H₀,HP (mB X scope C fp s₀ H₀ N') ifs tc)(he:∀C fp s₀ H₀,iG (mB X scope C fp s₀ H₀ N') elt te)
  (hsw:swapsWith (.ListComp elt [⟨.Name x px,iter,ifs,0⟩] scope pos) (some (.Name y py)) spos.line X.env=pure true:=by rfl) (hs:∀x,foldedSetIterable iter X.env x=pure x:=by intro _;rfl) :
  FM X (.Assign [.Name y py] (.ListComp elt [⟨.Name x px,iter,ifs,0⟩] scope pos) spos) (yE (uB wi js tc te) (mW i)) :=
 ⟨by unfold uB lE;exact GR S hN hiN hy hi.p (λC fp s₀ H₀=>(ht C fp s₀ H₀).p.mono) (λC fp s₀ H₀=>(he C fp s₀ H₀).p.mono) hsw hs⟩
end
def ZA(psc scope:Scope)(N:List Str)(x:Str)(N':List Str)(js:List Nat):Bool :=
 (scope.names.all λy=>!(y.2 == .free) || psc.names.lookup y.1 == some .cell)&&(scope.names.all λy=>!(y.2 == .cell))&&scope.kind == .function &&
 (scope.names.all λy=>!(y.2 == .local) || scope.names.lookup y.1 == some .local)&&scope.names.lookup x == some .local &&
 (scope.names.all λy=>!(y.2 == .free) || !(scope.names.lookup y.1 == some .local))&&N'.length == js.length+1&&N'[0]? == some x&&decide N'.Nodup &&
 ((List.range js.length).all λi=>match js[i]?,N'[i+1]? with
  | some j,some y=>N[j]? == some y&&scope.names.contains (y,NameKind.free)
  | _,_=>false)
theorem dI.of{X:Cx}{psc scope:Scope}{N:List Str}{x:Str}{N':List Str}{js:List Nat}(h:ZA psc scope N x N' js=true)(hX:X.env.scope=psc)(hN:X.N=N)(hc:X.calm=true):dI X scope x N' js:=by
 unfold ZA at h;simp only [cM] at h;obtain ⟨⟨⟨⟨⟨⟨⟨⟨⟨h1,h2⟩,h3⟩,h4⟩,h5⟩,h6⟩,h7⟩,h8⟩,h9⟩,h10⟩:=h;rw [List.all_eq_true] at h1 h2 h4 h6 h10;refine ⟨hc,λy hy e=>?_,λy hy e=>?_,by simpa using h3,λy hy e=>?_,by simpa using h5,λy hy e=>?_,by simpa using h7,by simpa using h8,of_decide_eq_true h9,λi j hj=>?_⟩
 ·have:=h1 y hy;rw [e] at this;show X.env.scope.names.lookup y.1=_;rw [hX];simpa using this
 ·have:=h2 y hy;rw [e] at this;simp at this
 ·have:=h4 y hy;rw [e] at this;simpa using this
 ·have:=h6 _ hy;rw [e] at this;simp at this
 ·have hi:i<js.length:=(aF.mp hj).1;have:=h10 i (bR.mpr hi);rw [hj] at this;cases q:N'[i+1]? with
  | none=>rw [q] at this;simp at this
  | some y =>
   rw [q] at this;simp only [cM] at this;exact ⟨y,rfl,by rw [hN];simpa using this.1,List.contains_iff_mem.mp this.2⟩
section
variable{js:List Nat}{te:TE}{tc:TT}{σ:St}{H:Hp}{Q:VK}
theorem EY{J:It}{n:Nat}(src:Nat->V->Prop)(hz:n<=100000)(Pv:Addr->Nat->List V->Hp->Prop)
  (h0:∀D H1,H D=none->H1 D=some (.lst [])->aY H H1->Pv D 0 [] H1)
  (hg:∀D i ys H',i<n->H' D=some (.lst ys)->Pv D i ys H'->J.go i H'/\∀x H3,J.yld i H' x H3->H3=H'/\src i x)
  (hst:∀D ys H',H' D=some (.lst ys)->Pv D n ys H'->J.stop n H')
  (hs:∀D i x ys H',src i x->i<n->ys.length=i->H' D=some (.lst ys)->Pv D i ys H'->te (some x::slots σ js) H' λy H5=>H5 D=some (.lst ys)/\∀H6,H6 D=some (.lst (ys++[y]))->aQ D H5 H6->Pv D (i+1) (ys++[y]) H6)
  (hd:∀D ys H',ys.length=n->H D=none->H' D=some (.lst ys)->Pv D n ys H'->Q (.ref D) H') :
  lE J σ js AO te H Q:=by
 unfold lE;intro D hD;refine ⟨λi m ys H'=>m=n-i/\i<=n/\ys.length=i/\H' D=some (.lst ys)/\Pv D i ys H',⟨n,by simp,cE _,rfl,bM,h0 D _ hD bM (aY.upd hD)⟩,?_⟩;rintro i m ys H2 ⟨rfl,hi,hy,hD2,p⟩;refine ⟨hD2,?_⟩;by_cases hlt:i<n
 ·obtain ⟨g1,g2⟩:=hg D i ys H2 hlt hD2 p;refine .inr ⟨g1,bA (m:=100000) Oo Dd,λx H3 hy3=>?_⟩;obtain ⟨rfl,hx⟩:=g2 x H3 hy3;refine ⟨λb H4=>b=true/\H4=H3,⟨rfl,rfl⟩,?_⟩;rintro b H4 ⟨rfl,rfl⟩;rw [if_pos rfl];refine ⟨_,hs D i x ys H4 hx hlt hy hD2 p,?_⟩;rintro v H5 ⟨hD5,k⟩;exact ⟨hD5,n-(i+1),Oo,rfl,hlt,by rw [bE,hy];rfl,bM,k _ bM aQ.self⟩
 ·have e:i=n:=Oo;subst e;exact .inl ⟨hst D ys H2 hD2 p,hd D ys H2 hy hD hD2 p⟩
end
@[irreducible] def OV(K:PySem.W.Frag):List V->Hp->VK->Prop:=λxs H Q=>∃(p:Addr) (ns:List Int),xs=[.ref p]/\fN K H p (ns.map V.int)/\Q (.int ns.sum) H
@[irreducible] def VF(b:Bool):R2:=λx y H Q=>∃d d',cC H d x/\cC H d' y/\SeqAt.shaped d=true/\SeqAt.shaped d'=true/\Q (.bl (b == PyData.eqv d d')) H
section
variable{X:Cx}
theorem RG(hc:X.calm=true):jJ X (.builtin "sum") (OV X.K):=by
 unfold OV;intro pins s σ H xs us Q I r h;obtain ⟨p,ns,rfl,hq,q⟩:=h;obtain ⟨u,rfl,rx⟩:=lD r;cases rx;obtain ⟨its,r',pl,hz⟩:=I.list hq;have hi:=oW r';obtain ⟨xs',e⟩:=hi.allInts.items;rw [e] at pl;refine sum_intListG (I.ok.hd hc) pl.isList λh' tk t' hk=>⟨.int ns.sum,H,I.kept hk,⟨t',?_⟩,q⟩;rw [preSum_eq,List.take_of_length_le (by simp)];rw [<-hi.numsOf];have e2:its=(intItems xs').toList:=by rw [<-e]
 rw [e2,nums_intItems]
theorem rsI{K:PySem.W.Frag}{H:Hp}{p:Addr}{ns:List Int}{Q:VK}(h:fN K H p (ns.map V.int))(q:Q (.int ns.sum) H):OV K [.ref p] H Q:=by unfold OV;exact ⟨p,ns,rfl,h,q⟩
theorem PV(hu:X.A.units+64<cLine):tW X (compareOp .NotEq) (VF false):=by
 unfold VF;intro pins s σ H x y v u Q I rx ry h;obtain ⟨d,d',h1,h2,s1,s2,q⟩:=h;obtain ⟨as,ra⟩:=h1.reads I rx;obtain ⟨bs,rb⟩:=h2.reads I ry;exact SeqAt.compareNe_shaped ra rb s1 s2 hu ⟨.bl _,H,I,by show _=_;simp,q⟩
theorem reD{b:Bool}{x y:V}{d d':PyData}{H:Hp}{Q:VK}(h1:cC H d x)(h2:cC H d' y)(s1:SeqAt.shaped d=true)(s2:SeqAt.shaped d'=true)(q:Q (.bl (b == PyData.eqv d d')) H):VF b x y H Q:=by
 unfold VF;exact ⟨d,d',h1,h2,s1,s2,q⟩
end
mutual
def fV:PyData->Bool
 | .list _=>false
 | .dict _=>false
 | .tuple ds=>gU ds
 | _=>true
def gU:List PyData->Bool
 | []=>true
 | d::ds=>fV d&&gU ds
end
def dB(H H':Hp):Prop:=∀b xs,H b=some (.tup xs)->H' b=some (.tup xs)
theorem dB.trans{H H1 H2:Hp}(a:dB H H1)(b:dB H1 H2):dB H H2:=λc o h=>b c o (a c o h)
theorem aY.t{H H':Hp}(s:aY H H'):dB H H':=λb xs h=>s _ _ h
theorem aQ.t{H H':Hp}{p:Addr}(s:aQ p H H'){xs:List V}(hp:H p=some (.lst xs)):dB H H':=λb ys h=>s.at (pC h hp (by intro z;cases z)) h
mutual
theorem cC.flat{H H':Hp}(s:dB H H'):∀{d:PyData}{v:V},fV d=true->cC H d v->cC H' d v
 | .none,_,_,h=>h
 | .bool _,_,_,h=>h
 | .int _,_,_,h=>h
 | .str _,_,_,h=>h
 | .list _,_,f,_=>by simp [fV] at f
 | .dict _,_,f,_=>by simp [fV] at f
 | .tuple ds,_,f,h=>by
  unfold cC at h ⊢;obtain ⟨a,ys,rfl,h1,h2⟩:=h;exact ⟨a,ys,rfl,s _ _ h1,aW.flat s (by simpa [fV] using f) h2⟩
theorem aW.flat{H H':Hp}(s:dB H H'):∀{ds:List PyData}{vs:List V},gU ds=true->aW H ds vs->aW H' ds vs
 | [],_,_,h=>h
 | d::ds,_,f,h=>by
  unfold aW at h ⊢;obtain ⟨x,ys,rfl,h1,h2⟩:=h;simp only [gU,cM] at f;exact ⟨x,ys,rfl,cC.flat s f.1 h1,aW.flat s f.2 h2⟩
end
theorem aW.get{H:Hp}:∀{ds:List PyData}{vs:List V}{i:Nat}{v:V},aW H ds vs->vs[i]?=some v->∃d,ds[i]?=some d/\cC H d v
 | [],_,i,v,h,e=>by cases (show _=[] from h);simp at e
 | d::ds,_,i,v,h,e=>by
  unfold aW at h;obtain ⟨x,ys,rfl,h1,h2⟩:=h;cases i with
  | zero=>simp at e;subst e;exact ⟨d,rfl,h1⟩
  | succ i =>
   rw [List.getElem?_cons_succ] at e ⊢;exact aW.get h2 e
theorem aW.get'{H:Hp}:∀{ds:List PyData}{vs:List V}{i:Nat}{d:PyData},aW H ds vs->ds[i]?=some d->∃v,vs[i]?=some v/\cC H d v
 | [],_,i,d,h,e=>by simp at e
 | d' :: ds,_,i,d,h,e=>by
  unfold aW at h;obtain ⟨x,ys,rfl,h1,h2⟩:=h;cases i with
  | zero=>simp at e;subst e;exact ⟨x,rfl,h1⟩
  | succ i =>
   rw [List.getElem?_cons_succ] at e ⊢;exact aW.get' h2 e
theorem aW.snoc{H:Hp}{ds:List PyData}{vs:List V}{d:PyData}{v:V}(h:aW H ds vs)(r:cC H d v):aW H (ds++[d]) (vs++[v]):=aW.append (aW.cons r aW.nil) h
theorem CF{i:Int}{n:Nat}(h:i.natAbs<2^n):bits i<=n:=PySem.intBits_le_iff.mpr h
theorem nJ{i j:Int}{n m:Nat}(h1:i.natAbs<2^n)(h2:j.natAbs<2^m)(hn:n<=1048576:=by decide)(hm:m<=1048576:=by decide):IntMulOk i j:=by
 refine IntMulOk.of_bits ?_ ?_
 ·exact aK (CF h1) hn
 ·exact aK (CF h2) hm
mutual
def SI:PyData->Nat
 | .none=>4
 | .bool _=>5
 | .int _=>1921
 | .str x=>(reprText x).length
 | .list xs=>BA xs+4
 | .tuple xs=>BA xs+4
 | .dict _=>0
def BA:List PyData->Nat
 | []=>0
 | x::xs=>SI x+2+BA xs
end
theorem vC:∀(ts:List Str) (k:Nat) (acc:Str),(textFrom k acc ts).length<=acc.length+piled ts
 | [],k,acc=>by show acc.length<=_;omega
 | t::r,k,acc=>by
  have h:=vC r (k+1) (acc++(if k > 0 then ", " else "" : String)++t);have e:(acc++(if k > 0 then ", " else "" : String)++t).length=acc.length+(if k > 0 then 2 else 0)+t.length:=by
   rw [strLen_append,strLen_append];split <;> rfl
  rw [e] at h;rw [piled_cons];show (textFrom (k+1) _ r).length<=_;refine aK h ?_;split <;> omega
theorem AN(ts:List Str):(tupleText ts).length<=piled ts+4:=by
 unfold tupleText;rw [strLen_append,strLen_append];have e1:(("(" : Str)).length=1:=rfl;have e2:((if ts.length == 1 then ",)" else ")" : String):Str).length<=2:=by split <;> decide
 rw [e1];by_cases h:ts=[]
 ·subst h;have:(Str.join ", " []).length=0:=rfl;omega
 ·have:=join_length_add ts h;omega
theorem EG(ts:List Str):(listText ts).length<=piled ts+4:=by
 unfold listText;rw [strLen_append];have:=vC ts 0 "[";have e1:(("[" : String):Str).length=1:=rfl;have e2:(("]" : String):Str).length=1:=rfl;rw [e1] at this;rw [e2];omega
mutual
theorem wY:∀d:PyData,d.showable=true->d.hasDict=false->d.shown.length<=SI d
 | .none,_,_=>by simp only [PyData.shown,SI];decide
 | .bool b,_,_=>by cases b <;> (simp only [PyData.shown,SI];decide)
 | .int i,h,_=>by
  simp only [PyData.shown,SI];exact int_text_len_1921 (by simpa [PyData.showable] using h)
 | .str x,_,_=>by simp only [PyData.shown,SI];exact aI _
 | .list xs,h,h2=>by
  simp only [PyData.shown,SI];have:=pW xs (by simpa [PyData.showable] using h) (by simpa [PyData.hasDict] using h2);have:=EG (PyData.shownAll xs);omega
 | .tuple xs,h,h2=>by
  simp only [PyData.shown,SI];have:=pW xs (by simpa [PyData.showable] using h) (by simpa [PyData.hasDict] using h2);have:=AN (PyData.shownAll xs);omega
 | .dict _,_,h=>by simp [PyData.hasDict] at h
theorem pW:∀ds:List PyData,PyData.showableAll ds=true->PyData.hasDictAll ds=false->piled (PyData.shownAll ds)<=BA ds
 | [],_,_=>by simp only [PyData.shownAll,BA];exact aI _
 | d::ds,h,h2=>by
  simp only [PyData.showableAll,cM] at h;simp only [PyData.hasDictAll,Bool.or_eq_false_iff] at h2;have:=wY d h.1 h2.1;have:=pW ds h.2 h2.2;simp only [PyData.shownAll,BA,piled_cons];omega
end
theorem TK{i:Int}{n:Nat}(h:i.natAbs<2^n)(hn:n<=1920:=by decide):PyData.showable (.int i)=true:=by
 simp only [PyData.showable];refine cO (vL (aK (CF h) hn) Dd)
section
variable{X:Cx}(K:PySem.W.Frag)
theorem iS(h:X.K=K:=by rfl):SE X (rIx K):=by subst h;exact bL
theorem XB(hc:X.calm=true)(h:X.K=K:=by rfl):jJ X (.builtin "sum") (OV K):=by subst h;exact RG hc
end
end L2
namespace L2
open PySem
def yJ(b:Bool)(h:Heap)(i l:Addr)(k:Nat):Prop:=∃o,h.get? i=some o/\o.cls=.type (bif b then "tuple_iterator" else "list_iterator")/\o.data=.fields #[.ref l,.int k 0]
def nO(b:Bool)(h:Heap)(l:Addr)(xs:Array Value):Prop:=∃o,h.get? l=some o/\o.cls=.type (bif b then "tuple" else "list")/\∃n,o.data=.seq xs n
theorem yJ.at{b:Bool}{h h':Heap}{i l:Addr}{k:Nat}(x:yJ b h i l k)(f:∀o,h.get? i=some o->h'.get? i=some o):yJ b h' i l k:=let ⟨o,ho,r⟩:=x;⟨o,f o ho,r⟩
theorem nO.at{b:Bool}{h h':Heap}{l:Addr}{xs:Array Value}(x:nO b h l xs)(f:∀o,h.get? l=some o->h'.get? l=some o):nO b h' l xs:=let ⟨o,ho,r⟩:=x;⟨o,f o ho,r⟩
section
variable{prog:Program}{w:World}{A:Around}{E:Value->Shared->Prop}{s:Shared}
theorem BM{b:Bool}{it l:Addr}{i:Nat}{items:Array Value}{x:Value}{Q:Value->Shared->Prop}(hit:yJ b s.heap it l i)(hl:nO b s.heap l items)(hx:items[i]?=some x)
  (hQ:∀h',yJ b h' it l (i+1)->Heap.SameBut it s.heap h'->Q x { s with heap:=h' }):wpAny (model prog w) A (Builtin.SmallTypes.nextOf (.ref it)) Q E s:=by
 cases b with
 | false=>exact wpAny_nextOf_list_item hit hl hx hQ
 | true =>
  have ty:s.heap.IsTupleIter it l i:=hit;obtain ⟨o,ho,hc,hd⟩:=id ty;obtain ⟨ol,hol,_,nl,hdl⟩:=hl;unfold Builtin.SmallTypes.nextOf;refine wpAny_bind (wpAny_callSpecial?_slot (name:=Str.ofString "__next__") ty.typeIs F.slot_tuple_iterator_next (wpAny_call_entry F.slot_tuple_iterator_next ty.typeIs F.entry_tuple_iterator_next ?_ (F.args_tuple_iterator_next_1 _)));show wpAny _ _ (field (.ref it) 0 >>= _) _ _ s;refine wpAny_bind (wpAny_field ho hd (x:=.ref l) rfl ?_);show wpAny _ _ (if (Value.ref l == Value.none)=true then _ else _) _ _ s;rw [if_neg (show ¬((Value.ref l == Value.none)=true) from bN)];show wpAny _ _ (field (.ref it) 1 >>= _) _ _ s;refine wpAny_bind (wpAny_field ho hd (x:=.int i 0) rfl ?_);show wpAny _ _ (seqItems? (.ref l) >>= _) _ _ s;refine wpAny_bind (wpAny_seqItems hol hdl ?_);simp only [Int.toNat_natCast,hx];refine wpAny_bind (wpAny_setField ho hd (by simp) (wpAny_pure ⟨x,rfl,wpAny_pure (hQ _ ?_ (Heap.SameBut.update ..))⟩));refine ⟨_,Heap.get?_update_self _ ho (Obj.isFreed_of_fields (Obj.data_mapFields hd _)),(Obj.cls_mapFields ..).trans hc,?_⟩;rw [Obj.data_mapFields hd];simp [rawInt]
theorem PZ{b:Bool}{it l:Addr}{i:Nat}{items:Array Value}{Q:Value->Shared->Prop}(hh:A.handled=none)(hit:yJ b s.heap it l i)(hl:nO b s.heap l items)(hx:items[i]?=none)
  (hE:∀h' e,Heap.ExtBut it s.heap h'->(∃o,h'.get? e=some o/\o.cls=.type "StopIteration")->E (.ref e) { s with heap:=h' }):wpAny (model prog w) A (Builtin.SmallTypes.nextOf (.ref it)) Q E s:=by
 cases b with
 | false=>exact wpAny_nextOf_list_end hh hit hl hx hE
 | true =>
  have ty:s.heap.IsTupleIter it l i:=hit;obtain ⟨o,ho,hc,hd⟩:=id ty;obtain ⟨ol,hol,_,nl,hdl⟩:=hl;unfold Builtin.SmallTypes.nextOf;refine wpAny_bind (wpAny_callSpecial?_slot (name:=Str.ofString "__next__") ty.typeIs F.slot_tuple_iterator_next (wpAny_call_entry F.slot_tuple_iterator_next ty.typeIs F.entry_tuple_iterator_next ?_ (F.args_tuple_iterator_next_1 _)));show wpAny _ _ (field (.ref it) 0 >>= _) _ _ s;refine wpAny_bind (wpAny_field ho hd (x:=.ref l) rfl ?_);show wpAny _ _ (if (Value.ref l == Value.none)=true then _ else _) _ _ s;rw [if_neg (show ¬((Value.ref l == Value.none)=true) from bN)];show wpAny _ _ (field (.ref it) 1 >>= _) _ _ s;refine wpAny_bind (wpAny_field ho hd (x:=.int i 0) rfl ?_);show wpAny _ _ (seqItems? (.ref l) >>= _) _ _ s;refine wpAny_bind (wpAny_seqItems hol hdl ?_);simp only [Int.toNat_natCast,hx];refine wpAny_bind (wpAny_rule (wpAny_bind (wpAny_setField ho hd (by simp) ?_)));show wpAny _ _ (newExc (.type "StopIteration") [] >>= _) _ _ _;refine wpAny_bind ?_;simp only [newExc,newTuple];refine wpAny_bind (wpAny_newObj_type ?_ (by size_fits));refine wpAny_bind (m:=firstArgMember _ _) (wpAny_of_eq (a:=Value.none) (by first | rfl | (simp only [firstArgMember];rfl)) ?_);refine wpAny_newObj_type ?_ (by size_fits);simp only [raiseNew];refine wpAny_bind (wpAny_handled ?_)
  first | rw [show A.in1.handled=none from hh] | rw [hh]
  refine wpAny_bind (wpAny_pure (wpAny_throw ?_));exact hE _ _ (((Heap.SameBut.update ..).extBut.push _).push _) ⟨_,bB _ rfl,rfl⟩
structure ZB(b1 b2:Bool)(z TI TO i1 i2 l1 l2:Addr)(f:Value)(k:Nat)(h:Heap):Prop where
 z:IsZip h z TI TO f
 ti:IsPair h TI (.ref i1) (.ref i2)
 to:∃a b,IsPair h TO a b
 i1:yJ b1 h i1 l1 k
 i2:yJ b2 h i2 l2 k
theorem KC{b1 b2:Bool}{z TI TO i1 i2 l1 l2:Addr}{k:Nat}{xs ys:Array Value}{x y:Value}{Q:Value->Shared->Prop}(D:ZipApart z TI TO i1 i2 l1 l2)(Z:ZB b1 b2 z TI TO i1 i2 l1 l2 .none k s.heap)
  (hl1:nO b1 s.heap l1 xs) (hl2:nO b2 s.heap l2 ys) (hx:xs[k]?=some x) (hy:ys[k]?=some y)
  (hQ:∀h',ZB b1 b2 z TI TO i1 i2 l1 l2 (rawInt s.heap.objs.size) (k+1) h'->IsPair h' s.heap.objs.size x y->(∀c o,c≠z->c≠TO->c≠i1->c≠i2->s.heap.get? c=some o->h'.get? c=some o)->Q (.ref s.heap.objs.size) { s with heap:=h' }) :
  wpAny (model prog w) A (Builtin.«zip.__next__» ⟨[.ref z],[]⟩) (λfin s'=>∃v,fin=.done (.ret v)/\Q v s') E s:=by
 obtain ⟨hz,hTI,⟨a,b,hTO⟩,h1,h2⟩:=Z;show wpAny _ _ (field (.ref z) 2 >>= _) _ _ _;refine wpAny_bind (wpAny_field hz rfl (x:=.bool false) rfl ?_);show wpAny _ _ (field (.ref z) 3 >>= _) _ _ _;refine wpAny_bind (wpAny_field hz rfl (x:=.ref TI) rfl ?_);refine wpAny_bind (wpAny_seqItems hTI rfl ?_);show wpAny _ _ (Builtin.SmallTypes.ownedTupleIsFree (.ref z) >>= _) _ _ _;refine wpAny_bind ?_;unfold Builtin.SmallTypes.ownedTupleIsFree;refine wpAny_bind (wpAny_field hz rfl (x:=.none) rfl (wpAny_pure ?_));simp only [if_true];refine wpAny_bind (wpAny_rule ?_);refine wpAny_bind (wpAny_field hz rfl (x:=.ref TO) rfl ?_);refine wpAny_bind (wpAny_setField_rec hz (by simp) λh₁ hz₁ hs₁=>?_);have g₁:=hs₁.extBut;replace hz₁:IsZip h₁ z TI TO .ellipsis:=hz₁;refine wpAny_bind ?_;simp only [List.zipIdx_cons,List.zipIdx_nil,List.forIn_cons,List.forIn_nil];refine wpAny_bind (wpAny_bind (wpAny_onRaise ?_));show wpAny _ _ (Builtin.SmallTypes.nextOf (.ref i1) >>= _) _ _ _;refine wpAny_bind (BM (h1.at λo e=>g₁ _ o D.i1z e) (hl1.at λo e=>g₁ _ o D.l1z e) hx λh₂ h1₂ hs₂=>wpAny_pure ?_);have g₂:=hs₂.extBut;have hTO₂:IsPair h₂ TO a b:=g₂ _ _ D.TOi1 (g₁ _ _ D.TOz hTO);refine wpAny_bind (wpAny_seqItems hTO₂ rfl ?_);refine wpAny_bind (wpAny_updateSeq_pair hTO₂ λh₃ hTO₃ hs₃=>?_);have g₃:=hs₃.extBut;replace hTO₃:IsPair h₃ TO x b:=hTO₃;refine wpAny_bind (wpAny_letGo (wpAny_pure ?_));refine wpAny_bind (wpAny_bind (wpAny_onRaise ?_));show wpAny _ _ (Builtin.SmallTypes.nextOf (.ref i2) >>= _) _ _ _
 refine wpAny_bind (BM (h2.at λo e=>g₃ _ o D.TOi2.symm (g₂ _ o D.i12.symm (g₁ _ o D.i2z e))) (hl2.at λo e=>g₃ _ o D.l2TO (g₂ _ o D.l2i1 (g₁ _ o D.l2z e))) hy λh₄ h2₄ hs₄=>wpAny_pure ?_);have g₄:=hs₄.extBut;have hTO₄:IsPair h₄ TO x b:=g₄ _ _ D.TOi2 hTO₃;refine wpAny_bind (wpAny_seqItems hTO₄ rfl ?_);refine wpAny_bind (wpAny_updateSeq_pair hTO₄ λh₅ hTO₅ hs₅=>?_);have g₅:=hs₅.extBut;replace hTO₅:IsPair h₅ TO x y:=hTO₅;refine wpAny_bind (wpAny_letGo (wpAny_pure (wpAny_pure ?_)));refine wpAny_bind (wpAny_seqItems hTO₅ rfl ?_);refine wpAny_bind (wpAny_newTuple ?_);have hsz:h₅.objs.size=s.heap.objs.size:=by rw [hs₅.1,hs₄.1,hs₃.1,hs₂.1,hs₁.1]
 have hz₅:IsZip h₅ z TI TO .ellipsis:=g₅ _ _ D.TOz.symm (g₄ _ _ D.i2z.symm (g₃ _ _ D.TOz.symm (g₂ _ _ D.i1z.symm hz₁)));have hk₅:∀c o,c≠z->c≠TO->c≠i1->c≠i2->s.heap.get? c=some o->h₅.get? c=some o:=λc o c1 c2 c3 c4 e=>g₅ _ _ c2 (g₄ _ _ c4 (g₃ _ _ c2 (g₂ _ _ c3 (g₁ _ _ c1 e))));have h1₅:yJ b1 h₅ i1 l1 (k+1):=h1₂.at λo e=>g₅ _ o D.TOi1.symm (g₄ _ o D.i12 (g₃ _ o D.TOi1.symm e));have h2₅:yJ b2 h₅ i2 l2 (k+1):=h2₄.at λo e=>g₅ _ o D.TOi2.symm e;have hzlt:=aT hz₅;show wpAny _ _ (Builtin.SmallTypes.ownedTupleHandOut (.ref z) (.ref h₅.objs.size) >>= _) _ _ _;refine wpAny_bind ?_;unfold Builtin.SmallTypes.ownedTupleHandOut;have hz₆:IsZip (h₅.push { cls:=.type "tuple",data:=.seq #[x,y] }) z TI TO .ellipsis:=aC _ hz₅;refine wpAny_bind (wpAny_setField_rec hz₆ (by simp) λh₇ hz₇ hs₇=>?_);replace hz₇:IsZip h₇ z TI TO (rawInt h₅.objs.size):=hz₇;refine wpAny_setField_rec hz₇ (by simp) λh₈ hz₈ hs₈=>?_;replace hz₈:IsZip h₈ z TI TO (rawInt h₅.objs.size):=hz₈;have up:∀c o,c≠z->h₅.get? c=some o->h₈.get? c=some o:=λc o c1 e=>hs₈.extBut _ _ c1 (hs₇.extBut _ _ c1 (aC _ e));have hT₈:IsPair h₈ h₅.objs.size x y:=hs₈.extBut _ _ (Nat.ne_of_gt hzlt) (hs₇.extBut _ _ (Nat.ne_of_gt hzlt) (bB _ rfl));rw [hsz] at hz₈ hT₈;refine wpAny_pure ⟨_,rfl,?_⟩;show Q (.ref h₅.objs.size) _;rw [hsz]
 exact hQ h₈ ⟨hz₈,up _ _ D.TIz (hk₅ _ _ D.TIz D.TITO D.TIi1 D.TIi2 hTI),⟨_,_,up _ _ D.TOz hTO₅⟩,h1₅.at λo e=>up _ o D.i1z e,h2₅.at λo e=>up _ o D.i2z e⟩ hT₈ λc o c1 c2 c3 c4 e=>up c o c1 (hk₅ c o c1 c2 c3 c4 e)
theorem MV{b1 b2:Bool}{z TI TO i1 i2 l1 l2:Addr}{k:Nat}{xs ys:Array Value}{Q:Fin->Shared->Prop}(hh:A.handled=none)(D:ZipApart z TI TO i1 i2 l1 l2)(Z:ZB b1 b2 z TI TO i1 i2 l1 l2 .none k s.heap)
  (hl1:nO b1 s.heap l1 xs) (hl2:nO b2 s.heap l2 ys) (hend:xs[k]?=none\/ys[k]?=none)
  (hE:∀h' e,(∀c o,c≠z->c≠TO->c≠i1->c≠i2->s.heap.get? c=some o->h'.get? c=some o)->(∃o,h'.get? e=some o/\o.cls=.type "StopIteration")->E (.ref e) { s with heap:=h' }) :
  wpAny (model prog w) A (Builtin.«zip.__next__» ⟨[.ref z],[]⟩) Q E s:=by
 obtain ⟨hz,hTI,⟨a,b,hTO⟩,h1,h2⟩:=Z;show wpAny _ _ (field (.ref z) 2 >>= _) _ _ _;refine wpAny_bind (wpAny_field hz rfl (x:=.bool false) rfl ?_);show wpAny _ _ (field (.ref z) 3 >>= _) _ _ _;refine wpAny_bind (wpAny_field hz rfl (x:=.ref TI) rfl ?_);refine wpAny_bind (wpAny_seqItems hTI rfl ?_);show wpAny _ _ (Builtin.SmallTypes.ownedTupleIsFree (.ref z) >>= _) _ _ _;refine wpAny_bind ?_;unfold Builtin.SmallTypes.ownedTupleIsFree;refine wpAny_bind (wpAny_field hz rfl (x:=.none) rfl (wpAny_pure ?_));simp only [if_true];refine wpAny_bind (wpAny_rule ?_);refine wpAny_bind (wpAny_field hz rfl (x:=.ref TO) rfl ?_);refine wpAny_bind (wpAny_setField_rec hz (by simp) λh₁ hz₁ hs₁=>?_);have g₁:=hs₁.extBut;replace hz₁:IsZip h₁ z TI TO .ellipsis:=hz₁;refine wpAny_bind ?_;simp only [List.zipIdx_cons,List.zipIdx_nil,List.forIn_cons,List.forIn_nil];refine wpAny_bind (wpAny_bind (wpAny_onRaise ?_));show wpAny _ _ (Builtin.SmallTypes.nextOf (.ref i1) >>= _) _ _ _;cases hx:xs[k]? with
 | none =>
  refine wpAny_bind (PZ hh (h1.at λo e=>g₁ _ o D.i1z e) (hl1.at λo e=>g₁ _ o D.l1z e) hx λh₂ e hs₂ he=>?_);obtain ⟨oe,hoe,hce⟩:=he;have hz₂:IsZip h₂ z TI TO .ellipsis:=hs₂ _ _ D.i1z.symm hz₁;have hez:e≠z:=λx=>by subst x;rw [hz₂] at hoe;cases hoe;simp at hce
  exact wpAny_setField_rec hz₂ (by simp) λh₃ _ hs₃=>hE h₃ e (λc o c1 _ c3 _ x=>hs₃.extBut _ _ c1 (hs₂ _ _ c3 (g₁ _ _ c1 x))) ⟨oe,hs₃.extBut _ _ hez hoe,hce⟩
 | some x =>
  have hy:ys[k]?=none:=by
   rcases hend with h | h
   ·rw [hx] at h;cases h
   ·exact h
  refine wpAny_bind (BM (h1.at λo e=>g₁ _ o D.i1z e) (hl1.at λo e=>g₁ _ o D.l1z e) hx λh₂ h1₂ hs₂=>wpAny_pure ?_);have g₂:=hs₂.extBut;have hTO₂:IsPair h₂ TO a b:=g₂ _ _ D.TOi1 (g₁ _ _ D.TOz hTO);refine wpAny_bind (wpAny_seqItems hTO₂ rfl ?_);refine wpAny_bind (wpAny_updateSeq_pair hTO₂ λh₃ hTO₃ hs₃=>?_);have g₃:=hs₃.extBut;refine wpAny_bind (wpAny_letGo (wpAny_pure ?_));refine wpAny_bind (wpAny_bind (wpAny_onRaise ?_));show wpAny _ _ (Builtin.SmallTypes.nextOf (.ref i2) >>= _) _ _ _;refine wpAny_bind (PZ hh (h2.at λo e=>g₃ _ o D.TOi2.symm (g₂ _ o D.i12.symm (g₁ _ o D.i2z e))) (hl2.at λo e=>g₃ _ o D.l2TO (g₂ _ o D.l2i1 (g₁ _ o D.l2z e))) hy λh₄ e hs₄ he=>?_);obtain ⟨oe,hoe,hce⟩:=he;have hz₄:IsZip h₄ z TI TO .ellipsis:=hs₄ _ _ D.i2z.symm (g₃ _ _ D.TOz.symm (g₂ _ _ D.i1z.symm hz₁));have hez:e≠z:=λx=>by subst x;rw [hz₄] at hoe;cases hoe;simp at hce
  exact wpAny_setField_rec hz₄ (by simp) λh₅ _ hs₅=>hE h₅ e (λc o c1 c2 c3 c4 x=>hs₅.extBut _ _ c1 (hs₄ _ _ c4 (g₃ _ _ c2 (g₂ _ _ c3 (g₁ _ _ c1 x))))) ⟨oe,hs₅.extBut _ _ hez hoe,hce⟩
theorem KB{b1 b2:Bool}{z TI TO i1 i2 l1 l2:Addr}{k:Nat}{xs ys:Array Value}{x y:Value}{Q:Option Value->Shared->Prop}(D:ZipApart z TI TO i1 i2 l1 l2)(Z:ZB b1 b2 z TI TO i1 i2 l1 l2 .none k s.heap)
  (hl1:nO b1 s.heap l1 xs) (hl2:nO b2 s.heap l2 ys) (hx:xs[k]?=some x) (hy:ys[k]?=some y)
  (hQ:∀h',ZB b1 b2 z TI TO i1 i2 l1 l2 (rawInt s.heap.objs.size) (k+1) h'->IsPair h' s.heap.objs.size x y->(∀c o,c≠z->c≠TO->c≠i1->c≠i2->s.heap.get? c=some o->h'.get? c=some o)->Q (some (.ref s.heap.objs.size)) { s with heap:=h' }) :
  wpAny (model prog w) A (pyNext (.ref z)) Q E s:=by
 have hT:s.TypeIs (.ref z) "zip" := ⟨_,Z.z,rfl⟩;unfold pyNext;refine wpAny_bind (wpAny_attempt (wpAny_callSpecial?_slot (name:=Str.ofString "__next__") hT F.slot_zip_next (wpAny_call_entry F.slot_zip_next hT F.entry_zip_next ?_ (F.args_zip_next_1 _))));exact KC D Z hl1 hl2 hx hy λh' a1 a2 a3=>wpAny_pure (hQ h' a1 a2 a3)
theorem KA{b1 b2:Bool}{z TI TO i1 i2 l1 l2:Addr}{k:Nat}{xs ys:Array Value}{Q:Option Value->Shared->Prop}(hh:A.handled=none)(D:ZipApart z TI TO i1 i2 l1 l2)(Z:ZB b1 b2 z TI TO i1 i2 l1 l2 .none k s.heap)
  (hl1:nO b1 s.heap l1 xs) (hl2:nO b2 s.heap l2 ys) (hend:xs[k]?=none\/ys[k]?=none)
  (hQ:∀h',(∀c o,c≠z->c≠TO->c≠i1->c≠i2->s.heap.get? c=some o->h'.get? c=some o)->Q none { s with heap:=h' }):wpAny (model prog w) A (pyNext (.ref z)) Q E s:=by
 have hT:s.TypeIs (.ref z) "zip" := ⟨_,Z.z,rfl⟩;unfold pyNext;refine wpAny_bind (wpAny_attempt (wpAny_callSpecial?_slot (name:=Str.ofString "__next__") hT F.slot_zip_next (wpAny_call_entry F.slot_zip_next hT F.entry_zip_next ?_ (F.args_zip_next_1 _))));refine MV hh D Z hl1 hl2 hend λh' e hk he=>?_;obtain ⟨o,ho,hc⟩:=he;refine wpAny_bind (wpAny_isInstance (T := "StopIteration") (b:=true) ⟨o,ho,hc⟩ isSubtype_stop ?_);exact wpAny_pure (hQ _ hk)
abbrev itO(b:Bool)(l:Addr):Obj:={ cls:=.type (bif b then "tuple_iterator" else "list_iterator"),data:=.fields #[.ref l,.int 0 0] }
theorem YT{b:Bool}{l:Addr}{xs:Array Value}{Q:Value->Shared->Prop}(h:nO b s.heap l xs)(q:Q (.ref s.heap.objs.size) { s with heap:=s.heap.push (itO b l) }):wpAny (model prog w) A (pyIter (.ref l)) Q E s:=by
 cases b with
 | false=>exact wpAny_pyIter_list h q
 | true=>exact wpAny_pyIter_tuple h q
end
end L2
namespace L2
open PySem PySem.Spec PyProof.Rows
section
variable{X:Cx}{pins:List (Addr × Obj)}{σ:St}{H:Hp}{s:Shared}{h':Heap}
theorem cF.turnedL{t':Nat}{fp:List Addr}(I:cF X pins σ H s)(k:∀b o,b ∉ fp->s.heap.get? b=some o->h'.get? b=some o)(hf:∀b∈fp,iX X pins H b):cF X pins σ H { s with heap:=h',toks:=t' }:=by
 have nit:∀b u,H b=some u->b ∉ fp:=λb u e z=>by rw [(hf b z).1] at e;cases e
 refine I.step (g':=s.gens) (d':=s.drawn) (ch:=fp) (λb hb=>?_) (λb o _ _ hc e _=>k b o hc e) (λb o _ _ hc e _=>⟨o.slots,k b o hc e⟩) (λ_ _ _ _ n=>n)
  (λb o hc e=>⟨o,k b o hc e⟩) (λ_ _ e=>e) (λ_ _ _ e=>e) (λb ps e=>⟨#[],by rw [e];simp⟩) (λm hm=>?_) (λb u e=>?_) I.bare
 ·obtain ⟨f0,f1,f2,f3,f4,f5⟩:=hf b hb;exact ⟨f3,f1,f4,f5⟩
 ·obtain ⟨o,es,ep,ho,r⟩:=hm;exact ⟨o,es,ep,k _ o (λz=>(hf _ z).2.1 rfl) ho,r⟩
 ·refine (I.hok b u e).stay (λc v hc q=>k c v ?_ q) (λ_ q=>q) λ_ _ q=>q;rcases hc with z | z
  ·rw [z];exact nit b u e
  ·exact nit c _ z
theorem Un.putE{fs ex:List Addr}{H H1:Hp}{h h1:Heap}{a:Addr}{u:HO}(x:Un fs ex H H1 h h1)(ha:h.get? a=none)(hn:H1 a=none):Un fs ex H (upd H1 a u) h h1 where
 keep:=x.keep
 slot:=x.slot
 free:=λb ob e n m=>by rw [cX (λz=>by subst z;rw [ha] at e;cases e)];exact x.free b ob e n m
 there:=x.there
 tups:=λb xs e=>by rw [cX (cY (x.tups b xs e) hn)];exact x.tups b xs e
 frzs:=λb ob xs e=>by rw [cX (cY (x.frzs b ob xs e) hn)];exact x.frzs b ob xs e
 tbls:=λb ps e=>by
  obtain ⟨m,q⟩:=x.tbls b ps e;exact ⟨m,by rw [cX (cY q hn)];exact q⟩
theorem pF.putE{P:Program}{w:World}{h:Heap}{a:Addr}{u:HO}(x:pF P w H h)(hn:H a=none)(new:fE P w (upd H a u) h a u):pF P w (upd H a u) h:=λb v e=>by
 by_cases hb:b=a
 ·subst hb;rw [bM] at e;cases e;exact new
 ·rw [cX hb] at e;exact (x b v e).stay (λc q _ r=>r) (λc q=>by rw [cX (cY q hn)];exact q) λc xs q=>by rw [cX (cY q hn)];exact q
theorem cF.put{a:Addr}{o:HO}(I:cF X pins σ H s)(f:iX X pins H a)(hs:X.s₀.heap.get? a=none)(new:fE X.prog X.w (upd H a o) s.heap a o):cF X pins σ (upd H a o) s :=
 ⟨I.ok,I.os,I.bare,I.base.putE hs f.1,I.loc,I.cell,by rw [cX (Ne.symm f.2.1)];exact I.free,λx c e=>by rw [cX (f.2.2.2.2.1 x c e)];exact I.freeC x c e,λp hp=>by
  obtain ⟨q1,q2,q3⟩:=I.pin p hp;exact ⟨q1,by rw [cX (f.2.2.2.2.2 p hp)];exact q2,q3⟩,pF.putE I.hok f.1 new,I.len⟩
def CS(b:Bool)(xs:List V):HO:=bif b then .tup xs else .lst xs
theorem CS.inj{b:Bool}{xs ys:List V}(h:some (CS b xs)=some (CS b ys)):xs=ys:=by
 cases b <;> (injection h with h;injection h)
theorem cF.sq{b:Bool}{a:Addr}{xs:List V}(I:cF X pins σ H s)(h:H a=some (CS b xs)):∃its:List Value,cZ xs its/\nO b s.heap a its.toArray:=by
 cases b with
 | false=>obtain ⟨its,r,p,_⟩:=I.list (fN.of h);exact ⟨its,r,p.isList⟩
 | true=>obtain ⟨its,r,p,_⟩:=I.tuple (jH.of h);exact ⟨its,r,p⟩
end
def Itz(b1 b2:Bool)(l1 l2:Addr):It :=
  ⟨λi H=>∃xs ys x y,H l1=some (CS b1 xs)/\H l2=some (CS b2 ys)/\xs[i]?=some x/\ys[i]?=some y,
   λi H v H'=>∃q x y,v=.ref q/\H q=none/\H'=upd H q (.tup [x,y])/\∀xs ys,H l1=some (CS b1 xs)->H l2=some (CS b2 ys)->xs[i]?=some x/\ys[i]?=some y,
   λi H=>∃xs ys,H l1=some (CS b1 xs)/\H l2=some (CS b2 ys)/\(xs.length<=i\/ys.length<=i)⟩
structure ZD(z TI TO i1 i2:Addr):Prop where
 TIz:TI≠z
 TOz:TO≠z
 i1z:i1≠z
 i2z:i2≠z
 TITO:TI≠TO
 TIi1:TI≠i1
 TIi2:TI≠i2
 TOi1:TO≠i1
 TOi2:TO≠i2
 i12:i1≠i2
theorem ZD.seq(n:Nat):ZD (n+4) (n+2) (n+3) n (n+1) where
 TIz:=λh=>absurd (show (n+2:Nat)=n+4 from h) Oo
 TOz:=λh=>absurd (show (n+3:Nat)=n+4 from h) Oo
 i1z:=λh=>absurd (show (n:Nat)=n+4 from h) Oo
 i2z:=λh=>absurd (show (n+1:Nat)=n+4 from h) Oo
 TITO:=λh=>absurd (show (n+2:Nat)=n+3 from h) Oo
 TIi1:=λh=>absurd (show (n+2:Nat)=n from h) Oo
 TIi2:=λh=>absurd (show (n+2:Nat)=n+1 from h) Oo
 TOi1:=λh=>absurd (show (n+3:Nat)=n from h) Oo
 TOi2:=λh=>absurd (show (n+3:Nat)=n+1 from h) Oo
 i12:=λh=>absurd (show (n:Nat)=n+1 from h) Oo
theorem ZD.all{z TI TO i1 i2 l1 l2:Addr}(d:ZD z TI TO i1 i2){H:Hp}{o1 o2:HO}(e1:H l1=some o1)(e2:H l2=some o2)(h:∀b∈[z,TI,TO,i1,i2],H b=none):ZipApart z TI TO i1 i2 l1 l2 :=
 ⟨d.TIz,d.TOz,d.i1z,d.i2z,d.TITO,d.TIi1,d.TIi2,d.TOi1,d.TOi2,d.i12,cY e1 (h _ (by simp)),cY e1 (h _ (by simp)),cY e1 (h _ (by simp)),cY e1 (h _ (by simp)),cY e2 (h _ (by simp)),cY e2 (h _ (by simp)),cY e2 (h _ (by simp)),cY e2 (h _ (by simp))⟩
theorem NI{P:Program}{w:World}{K:PySem.W.Frag}{elts:List Expr}{x1}{tp:Pos}{b1 b2:Bool}{z TI TO i1 i2 l1 l2:Addr}(d:ZD z TI TO i1 i2):CN P w K (.Tuple elts x1 tp) (Itz b1 b2 l1 l2) [z,TI,TO,i1,i2] z (λi h=>ZB b1 b2 z TI TO i1 i2 l1 l2 .none i h) where
 mem:=by simp
 obj:=λi h st b hb=>by
  obtain ⟨a,b',ht⟩:=st.to;obtain ⟨o1,e1,_,d1⟩:=st.i1;obtain ⟨o2,e2,_,d2⟩:=st.i2;simp only [bC,List.not_mem_nil,or_false] at hb;rcases hb with rfl | rfl | rfl | rfl | rfl
  ·exact ⟨_,st.z,λv q=>by cases q⟩
  ·exact ⟨_,st.ti,λv q=>by cases q⟩
  ·exact ⟨_,ht,λv q=>by cases q⟩
  ·exact ⟨_,e1,λv q=>by rw [d1] at q;cases q⟩
  ·exact ⟨_,e2,λv q=>by rw [d2] at q;cases q⟩
 keep:=λi h h' st k=>by
  obtain ⟨a,b,ht⟩:=st.to;exact ⟨k _ (by simp) _ st.z,k _ (by simp) _ st.ti,⟨a,b,k _ (by simp) _ ht⟩,st.i1.at λo e=>k _ (by simp) o e,st.i2.at λo e=>k _ (by simp) o e⟩
 item:=by
  intro X hP hw hK hc i pins s σ H E I hf st hg;subst hP hw hK;obtain ⟨xs,ys,x,y,e1,e2,hx,hy⟩:=hg;obtain ⟨u1,r1,p1⟩:=I.sq e1;obtain ⟨u2,r2,p2⟩:=I.sq e2;obtain ⟨ux,hux,rx⟩:=r1.get hx;obtain ⟨uy,huy,ry⟩:=r2.get hy;have D:=d.all e1 e2 λb hb=>(hf b hb).1;refine KB D st p1 p2 (x:=ux) (y:=uy) (by simpa using hux) (by simpa using huy) λh' Z' hp hk=>?_;refine ⟨_,rfl,wpAny_letOwnedTupleGo_zip Z'.z λh2 hz2 hs2=>?_⟩;have kk:∀b o,b ∉ [z,TI,TO,i1,i2]->s.heap.get? b=some o->h2.get? b=some o:=λb o hb e=>by
   simp only [bC,List.not_mem_nil,or_false,not_or] at hb;exact hs2.extBut b o hb.1 (hk b o hb.1 hb.2.2.1 hb.2.2.2.1 hb.2.2.2.2 e)
  have I1:cF X pins σ H { s with heap:=h2 }:=I.turnedL (t':=s.toks) kk hf;have fq:iX X pins H s.heap.objs.size:=I.fpOk (aI _) (I.hok.fresh (aI _));have e0:X.s₀.heap.get? s.heap.objs.size=none:=by
   cases q:X.s₀.heap.get? s.heap.objs.size with
   | none=>rfl
   | some o=>exact absurd (aO (aT q) I.sz) (bI _)
  have nz:s.heap.objs.size≠z:=λq=>absurd (aT st.z) (by rw [<-q];exact bI _);obtain ⟨a,b,ht⟩:=Z'.to;refine ⟨.ref s.heap.objs.size,upd H s.heap.objs.size (.tup [x,y]),I1.put fq e0 ⟨⟨sT (by show 2<=64;decide),_,hs2.extBut _ _ nz hp,rfl⟩,[ux,uy],.cons rx (.cons ry .nil),⟨_,hs2.extBut _ _ nz hp,rfl,_,rfl⟩⟩,rfl,⟨_,x,y,rfl,fq.1,rfl,λxs' ys' q1 q2=>?_⟩,
   ⟨hz2,hs2.extBut _ _ d.TIz Z'.ti,⟨a,b,hs2.extBut _ _ d.TOz ht⟩,Z'.i1.at λo e=>hs2.extBut _ o d.i1z e,Z'.i2.at λo e=>hs2.extBut _ o d.i2z e⟩,λb hb=>?_⟩
  ·rw [e1] at q1;rw [e2] at q2;rw [<-CS.inj q1,<-CS.inj q2];exact ⟨hx,hy⟩
  ·have nb:b≠s.heap.objs.size:=λq=>by
    obtain ⟨a',b',ht'⟩:=st.to;obtain ⟨o1,e1',_⟩:=st.i1;obtain ⟨o2,e2',_⟩:=st.i2;have lt:∀{c o},s.heap.get? c=some o->c≠s.heap.objs.size:=λe=>cG (aT e);simp only [bC,List.not_mem_nil,or_false] at hb;rcases hb with rfl | rfl | rfl | rfl | rfl
    ·exact lt st.z q
    ·exact lt st.ti q
    ·exact lt ht' q
    ·exact lt e1' q
    ·exact lt e2' q
   rw [cX nb];exact (hf b hb).1
 done:=by
  intro X hP hw hK hc i pins s σ H E I hf st hg;subst hP hw hK;obtain ⟨xs,ys,e1,e2,hl⟩:=hg;obtain ⟨u1,r1,p1⟩:=I.sq e1;obtain ⟨u2,r2,p2⟩:=I.sq e2;have D:=d.all e1 e2 λb hb=>(hf b hb).1;have l1:=r1.length;have l2:=r2.length;have hend:u1.toArray[i]?=none\/u2.toArray[i]?=none:=by
   rcases hl with h | h
   ·left;simp;omega
   ·right;simp;omega
  refine KA (I.ok.hd hc) D st p1 p2 hend λh' hk=>⟨rfl,I.turnedL (t':=s.toks) (λb o hb e=>?_) hf⟩;simp only [bC,List.not_mem_nil,or_false,not_or] at hb;exact hk b o hb.1 hb.2.2.1 hb.2.2.2.1 hb.2.2.2.2 e
 self:=λ_ _ _ _ _ st h=>wpAny_pyIter_zip st.z h
abbrev zA(b:Bool)(h:Heap)(l:Addr):Heap:=h.push (itO b l)
abbrev zB(b1 b2:Bool)(h:Heap)(l1 l2:Addr):Heap:=(zA b1 h l1).push (itO b2 l2)
abbrev zC(b1 b2:Bool)(h:Heap)(l1 l2:Addr):Heap:=(zB b1 b2 h l1 l2).push { cls:=.type "tuple",data:=.seq #[.ref h.objs.size,.ref (zA b1 h l1).objs.size] }
abbrev zE(b1 b2:Bool)(h:Heap)(l1 l2:Addr):Heap:=(zC b1 b2 h l1 l2).push { cls:=.type "tuple",data:=.seq #[.none,.none] }
abbrev zF(b1 b2:Bool)(h:Heap)(l1 l2:Addr):Heap:=(zE b1 b2 h l1 l2).push { cls:=.type "zip",data:=.fields #[.none,.bool false,.bool false,.ref (zB b1 b2 h l1 l2).objs.size,.ref (zC b1 b2 h l1 l2).objs.size] }
theorem aAy(b1 b2:Bool)(l1 l2:Addr)(xs ys:Array Value):Meets (Builtin.«zip.__new__» ⟨[.type "zip",.ref l1,.ref l2],[]⟩) (λ_ R s=>nO b1 s.heap l1 xs/\nO b2 s.heap l2 ys/\R (.ok (.ret (.ref (zE b1 b2 s.heap l1 l2).objs.size))) { s with heap:=zF b1 b2 s.heap l1 l2 }) :=
 .of_wp λprog w A R s h=>by
  obtain ⟨hp,g,d,tk,os⟩:=s;obtain ⟨hl1,hl2,h⟩:=h;have hsub:=sub_zip;have hL1:nO b1 (Shared.heap ⟨hp,g,d,tk,os⟩) l1 xs:=hl1;have hL2:nO b2 (Shared.heap ⟨hp.push (itO b1 l1),g,d,tk,os⟩) l2 ys:=hl2.at λo e=>aC _ e
  wp_walk using YT hL1,YT hL2
  exact ⟨_,rfl,h⟩
section
variable{prog:Program}{w:World}{A:Around}{E:Value->Shared->Prop}{s:Shared}
theorem aCd{b1 b2:Bool}{l1 l2:Addr}{xs ys:Array Value}{Q:Value->Shared->Prop}(hl1:nO b1 s.heap l1 xs)(hl2:nO b2 s.heap l2 ys)
  (h:∀h',ZB b1 b2 (s.heap.objs.size+4) (s.heap.objs.size+2) (s.heap.objs.size+3) s.heap.objs.size (s.heap.objs.size+1) l1 l2 .none 0 h'->(∀c o,s.heap.get? c=some o->h'.get? c=some o)->Q (.ref (s.heap.objs.size+4)) { s with heap:=h' }) :
  wpAny (model prog w) A (call (.type "zip") [.ref l1,.ref l2]) Q E s:=by
 refine callType_new F.called_zip Dd (F.typeCall_zip_2 _ _) (F.newCall_zip_2 _ _) (λobj=>F.args_object_init_3 obj _ _) F.entry_zip_new (aAy b1 b2 l1 l2 xs ys) ⟨hl1,hl2,?_⟩;have z1:(zA b1 s.heap l1).objs.size=s.heap.objs.size+1:=fC ..;have z2:(zB b1 b2 s.heap l1 l2).objs.size=s.heap.objs.size+2:=by rw [fC,z1]
 have z3:(zC b1 b2 s.heap l1 l2).objs.size=s.heap.objs.size+3:=by rw [fC,z2]
 have z4:(zE b1 b2 s.heap l1 l2).objs.size=s.heap.objs.size+4:=by rw [fC,z3]
 have g5:(zF b1 b2 s.heap l1 l2).get? (zE b1 b2 s.heap l1 l2).objs.size=some _:=bB _ rfl;have g4:(zF b1 b2 s.heap l1 l2).get? (zC b1 b2 s.heap l1 l2).objs.size=some _:=aC _ (bB _ rfl);have g3:(zF b1 b2 s.heap l1 l2).get? (zB b1 b2 s.heap l1 l2).objs.size=some _:=aC _ (aC _ (bB _ rfl));have g2:(zF b1 b2 s.heap l1 l2).get? (zA b1 s.heap l1).objs.size=some _:=aC _ (aC _ (aC _ (bB _ rfl)));have g1:(zF b1 b2 s.heap l1 l2).get? s.heap.objs.size=some _:=aC _ (aC _ (aC _ (aC _ (bB _ rfl))));show _/\_;rw [z2,z3,z4] at g5;rw [z1,z2] at g3;rw [z3] at g4;rw [z1] at g2;rw [z4];exact ⟨⟨_,g5,rfl⟩,h _ ⟨g5,g3,⟨_,_,g4⟩,⟨_,g1,rfl,rfl⟩,⟨_,g2,rfl,rfl⟩⟩ λc o x=>aC _ (aC _ (aC _ (aC _ (aC _ x))))⟩
end
def aB5(b1 b2:Bool)(ta:TA):TI:=λσ H R=>ta σ H λvs H1=>∃l1 l2 xs ys,vs=[.ref l1,.ref l2]/\H1 l1=some (CS b1 xs)/\H1 l2=some (CS b2 ys)/\R (Itz b1 b2 l1 l2) H1
theorem RW:bootBuiltins (Str.ofString "zip")=some (Value.type "zip"):=Kk
section
variable{X:Cx}
theorem aAm{a b:Expr}{ta:TA}{p pos tp:Pos}{elts:List Expr}{x1}{b1 b2:Bool}(hg:Gl X "zip")(hm:X.mg "zip" = none)(ha:PA X [a,b] ta)(hs:starEach [a,b] X.env=[(false,eval a X.env),(false,eval b X.env)])(hs2:starEach [b] X.env=[(false,eval b X.env)]) :
  PI X (.Tuple elts x1 tp) (.Call (.Name "zip" p) [a,b] [] pos) (aB5 b1 b2 ta):=by
 intro pins s σ H R I h;refine Call_ (oU I hg hm RW (PyProof.Rows.callWith_type1 (thn (ha pos pins s σ H _ I h) λus s1 ⟨vs,H1,I1,r1,q1⟩=>?_) (by rw [hs,hs2]) (by rw [hs2];rfl)));obtain ⟨l1,l2,xs,ys,e,e1,e2,q⟩:=q1;subst e;cases r1 with
 | cons r rr =>
  cases rr with
  | cons r' rr =>
   cases rr;cases r;cases r';obtain ⟨u1,_,p1⟩:=I1.sq e1;obtain ⟨u2,_,p2⟩:=I1.sq e2;refine aCd p1 p2 λh' Z kk=>wpAny_pyIter_zip Z.z ?_;refine ⟨_,[s1.heap.objs.size+4,s1.heap.objs.size+2,s1.heap.objs.size+3,s1.heap.objs.size,s1.heap.objs.size+1],_,_,H1,rfl,I1.kept (t':=s1.toks) kk,NI (ZD.seq _),Z,λb hb=>?_,q⟩;have hle:s1.heap.objs.size<=b:=by
    simp only [bC,List.not_mem_nil,or_false] at hb;rcases hb with rfl | rfl | rfl | rfl | rfl
    ·exact Nat.le_add_right _ _
    ·exact Nat.le_add_right _ _
    ·exact Nat.le_add_right _ _
    ·exact aI _
    ·exact Nat.le_add_right _ _
   exact I1.fpOk hle (I1.hok.fresh hle)
theorem AK(b1 b2:Bool){a b:Expr}{ta:TA}{p pos tp:Pos}{elts:List Expr}{x1}(hg:Gl X "zip")(hm:X.mg "zip" = none)(ha:HR X [a,b] ta)(hs:starEach [a,b] X.env=[(false,eval a X.env),(false,eval b X.env)]:=by rfl)(hs2:starEach [b] X.env=[(false,eval b X.env)]:=by first | exact gP | exact gH | exact dG | rfl) :
  SC X (.Tuple elts x1 tp) (.Call (.Name "zip" p) [a,b] [] pos) (aB5 b1 b2 ta):=⟨aAm hg hm ha.p hs hs2⟩
end
theorem JD{b1 b2:Bool}{l1 l2:Addr}{xs ys:List V}{g:TG}{tb:TS}{D:tY}{σ:St}{H:Hp}(Pv:Nat->St->Hp->Prop)(h0:Pv 0 σ H)(hl:∀i σ H,Pv i σ H->H l1=some (CS b1 xs)/\H l2=some (CS b2 ys))
  (hs:∀i x y q σ H H',xs[i]?=some x->ys[i]?=some y->Pv i σ H->H q=none->H' q=some (.tup [x,y])->aY H H'->g (.ref q) σ H' λσ2 H2=>tb { D with nx:=Pv (i+1),ct:=Pv (i+1),bk:=D.nx } σ2 H2) (hd:∀σ H,Pv (min xs.length ys.length) σ H->D.nx σ H) :
  ∃W:Nat->Nat->St->Hp->Prop,(∃m,W 0 m σ H)/\∀i m σ H,W i m σ H ->
   ((Itz b1 b2 l1 l2).stop i H/\D.nx σ H)\/((Itz b1 b2 l1 l2).go i H/\∃N:St->Hp->Prop,(∀σ' H',N σ' H'->∃m',m' < m/\W (i+1) m' σ' H')/\∀x H',(Itz b1 b2 l1 l2).yld i H x H'->g x σ H' λσ2 H2=>tb { D with nx:=N,ct:=N,bk:=D.nx } σ2 H2):=by
 refine ⟨λi m σ H=>m=min xs.length ys.length-i/\i<=min xs.length ys.length/\Pv i σ H,⟨_,rfl,cE _,h0⟩,?_⟩;rintro i m σ H ⟨rfl,hi,p⟩;obtain ⟨q1,q2⟩:=hl i σ H p;by_cases hlt:i<min xs.length ys.length
 ·have hx:xs[i]?=some xs[i]:=aB Oo;have hy:ys[i]?=some ys[i]:=aB Oo;refine .inr ⟨⟨xs,ys,_,_,q1,q2,hx,hy⟩,Pv (i+1),λσ' H' p'=>⟨_,Oo,rfl,hlt,p'⟩,λv H' y=>?_⟩;obtain ⟨q,x,y,rfl,hq,rfl,hh⟩:=y;obtain ⟨h1,h2⟩:=hh xs ys q1 q2;exact hs i x y q σ H _ h1 h2 p hq bM (aY.upd hq)
 ·have e:i=min xs.length ys.length:=Oo;subst e;refine .inl ⟨⟨xs,ys,q1,q2,?_⟩,hd σ H p⟩;omega
end L2
namespace L2
open PySem
def oX:List Value->List Int->Bool
 | [],[]=>true
 | .int i _::vs,n::ns=>decide (i=n)&&oX vs ns
 | _,_=>false
def rV(K:PySem.W.Frag)(a:Addr)(ns:List Int):Bool :=
 match K.lookup a with
 | some o=>(match o.cls with | .type n=>n == "tuple" | _=>false)&&(match o.data with | .seq xs _=>decide (xs.size<=64)&&oX xs.toList ns | _=>false)
 | none=>false
theorem oX.vals:∀{vs:List Value}{ns:List Int},oX vs ns=true->cZ (ns.map V.int) vs
 | [],[],_=>.nil
 | v::vs,n::ns,h=>by
  cases v with
  | int i t =>
   have h':(decide (i=n)&&oX vs ns)=true:=h;rw [cM] at h';have e:=of_decide_eq_true h'.1;subst e;exact .cons ⟨t,rfl⟩ (oX.vals h'.2)
  | _=>cases h
 | [],_::_,h=>by cases h
 | v::_,[],h=>by cases v <;> cases h
theorem DE{K:PySem.W.Frag}{H:Hp}{a:Addr}{ns:List Int}(h:rV K a ns=true):jH K H a (ns.map V.int):=by
 unfold rV at h;split at h
 ·rename_i o ho
  rw [cM] at h;obtain ⟨h1,h2⟩:=h;split at h1
  ·rename_i n hn
   split at h2
   ·rename_i xs m hx
    rw [cM] at h2;have e:n = "tuple" := by simpa using h1
    subst e;exact .inr ⟨o,xs,m,ho,hn,hx,sT (of_decide_eq_true h2.1),oX.vals h2.2⟩
   ·cases h2
  ·cases h1
 ·cases h
theorem jH.keep{K:PySem.W.Frag}{H H':Hp}{a:Addr}{xs:List V}(s:aY H H')(h:jH K H a xs):jH K H' a xs:=by
 rcases h with (h | ⟨o,h⟩) | h
 ·exact .inl (.inl (s _ _ h))
 ·exact .inl (.inr ⟨o,s _ _ h⟩)
 ·exact .inr h
mutual
def kP(K:PySem.W.Frag)(H:Hp):PyData->V->Prop
 | .none,v=>v=.non
 | .bool b,v=>v=.bl b
 | .int i,v=>v=.int i
 | .str x,v=>v=.str x
 | .list ds,v=>∃a xs,v=.ref a/\H a=some (.lst xs)/\jI K H ds xs
 | .tuple ds,v=>∃a xs,v=.ref a/\jH K H a xs/\jI K H ds xs
 | .dict kvs,v=>kvs=[]/\∃a,v=.ref a/\H a=some (.dK [])
def jI(K:PySem.W.Frag)(H:Hp):List PyData->List V->Prop
 | [],vs=>vs=[]
 | d::ds,vs=>∃x xs,vs=x::xs/\kP K H d x/\jI K H ds xs
end
mutual
theorem cC.k{K:PySem.W.Frag}{H:Hp}:∀{d:PyData}{v:V},cC H d v->kP K H d v
 | .none,_,h=>h
 | .bool _,_,h=>h
 | .int _,_,h=>h
 | .str _,_,h=>h
 | .list ds,_,h=>by
  unfold cC at h;unfold kP;obtain ⟨a,xs,rfl,h1,h2⟩:=h;exact ⟨a,xs,rfl,h1,aW.k h2⟩
 | .tuple ds,_,h=>by
  unfold cC at h;unfold kP;obtain ⟨a,xs,rfl,h1,h2⟩:=h;exact ⟨a,xs,rfl,jH.of h1,aW.k h2⟩
 | .dict kvs,_,h=>by unfold cC at h;unfold kP;exact h
theorem aW.k{K:PySem.W.Frag}{H:Hp}:∀{ds:List PyData}{vs:List V},aW H ds vs->jI K H ds vs
 | [],_,h=>h
 | d::ds,_,h=>by
  unfold aW at h;unfold jI;obtain ⟨x,xs,rfl,h1,h2⟩:=h;exact ⟨x,xs,rfl,cC.k h1,aW.k h2⟩
end
theorem kP.tup{K:PySem.W.Frag}{H:Hp}{a:Addr}{xs:List V}{ds:List PyData}(h:jH K H a xs)(r:jI K H ds xs):kP K H (.tuple ds) (.ref a):=by
 unfold kP;exact ⟨a,xs,rfl,h,r⟩
theorem jI.ints{K:PySem.W.Frag}{H:Hp}:∀ns:List Int,jI K H (ns.map PyData.int) (ns.map V.int)
 | []=>by unfold jI;rfl
 | n::ns=>by unfold jI;exact ⟨_,_,rfl,by unfold kP;rfl,jI.ints ns⟩
section
variable{X:Cx}{pins:List (Addr × Obj)}{σ:St}{H:Hp}{s:Shared}
mutual
theorem kP.reads(I:cF X pins σ H s):∀{d:PyData}{v:V}{u:Value},kP X.K H d v->dJ v u->∃as,Reads s.heap u d as
 | .none,_,u,h,r=>by
  cases (show _=V.non from h);cases (show u=Value.none from r);exact ⟨_,.none⟩
 | .bool b,_,u,h,r=>by
  cases (show _=V.bl b from h);cases (show u=Value.bool b from r);exact ⟨_,.bool b⟩
 | .int b,_,u,h,r=>by
  cases (show _=V.int b from h);obtain ⟨t,q⟩:=(show ∃t,u=Value.int b t from r);cases q;exact ⟨_,.int b t⟩
 | .str b,_,u,h,r=>by
  cases (show _=V.str b from h);obtain ⟨t,q⟩:=(show ∃t,u=Value.str b t from r);cases q;exact ⟨_,.str b t⟩
 | .list ds,v,u,h,r=>by
  unfold kP at h;obtain ⟨a,xs,rfl,h1,h2⟩:=h;cases (show u=Value.ref a from r);obtain ⟨_,its,n,r',e⟩:=(show fE X.prog X.w H s.heap a (.lst xs) from I.hok a _ h1);obtain ⟨as,q⟩:=jI.reads I h2 r';exact ⟨_,.list e rfl rfl (by simpa using q)⟩
 | .tuple ds,v,u,h,r=>by
  unfold kP at h;obtain ⟨a,xs,rfl,h1,h2⟩:=h;cases (show u=Value.ref a from r);obtain ⟨its,r',⟨o,e,hc,n,hd⟩,_⟩:=I.tuple h1;obtain ⟨as,q⟩:=jI.reads I h2 r';exact ⟨_,.tuple e hc hd (by simpa using q)⟩
 | .dict kvs,v,u,h,r=>cC.reads I (d:=.dict kvs) (by unfold cC;unfold kP at h;exact h) r
theorem jI.reads(I:cF X pins σ H s):∀{ds:List PyData}{vs:List V}{us:List Value},jI X.K H ds vs->cZ vs us->∃as,ReadsAll s.heap us ds as
 | [],_,us,h,r=>by
  cases (show _=[] from h);cases r;exact ⟨_,.nil⟩
 | d::ds,_,us,h,r=>by
  unfold jI at h;obtain ⟨x,xs,rfl,h1,h2⟩:=h;cases r with
  | cons r1 r2 =>
   obtain ⟨as,q1⟩:=kP.reads I h1 r1;obtain ⟨bs,q2⟩:=jI.reads I h2 r2;exact ⟨_,.cons q1 q2⟩
end
end
@[irreducible] def VE(K:PySem.W.Frag)(b:Bool):R2:=λx y H Q=>∃d d',kP K H d x/\kP K H d' y/\SeqAt.shaped d=true/\SeqAt.shaped d'=true/\Q (.bl (b == PyData.eqv d d')) H
section
variable{X:Cx}
theorem PY(K:PySem.W.Frag)(hu:X.A.units+64<cLine)(hK:X.K=K:=by rfl):tW X (compareOp .Eq) (VE K true):=by
 subst hK;unfold VE;intro pins s σ H x y v u Q I rx ry h;obtain ⟨d,d',h1,h2,s1,s2,q⟩:=h;obtain ⟨as,ra⟩:=h1.reads I rx;obtain ⟨bs,rb⟩:=h2.reads I ry;exact SeqAt.compareEq_shaped ra rb s1 s2 hu ⟨.bl _,H,I,by show _=_;simp,q⟩
end
section
variable{K:PySem.W.Frag}{H:Hp}{p:Addr}{xs:List V}{i:Int}{v:V}{Q:VK}
theorem reK{b:Bool}{x y:V}{d d':PyData}(h1:kP K H d x)(h2:kP K H d' y)(s1:SeqAt.shaped d=true)(s2:SeqAt.shaped d'=true)(q:Q (.bl (b == PyData.eqv d d')) H):VE K b x y H Q:=by
 unfold VE;exact ⟨d,d',h1,h2,s1,s2,q⟩
theorem nG(h:jH K H p xs)(e:yI xs i=some v)(q:Q v H):rIx K (.ref p) (.int i) H Q:=.inr (.inl ⟨p,xs,i,v,rfl,rfl,h,e,q⟩)
end
theorem CB(xs:List V)(k:Nat):lK xs (some (k:Int)) none=xs.drop k:=by
 unfold lK;rw [HT.BB,HT.sV];by_cases h:k<=xs.length
 ·rw [Nat.min_eq_left h];exact List.take_of_length_le (by rw [List.length_drop];exact aI _)
 ·rw [Nat.min_eq_right Oo,List.drop_of_length_le (aI _),List.drop_of_length_le Oo,List.take_nil]
theorem CC(xs:List V)(k:Nat):lK xs none (some (k:Int))=xs.take k:=by
 unfold lK;rw [HT.BB,HT.sV,List.drop_zero,Nat.sub_zero];by_cases h:k<=xs.length
 ·rw [Nat.min_eq_left h]
 ·rw [Nat.min_eq_right Oo,List.take_of_length_le (aI _),List.take_of_length_le Oo]
@[irreducible] def UY(K:PySem.W.Frag):V->Option Int->Option Int->Hp->VK->Prop:=aBI K
theorem pV{X:Cx}(K:PySem.W.Frag)(h:X.K=K:=by rfl):SlR X (UY K):=by subst h;unfold UY;exact IH
theorem slL{K:PySem.W.Frag}{H:Hp}{a:Addr}{xs ys:List V}{lo hi:Option Int}{Q:VK}(h:H a=some (.lst xs))(e:lK xs lo hi=ys)(k:∀q H',H q=none->H' q=some (.lst ys)->aY H H'->Q (.ref q) H'):UY K (.ref a) lo hi H Q:=by
 unfold UY;exact ⟨a,xs,rfl,fN.of h,λp hp=>by rw [e];exact k p _ hp bM (aY.upd hp)⟩
section
variable{σ:St}{js:List Nat}{te:TE}{H:Hp}{Q:VK}
theorem wW{R:Nat->V->Prop}{ys:List V}{y:V}(h:∀(j:Nat) z,ys[j]?=some z->R j z)(r:R ys.length y):∀(j:Nat) z,(ys++[y])[j]?=some z->R j z:=λj z hj=>by
 by_cases hji:j<ys.length
 ·rw [cK hji] at hj;exact h j z hj
 ·rw [cU Oo] at hj;have:j-ys.length=0:=by
   by_cases q:j-ys.length=0
   ·exact q
   ·rw [eY (by simp;omega)] at hj;cases hj
  rw [this] at hj;have hj':y=z:=by simpa using hj
  have:j=ys.length:=Oo;subst this hj';exact r
theorem zR{J:It}{n:Nat}(src:Nat->V->Prop)(R:Nat->V->Hp->Prop)(hR:∀i y H1 H2,dB H1 H2->R i y H1->R i y H2)(hz:n<=100000)
  (hg:∀i H',aY H H'->i<n->J.go i H'/\∀x H3,J.yld i H' x H3->H3=H'/\src i x) (hst:∀H',aY H H'->J.stop n H')
  (hs:∀i x H' (Q':VK),src i x->i<n->aY H H'->(∀y H5,aY H' H5->R i y H5->Q' y H5)->te (some x::slots σ js) H' Q')
  (hd:∀D ys H',H D=none->H' D=some (.lst ys)->aY H H'->ys.length=n->(∀(i:Nat) (y:V),ys[i]?=some y->R i y H')->Q (.ref D) H'):lE J σ js AO te H Q:=by
 refine EY (J:=J) (n:=n) src hz (λD i ys H'=>H D=none/\aY H H'/\∀(i:Nat) (y:V),ys[i]?=some y->R i y H') (λD H1 hD _ s=>⟨hD,s,λi y h=>by simp at h⟩)
  (λD i ys H' hi _ p=>hg i H' p.2.1 hi) (λD ys H' _ p=>hst H' p.2.1) (λD i x ys H' hx hi hy hD p=>?_) (λD ys H' hy hD hD' p=>hd D ys H' hD hD' p.2.1 hy p.2.2)
 refine hs i x H' _ hx hi p.2.1 λy H5 s5 r=>?_;refine ⟨s5 _ _ hD,λH6 hD6 s6=>⟨p.1,aY.thru p.1 (p.2.1.trans s5) s6,?_⟩⟩;have t6:=s6.t (s5 _ _ hD);exact wW (R:=λj z=>R j z H6) (λj z hj=>hR j z _ _ (s5.t.trans t6) (p.2.2 j z hj)) (by rw [hy];exact hR i y _ _ t6 r)
theorem gX{K:PySem.W.Frag}{a:Addr}{xs:List V}(R:Nat->V->Hp->Prop)(hR:∀i y H1 H2,dB H1 H2->R i y H1->R i y H2)(hz:xs.length<=100000)(hl:H a=some (.lst xs))
  (hs:∀i x H' (Q':VK),xs[i]?=some x->aY H H'->(∀y H5,aY H' H5->R i y H5->Q' y H5)->te (some x::slots σ js) H' Q')
  (hd:∀D ys H',H D=none->H' D=some (.lst ys)->aY H H'->ys.length=xs.length->(∀(i:Nat) (y:V),ys[i]?=some y->R i y H')->Q (.ref D) H'):lE (Itl K a) σ js AO te H Q :=
 zR (λi x=>xs[i]?=some x) R hR hz (λi H' s hi=>⟨⟨xs,xs[i],fN.of (s _ _ hl),by simp [hi]⟩,λx H3 y=>⟨y.1,y.2 xs (fN.of (s _ _ hl))⟩⟩) (λH' s=>⟨xs,fN.of (s _ _ hl),aI _⟩)
  (λi x H' Q' hx _ s k=>hs i x H' Q' hx s k) hd
theorem gW{lo:Int}{n:Nat}(R:Nat->V->Hp->Prop)(hR:∀i y H1 H2,dB H1 H2->R i y H1->R i y H2)(hz:n<=100000)
  (hs:∀i H' (Q':VK),i<n->aY H H'->(∀y H5,aY H' H5->R i y H5->Q' y H5)->te (some (.int (lo+(i:Nat)))::slots σ js) H' Q')
  (hd:∀D ys H',H D=none->H' D=some (.lst ys)->aY H H'->ys.length=n->(∀(i:Nat) (y:V),ys[i]?=some y->R i y H')->Q (.ref D) H'):lE (XY lo n) σ js AO te H Q :=
 zR (λi x=>x=.int (lo+(i:Nat))) R hR hz (λi H' s hi=>⟨hi,λx H3 y=>y⟩) (λH' s=>aI _)
  (λi x H' Q' hx hi s k=>by subst hx;exact hs i H' Q' hi s k) hd
theorem aQ.thru{p l:Addr}{H0 H1 H2:Hp}(hl:H0 l=none)(s:aQ p H0 H1)(b:aQ l H1 H2):aQ p H0 H2:=λc o e=>by
 have n:=iP.ne e;have e0:H0 c=some o:=by rw [iP.at n] at e;exact e
 have nl:c≠l:=λz=>by subst z;rw [hl] at e0;cases e0
 exact iP.of n (b.at nl (s.at n e0))
end
theorem aW.ofIdx{H:Hp}:∀{ds:List PyData}{ys:List V},ys.length=ds.length->(∀(i:Nat) (y:V),ys[i]?=some y->∃d,ds[i]?=some d/\cC H d y)->aW H ds ys
 | [],[],_,_=>aW.nil
 | d::ds,y::ys,hl,h=>by
  obtain ⟨d',e,r⟩:=h 0 y rfl;cases (show d=d' by simpa using e);exact aW.cons r (aW.ofIdx (by simpa using hl) λi z hz=>by simpa using h (i+1) z (by simpa using hz))
 | [],_::_,hl,_=>by simp at hl
 | _::_,[],hl,_=>by simp at hl
theorem oV{P:Nat->Int->Prop}:∀{ys:List V},(∀(i:Nat) (y:V),ys[i]?=some y->∃n,y=.int n/\P i n)->∃ns:List Int,ys=ns.map V.int/\∀(i:Nat) n,ns[i]?=some n->P i n
 | [],_=>⟨[],rfl,λi n h=>by simp at h⟩
 | y::ys,h=>by
  obtain ⟨n,rfl,hn⟩:=h 0 y rfl;obtain ⟨ns,rfl,hs⟩:=oV (P:=λi=>P (i+1)) (ys:=ys) λi z hz=>h (i+1) z (by simpa using hz);refine ⟨n::ns,rfl,λi m hm=>?_⟩;cases i with
  | zero=>cases (show n=m by simpa using hm);exact hn
  | succ i=>exact hs i m (by simpa using hm)
end L2
namespace L2
open PySem PySem.Spec PyProof.Rows
theorem iH.u1{k:Nat}{A:Around}(r:iH k A):A.units+1<cLine:=by have:=r.units;omega
@[irreducible] def rDG:R2:=λx y H Q=>∃a v,x=.ref a/\oK H a y (some v)/\Q v H
@[irreducible] def rDP(D:tY)(σ:St)(x y v:V)(H:Hp):Prop:=∃a H4,x=.ref a/\CP H a y v H4/\D.nx σ H4
def YL(td ty tv:TE):TS:=λD σ H=>tv σ H λv H1=>td σ H1 λx H2=>ty σ H2 λy H3=>rDP D σ x y v H3
structure XV(X:Cx)(pos:Pos)(keys:List (Option Expr))(values:List Expr)(trs:List (TE × TE)):Prop where p:PPs X pos keys values trs
section
variable{X:Cx}{o i value k v:Expr}{td ty tv tk:TE}{pos pos':Pos}{ks:List (Option Expr)}{vs:List Expr}{trs:List (TE × TE)}
theorem gE(hu:X.A.units+1<cLine)(ho:iG X o td)(hi:iG X i ty)(hs:aA8 i:=by intro _ _;rfl):iG X (.Subscript o i pos) (SZ rDG td ty):=⟨by unfold rDG;exact VZ hu ho.p hi.p hs⟩
theorem iE(hu:X.A.units+1<cLine)(ho:iG X o td)(hi:iG X i ty)(hv:iG X value tv)(hs:swapsWith value (some (.Subscript o i pos')) pos.line X.env=pure false:=by rfl) :
  FM X (.Assign [.Subscript o i pos'] value pos) (YL td ty tv):=⟨by unfold YL rDP;exact VP hu ho.p hi.p hv.p hs⟩
theorem SQ:XV X pos [] [] []:=⟨pps_nil⟩
theorem wK(hk:iG X k tk)(hv:iG X v tv)(hr:XV X pos ks vs trs):XV X pos (some k::ks) (v::vs) ((tk,tv)::trs):=⟨PD hk.p hv.p hr.p⟩
theorem SW(h:XV X pos ks vs trs)(hall:ks.all (·.isSome)=true:=by rfl)(hl:ks.length=vs.length:=by rfl)(h0:ks≠[]:=by intro h;cases h)(h15:ks.length<=15:=by decide):iG X (.Dict ks vs pos) (YK trs):=⟨VY h.p hall hl h0 h15⟩
end
theorem dgS{H:Hp}{p:Addr}{kvs:List (eZ × V)}{x:Str}{v:V}{Q:VK}(e:H p=some (.dK kvs))(hv:fM kvs (.inr x)=some v)(q:Q v H):rDG (.ref p) (.str x) H Q:=by
 unfold rDG;exact ⟨p,v,rfl,hv ▸ oK.k (k:=.inr x) e,q⟩
theorem dpS{H:Hp}{p:Addr}{kvs kvs2:List (eZ × V)}{x:Str}{v:V}{D:tY}{σ:St}(e:H p=some (.dK kvs))(hl:kvs.length<=64)(hk:iR kvs (.inr x) v=kvs2)(q:∀H',H' p=some (.dK kvs2)->aQ p H H'->D.nx σ H') :
  rDP D σ (.ref p) (.str x) v H:=by
 unfold rDP;exact ⟨p,_,rfl,CP.k (k:=.inr x) e (bA hl Dd),q _ (by rw [hk];exact bM) aQ.self⟩
theorem aQ.tD{H H':Hp}{p:Addr}(s:aQ p H H'){xs:List (eZ × V)}(hp:H p=some (.dK xs)):dB H H':=λb ys h=>s.at (pC h hp (by intro z;cases z)) h
section
variable{σ:St}{js:List Nat}{te:TE}{H:Hp}{Q:VK}
end
structure HV(p L:Addr)(Fd:Nat->Hp->Prop):Prop where
 but:∀n D H1 H2,D≠p->D≠L->aQ D H1 H2->Fd n H1->Fd n H2
 same:∀n H1 H2,aY H1 H2->Fd n H1->Fd n H2
 dic:∀n H',Fd n H'->∃xs,H' p=some (.dK xs)
 np:∀n H' D,Fd n H'->H' D=none->D≠p/\D≠L
section
variable{σ:St}{js:List Nat}{te:TE}{H:Hp}{Q:VK}
theorem WZ{J:It}{n:Nat}{p L:Addr}{Fd:Nat->Hp->Prop}(fl:HV p L Fd)(F0:Fd 0 H)(src:Nat->V->Prop)(R:Nat->V->Hp->Prop)(hR:∀i y H1 H2,dB H1 H2->R i y H1->R i y H2)(hz:n<=100000)
  (hg:∀i H',aQ p H H'->i<n->J.go i H'/\∀x H3,J.yld i H' x H3->H3=H'/\src i x) (hst:∀H',aQ p H H'->J.stop n H')
  (hs:∀i x H' (Q':VK),src i x->i<n->Fd i H'->aQ p H H'->(∀y H5,Fd (i+1) H5->aQ p H' H5->R i y H5->Q' y H5)->te (some x::slots σ js) H' Q')
  (hd:∀D ys H',H D=none->H' D=some (.lst ys)->Fd n H'->aQ p H H'->ys.length=n->(∀(i:Nat) (y:V),ys[i]?=some y->R i y H')->Q (.ref D) H'):lE J σ js AO te H Q:=by
 refine EY (J:=J) (n:=n) src hz (λD i ys H'=>H D=none/\Fd i H'/\aQ p H H'/\∀(i:Nat) (y:V),ys[i]?=some y->R i y H') (λD H1 hD _ s=>⟨hD,fl.same _ _ _ s F0,s.but,λi y h=>by simp at h⟩)
  (λD i ys H' hi _ q=>hg i H' q.2.2.1 hi) (λD ys H' _ q=>hst H' q.2.2.1) (λD i x ys H' hx hi hy hD q=>?_) (λD ys H' hy hD hD' q=>hd D ys H' hD hD' q.2.1 q.2.2.1 hy q.2.2.2)
 obtain ⟨np,nL⟩:=fl.np _ _ _ F0 q.1;refine hs i x H' _ hx hi q.2.1 q.2.2.1 λy H5 F5 s5 r=>?_;obtain ⟨xs,hp⟩:=fl.dic _ H' q.2.1;have hD5:=s5.at np hD;refine ⟨hD5,λH6 hD6 s6=>⟨q.1,fl.but _ D _ _ np nL s6 F5,aQ.thru q.1 (q.2.2.1.trans s5) s6,?_⟩⟩;have t6:=s6.t hD5;exact wW (R:=λj z=>R j z H6) (λj z hj=>hR j z _ _ ((s5.tD hp).trans t6) (q.2.2.2 j z hj)) (by rw [hy];exact hR i y _ _ t6 r)
theorem tN{lo:Int}{n:Nat}{p L:Addr}{Fd:Nat->Hp->Prop}(fl:HV p L Fd)(F0:Fd 0 H)(R:Nat->V->Hp->Prop)(hR:∀i y H1 H2,dB H1 H2->R i y H1->R i y H2)(hz:n<=100000)
  (hs:∀i H' (Q':VK),i<n->Fd i H'->aQ p H H'->(∀y H5,Fd (i+1) H5->aQ p H' H5->R i y H5->Q' y H5)->te (some (.int (lo+(i:Nat)))::slots σ js) H' Q')
  (hd:∀D ys H',H D=none->H' D=some (.lst ys)->Fd n H'->aQ p H H'->ys.length=n->(∀(i:Nat) (y:V),ys[i]?=some y->R i y H')->Q (.ref D) H'):lE (XY lo n) σ js AO te H Q :=
 WZ fl F0 (λi x=>x=.int (lo+(i:Nat))) R hR hz (λi H' s hi=>⟨hi,λx H3 y=>y⟩) (λH' s=>aI _)
  (λi x H' Q' hx hi f s k=>by subst hx;exact hs i H' Q' hi f s k) hd
end
def SF(K:PySem.W.Frag)(a:Addr)(n:Nat):It :=
 ⟨λi H=>∃xs x,fN K H a xs/\xs.length=n/\i<n/\xs[n-1-i]?=some x,λi H x H'=>H'=H/\∀xs,fN K H a xs->xs[n-1-i]?=some x,λi H=>i=n⟩
theorem NJ{P:Program}{w:World}{K:PySem.W.Frag}{tg:Expr}(a it:Addr)(n:Nat):CN P w K tg (SF K a n) [it] it (λi h=>h.IsRevIter it a ((n:Int)-1-(i:Nat))) where
 mem:=by simp
 obj:=λi h st b hb=>by
  have e:b=it:=by simpa using hb
  subst e;obtain ⟨o,e,c,d⟩:=st;exact ⟨o,e,λv z=>by rw [d] at z;cases z⟩
 keep:=λi h h' st k=>st.at λo e=>k it (by simp) o e
 item:=by
  intro X hP hw hK hc i pins s σ H E I hf st hg;subst hP hw hK;obtain ⟨xs,x,hq,hn,hi,hx⟩:=hg;obtain ⟨its,rv,p,hz⟩:=I.list hq;obtain ⟨u,hu,ru⟩:=rv.get hx;obtain ⟨f0,f1,f2,f3,f4,f5⟩:=hf it (by simp);have e1:(n:Int)-1-(i:Nat)=((n-1-i:Nat):Int):=Oo;have st:s.heap.IsRevIter it a ((n:Int)-1-(i:Nat)):=st;rw [e1] at st;refine wpAny_pyNext_rev_item st p.isList (x:=u) (by simpa using hu) λh' st' sb=>?_;have I1:cF X pins σ H { s with heap:=h' }:=I.turned (t':=s.toks) (λb o hb e=>(sb.2 b hb).trans e) f0 f1 f3 f4 f5;have e2:((n-1-i:Nat):Int)-1=(n:Int)-1-((i+1:Nat):Int):=Oo;rw [e2] at st';obtain ⟨o,e,c,d⟩:=id st';exact ⟨u,rfl,JA (s:={ s with heap:=h' }) e c d Dd ⟨x,H,I1,ru,⟨rfl,λys hy=>by rw [I.list_inj hy hq];exact hx⟩,st',λb hb=>(hf b hb).1⟩⟩
 done:=by
  intro X hP hw hK hc i pins s σ H E I hf st hg;subst hP hw hK;have hi:i=n:=hg;subst hi;obtain ⟨f0,f1,f2,f3,f4,f5⟩:=hf it (by simp);have st:s.heap.IsRevIter it a ((i:Int)-1-(i:Nat)):=st;rw [show (i:Int)-1-(i:Nat)=-1 by omega] at st;exact wpAny_pyNext_rev_end (I.ok.hd hc) st λh' eb=>⟨rfl,I.turned (t':=s.toks) (λb o hb e=>eb b o hb e) f0 f1 f3 f4 f5⟩
 self:=λ_ _ _ _ _ st h=>wpAny_pyIter_revIter st h
def aDt(K:PySem.W.Frag)(ta:TA):TI:=λσ H R=>ta σ H λvs H1=>∃l xs,vs=[.ref l]/\fN K H1 l xs/\R (SF K l xs.length) H1
theorem MI:bootBuiltins (Str.ofString "reversed")=some (Value.type "reversed"):=Kk
section
variable{X:Cx}{tg:Expr}
theorem NB{a:Expr}{ta:TA}{p pos:Pos}(hg:Gl X "reversed")(hm:X.mg "reversed" = none)(ha:HR X [a] ta)(hs:starEach [a] X.env=[(false,eval a X.env)]:=by first | exact gP | exact gH | exact dG | rfl) :
  SC X tg (.Call (.Name "reversed" p) [a] [] pos) (aDt X.K ta):=⟨by
 intro pins s σ H R I h;refine Call_ (oU I hg hm MI (PyProof.Rows.callWith_type1 (thn (ha.p pos pins s σ H _ I h) λus s1 ⟨vs,H1,I1,r1,q1⟩=>?_) (by rw [hs];rfl) (by rfl)));obtain ⟨l,xs,e,e1,q⟩:=q1;subst e;obtain ⟨u,rfl,ru⟩:=lD r1;cases ru;obtain ⟨its,rv,p,hz⟩:=I1.list e1;have hl:=rv.length;refine call_reversed_list p.isList ?_;have e:((its.toArray.size:Nat):Int)-1=(xs.length:Int)-1-((0:Nat):Int):=by simp;omega
 rw [e];refine wpAny_pyIter_revIter (l:=l) (i:=(xs.length:Int)-1-((0:Nat):Int)) ⟨_,bB _ rfl,rfl,rfl⟩ ?_;refine ⟨s1.heap.objs.size,[s1.heap.objs.size],_,_,H1,rfl,I1.kept (t':=s1.toks) λb o e=>aC _ e,NJ l _ xs.length,⟨_,bB _ rfl,rfl,rfl⟩,λb hb=>?_,q⟩;have e:b=s1.heap.objs.size:=by simpa using hb
 subst e;exact I1.fpOk (aI _) (I1.hok.fresh (aI _))⟩
end
theorem JE{K:PySem.W.Frag}{a:Addr}{xs:List V}{g:TG}{tb:TS}{D:tY}{σ:St}{H:Hp}(Pv:Nat->St->Hp->Prop)(h0:Pv 0 σ H)(hl:∀i σ H,i<=xs.length->Pv i σ H->fN K H a xs)
  (hs:∀i x σ H,i<xs.length->xs[xs.length-1-i]?=some x->Pv i σ H->g x σ H λσ2 H2=>tb { D with nx:=Pv (i+1),ct:=Pv (i+1),bk:=D.nx } σ2 H2) (hd:∀σ H,Pv xs.length σ H->D.nx σ H) :
  ∃W:Nat->Nat->St->Hp->Prop,(∃m,W 0 m σ H)/\∀i m σ H,W i m σ H ->
   ((SF K a xs.length).stop i H/\D.nx σ H)\/((SF K a xs.length).go i H/\∃N:St->Hp->Prop,(∀σ' H',N σ' H'->∃m',m' < m/\W (i+1) m' σ' H')/\∀x H',(SF K a xs.length).yld i H x H'->g x σ H' λσ2 H2=>tb { D with nx:=N,ct:=N,bk:=D.nx } σ2 H2):=by
 refine ⟨λi m σ H=>m=xs.length-i/\i<=xs.length/\Pv i σ H,⟨xs.length,by simp,cE _,h0⟩,?_⟩;rintro i m σ H ⟨rfl,hi,p⟩;have q:=hl i σ H hi p;by_cases hlt:i<xs.length
 ·have hx:xs[xs.length-1-i]?=some (xs[xs.length-1-i]'Oo):=aB Oo;refine .inr ⟨⟨xs,_,q,rfl,hlt,hx⟩,Pv (i+1),λσ' H' p'=>⟨xs.length-(i+1),Oo,rfl,hlt,p'⟩,λx H' y=>?_⟩;obtain ⟨e,y⟩:=y;subst e;exact hs i x σ _ hlt (y xs q) p
 ·have e:i=xs.length:=Oo;subst e;exact .inl ⟨rfl,hd σ H p⟩
structure gS(X:Cx)(scope:Scope)(xs:List Str)(N':List Str)(js:List Nat):Prop where
 calm:X.calm=true
 free:∀y∈scope.names,y.2=.free->X.env.kindOf y.1=some .cell
 cell:∀y∈scope.names,y.2 ≠ .cell
 kind:scope.kind=.function
 names:∀y∈scope.names,y.2=.local->scope.names.lookup y.1=some .local
 own:∀x∈xs,scope.names.lookup x=some .local
 nofl:∀y,(y,NameKind.free)∈scope.names->scope.names.lookup y=some .local->False
 len:N'.length=xs.length+js.length
 pre:∀(i:Nat) x,xs[i]?=some x->N'[i]?=some x
 nd:N'.Nodup
 slot:∀(i:Nat) (j:Nat),js[i]?=some j->∃y,N'[xs.length+i]?=some y/\X.N[j]?=some y/\(y,NameKind.free)∈scope.names
def BU:Nat->Nat->SB
 | _,0=>aAK
 | i,n+1=>QO (mW i) (BU (i+1) n)
def gN(K:PySem.W.Frag)(n:Nat):TG:=aAJ K n (BU 0 n)
theorem xO{H:Hp}{r:St}{Q:St->Hp->Prop}:∀(vs:List V) (pre os:St),os.length=vs.length->Q (pre++(vs.map some++r)) H->BU pre.length vs.length vs (pre++(os++r)) H Q
 | [],pre,[],_,q=>⟨rfl,q⟩
 | v::vs,pre,o::os,hl,q=>by
  refine ⟨v,vs,rfl,?_⟩;show BU (pre.length+1) vs.length vs ((pre++(o::os++r)).set pre.length (some v)) H Q;have e1:(pre++(o::os++r)).set pre.length (some v)=(pre++[some v])++(os++r):=by
   rw [List.set_append_right _ _ (aI _),Nat.sub_self,List.append_assoc];rfl
  have e2:pre.length+1=(pre++[some v]).length:=by rw [bE];rfl
  rw [e1,e2];refine xO vs (pre++[some v]) os (by simpa using hl) ?_;rw [List.append_assoc];exact q
@[irreducible] def FN(K:PySem.W.Frag)(n:Nat)(J:It)(σ:St)(js:List Nat)(tc:TT)(te:TE)(H1:Hp)(Q:VK):Prop:=∀D,H1 D=none->∃W:Nat->Nat->List V->Hp->Prop,(∃m,W 0 m [] (upd H1 D (.lst []))) /\
 ∀i m ys H2,W i m ys H2->H2 D=some (.lst ys)/\((J.stop i H2/\Q (.ref D) H2)\/(J.go i H2/\ys.length<sizeLine/\∀x H3,J.yld i H2 x H3->∃a vs,x=.ref a/\jH K H3 a vs/\vs.length=n /\
  rF tc (vs.map some++slots σ js) H3 λb H4=>if b=true then wP te (vs.map some++slots σ js) H4 λy H5=>H5 D=some (.lst ys)/\∃m',m' < m/\W (i+1) m' (ys++[y]) (upd H5 D (.lst (ys++[y])))
   else H4 D=some (.lst ys)/\∃m',m' < m/\W (i+1) m' ys H4))
def AS(K:PySem.W.Frag)(n:Nat)(wi:TI)(js:List Nat)(tc:TT)(te:TE):TE:=λσ H Q=>wi σ H λJ H1=>FN K n J σ js tc te H1 Q
section
variable{X:Cx}{pins:List (Addr × Obj)}{σ:St}{H:Hp}{s:Shared}{scope:Scope}{xs:List Str}{N':List Str}{js:List Nat}{fp:List Addr}
theorem gS.cells(S:gS X scope xs N' js)(ok:X.Ok):∀y∈scope.names,y.2=.free->∃c,X.env.cells.lookup y.1=some c:=λy hy hf=>ok.has _ (.inl (S.free y hy hf))
theorem WW(S:gS X scope xs N' js)(I:cF X pins σ H s)(hf:∀b∈fp,iX X pins H b)(hb:∀b∈fp,b<s.heap.objs.size):(mB X scope s.heap.objs.size fp s H N').Ok where
 mod:=I.ok.mod
 kind:=S.kind
 glob:=I.ok.glob
 blt:=I.ok.blt
 above:=aI _
 inj:=λy z c h1 h2=>I.ok.inj y z c (fK (S.cells I.ok) h1) (fK (S.cells I.ok) h2)
 has:=λy hy=>by
  have hm:(y,NameKind.free)∈scope.names:=by
   rcases hy with hy | hy
   ·exact jF (env:=X.env) hy (.inl rfl) S.cell
   ·exact jF (env:=X.env) hy (.inr rfl) S.cell
  obtain ⟨c,hc⟩:=S.cells I.ok _ hm rfl;exact ⟨c,kA (S.cells I.ok) hm hc⟩
 cab:=λ_ _ h=>by cases h
 hd:=λ_=>I.ok.hd S.calm
 frames:=I.ok.frames
 stk:=.inl rfl
 exf:=λb hb'=>⟨λe=>by have:=hb b hb';rw [e] at this;exact bI _ this,λy c h=>(hf b hb').2.2.2.2.1 y c (fK (S.cells I.ok) h)⟩
 bs:=I.bs
 bsz:=aK I.ok.bsz I.sz
 noex:=λb o e hb'=>by
  rcases (hf b hb').2.2.2.1 with h | h
  ·exact I.ok.noex b o e h
  ·exact absurd (aO (aT e) (aK I.ok.bsz h)) (bI _)
 exfs:=λb hb' hs=>by
  have h2:=I.stkSub b hs;rcases bC.mp h2 with h2 | h2
  ·exact (hf b hb').2.1 h2
  ·exact (hf b hb').2.2.1 h2
 funs:=I.stack
 frf:=I.stkFree
theorem RA{h':Heap}{tk:Nat}(S:gS X scope xs N' js)(I:cF X pins σ H s)(hf:∀b∈fp,iX X pins H b)(hb:∀b∈fp,b<s.heap.objs.size)
  (hn:h'.Ns s.heap.objs.size (λ_=>none)) (hk:∀b o,s.heap.get? b=some o->h'.get? b=some o):cF (mB X scope s.heap.objs.size fp s H N') [] (List.replicate xs.length none++slots σ js) H { s with heap:=h',toks:=tk } where
 ok:=WW S I hf hb
 os:=rfl
 bare:=I.bare
 base:=Un.kept hk
 loc:=by
  refine ⟨_,hn,λi y v hi hv hvis=>?_⟩;by_cases hlt0:i<xs.length
  ·rw [cK (by rw [dM];exact hlt0),List.getElem?_replicate,if_pos hlt0] at hv;cases hv
  ·obtain ⟨i,rfl⟩:∃k,i=xs.length+k:=⟨i-xs.length,Oo⟩;rw [cU (by rw [dM];omega),dM,Nat.add_sub_cancel_left] at hv;have hv':(slots σ js)[i]?=some (some v):=hv;have hlt:i<js.length:=by
    have:=(aF.mp hv').1;unfold slots at this
    rwa [aA] at this
   have hj:js[i]?=some js[i]:=aB hlt;obtain ⟨z,h1,h2,h3⟩:=S.slot i _ hj;have hzy:z=y:=by
    have:N'[xs.length+i]?=some y:=hi;rw [h1] at this;cases this;rfl
   subst hzy;rw [uG hj] at hv';have hσ:σ[js[i]]?=some (some v):=by
    cases q:σ[js[i]]? with
    | none=>rw [q] at hv';cases hv'
    | some o=>rw [q] at hv';cases hv';rfl
   have hkc:X.env.kindOf z=some .cell:=S.free _ h3 rfl;obtain ⟨m,hm,hl⟩:=I.loc;obtain ⟨u,ru,lk⟩:=hl _ z v h2 hσ (.inr (.inl hkc));rcases lk with ⟨hk1,_⟩ | ⟨_,c,hc,hcell⟩
   ·rw [hkc] at hk1;cases hk1
   ·refine ⟨u,ru,.inr ⟨?_,c,kA (S.cells I.ok) h3 hc,?_⟩⟩
    ·rcases hvis with hvis | hvis | hvis
     ·exfalso;have hcl:=kA (S.cells I.ok) h3 hc;have hm2:=mT (l:=(relabel scope X.env).names) hvis;unfold relabel at hm2;obtain ⟨⟨n,k⟩,hmem,he⟩:=aV.mp hm2;dsimp only at he;by_cases hq:(k == NameKind.free&&X.env.scope.kind == .function&&X.env.kindOf n == some .cell)=true
      ·rw [if_pos hq] at he;cases he
      ·rw [if_neg hq] at he;cases he;have:=S.names _ hmem rfl;have l2:=mS h3;obtain ⟨c',l2⟩:=l2;dsimp only at this;rw [this] at l2;have key:(relabel scope X.env).names.lookup z=some .local:=lookup_relabel_local this;have hck:scope.names.lookup z=some .local:=this;exact S.nofl z h3 hck
     ·exact .inl hvis
     ·exact .inr hvis
    ·obtain ⟨o,e,r⟩:=hcell;exact ⟨o,hk _ _ e,r⟩
 cell:=λy c h=>by
  obtain ⟨v,o,e,r⟩:=I.cell y c (fK (S.cells I.ok) h);exact ⟨v,o,hk _ _ e,r⟩
 free:=I.hok.fresh (aI _)
 freeC:=λy c h=>I.freeC y c (fK (S.cells I.ok) h)
 pin:=λp hp=>by cases hp
 hok:=I.hok.kept hk
 len:=by
  rw [bE,dM];unfold slots;rw [aA];exact S.len.symm
theorem zQ{H2:Hp}{σ':St}{s2:Shared}{h'':Heap}(S:gS X scope xs N' js)(I:cF X pins σ H s)(hf:∀b∈fp,iX X pins H b)
  (J:cF (mB X scope s.heap.objs.size fp s H N') [] σ' H2 s2) (hs:Heap.SameBut s.heap.objs.size s2.heap h''):cF X pins σ H2 { s2 with heap:=h'' }:=by
 have hC:H2 s.heap.objs.size=none:=J.free;have ne:∀{b:Addr} {o:Obj},s.heap.get? b=some o->b≠s.heap.objs.size:=λe q=>by
  have:=aT e;rw [q] at this;exact bI _ this
 refine I.call' (s':={ s2 with heap:=h'' }) (ch:=fp) (by rw [show ({ s2 with heap:=h'' }:Shared).os=s2.os from rfl];exact J.os) ?_ (J.hok.but hC λb u hb q=>hs.extBut b u hb q) J.bare λb hb=>⟨(hf b hb).2.2.2.1,(hf b hb).2.1,(hf b hb).2.2.2.2.1,(hf b hb).2.2.2.2.2⟩;have U:=J.base;exact {
  keep:=λb o e n h1 h2=>hs.extBut b o (ne e) (U.keep b o e n h1 h2)
  slot:=λb o e n h1 h2=>by
   obtain ⟨sl,q⟩:=U.slot b o e n h1 h2;exact ⟨sl,hs.extBut b _ (ne e) q⟩
  free:=U.free
  there:=λb o e h2=>by
   obtain ⟨o',q⟩:=U.there b o e h2;exact ⟨o',hs.extBut b _ (ne e) q⟩
  tups:=U.tups
  frzs:=U.frzs
  tbls:=U.tbls }
end
section
variable{X:Cx}{pins:List (Addr × Obj)}{σ:St}{H:Hp}{s:Shared}{scope:Scope}{xs:List Str}{N':List Str}{js:List Nat}{fp:List Addr}{elt iter:Expr}{px pos:Pos}{tg:Expr}{ifs:List Expr}{tc:TT}{te:TE}
theorem vP{J:It}{it:Addr}{tn:Nat->Heap->Prop}{RR:Value->Addr->Result->Shared->Prop}{E:Value->Shared->Prop}{Q:VK}
  (S:gS X scope xs N' js) (I:cF X pins σ H s) (T:CN X.prog X.w X.K tg J fp it tn) (h0:tn 0 s.heap) (hf:∀b∈fp,iX X pins H b)
  (hg:∀C fp s₀ H₀,PG (mB X scope C fp s₀ H₀ N') tg (gN X.K xs.length)) (ht:∀C fp s₀ H₀,JY (mB X scope C fp s₀ H₀ N') ifs tc) (he:∀C fp s₀ H₀,PE (mB X scope C fp s₀ H₀ N') elt te)
  (R:∀D,H D=none->∃W:Nat->Nat->List V->Hp->Prop,(∃m,W 0 m [] (upd H D (.lst []))) /\
   ∀i m ys H2,W i m ys H2->H2 D=some (.lst ys)/\((J.stop i H2/\Q (.ref D) H2)\/(J.go i H2/\ys.length<sizeLine/\∀x H3,J.yld i H2 x H3->∃a vs,x=.ref a/\jH X.K H3 a vs/\vs.length=xs.length /\
    tc (vs.map some++slots σ js) H3 λb H4=>if b=true then te (vs.map some++slots σ js) H4 λy H5=>H5 D=some (.lst ys)/\∃m',m' < m/\W (i+1) m' (ys++[y]) (upd H5 D (.lst (ys++[y])))
     else H4 D=some (.lst ys)/\∃m',m' < m/\W (i+1) m' ys H4)))
  (hRR:∀(D:Addr) (H3:Hp) (s3:Shared) (σ':St) (H':Hp) (s':Shared),cF X pins σ H3 s3->(∀b∈fp,iX X pins H3 b)->cF (mB X scope s3.heap.objs.size fp s3 H3 N') [] σ' H' s'->Q (.ref D) H'->RR (.ref D) s3.heap.objs.size (.ok .next) s') :
  wpAny (model X.prog X.w) X.A (newList []) (λacc s₃=>wpAny (model X.prog X.w) X.A (newFunctionEnv scope X.env.globals (vR X scope) [] X.env.qual none .none (some X.env)) (λcenv s₄ =>
   codeAny (model X.prog X.w) X.A (.compStart (.ListComp elt [⟨tg,iter,ifs,0⟩] scope pos) 0 (.ref it) acc { cenv with scope:=relabel scope X.env }) (RR acc cenv.locals) s₄) E s₃) E s:=by
 have hb:∀b∈fp,b<s.heap.objs.size:=λb hb=>by
  obtain ⟨o,e,_⟩:=T.obj 0 _ h0 b hb;exact aT e
 refine wpAny_newObj_type (wpAny_newFunctionEnv S.cell (by intro y hy;simp at hy) (λh₁ hns₁ hsb₁=>?_) S.kind);have hDn:H s.heap.objs.size=none:=I.hok.fresh (aI _);obtain ⟨W,⟨m0,hw0⟩,hW⟩:=R _ hDn;have I3:cF X pins σ (upd H s.heap.objs.size (.lst [])) { s with heap:=s.heap.push { cls:=.type "list",dict:=none,data:=.seq ([]:List Value).toArray } }:=I.lnew (its:=[]) (ys:=[]) (t':=s.toks) .nil (cE _);have hf3:∀b∈fp,iX X pins (upd H s.heap.objs.size (.lst [])) b:=λb hb' =>
  ⟨by rw [cX (λe=>by have:=hb b hb';rw [e] at this;exact bI _ this)];exact (hf b hb').1,(hf b hb').2⟩
 have hb3:∀b∈fp,b<(s.heap.push { cls:=.type "list",dict:=none,data:=.seq ([]:List Value).toArray }).objs.size:=λb hb'=>by
  rw [fC];exact Nat.lt_succ_of_lt (hb b hb')
 have hkeep:∀b o,(s.heap.push { cls:=.type "list",dict:=none,data:=.seq ([]:List Value).toArray }).get? b=some o->h₁.get? b=some o:=λb o e =>
  hsb₁.extBut b o (λq=>by have:=aT e;rw [q] at this;exact bI _ this) (aC _ e)
 have J4:=RA (h':=h₁) (tk:=s.toks+([]:List (Str × Value)).length) S I3 hf3 hb3 hns₁ hkeep;have t4:tn 0 h₁:=T.keep 0 _ _ h0 λb hb' o e=>hkeep b o (aC _ e);have loop:codeAny (model X.prog X.w) X.A (.compLoop (.ListComp elt [⟨tg,iter,ifs,0⟩] scope pos) 0 (.ref it) (.ref s.heap.objs.size) (compEnvC scope (vR X scope) (s.heap.push { cls:=.type "list",dict:=none,data:=.seq ([]:List Value).toArray }).objs.size X.env))
   (RR (.ref s.heap.objs.size) (s.heap.push { cls:=.type "list",dict:=none,data:=.seq ([]:List Value).toArray }).objs.size) { s with heap:=h₁,toks:=s.toks+([]:List (Str × Value)).length }:=by
  refine oZ (λn s'=>∃(i:Nat) (ys:List V) (H2:Hp) (os:St),os.length=xs.length/\cF (mB X scope _ fp _ _ N') [] (os++slots σ js) H2 s'/\tn i s'.heap/\(∀b∈fp,H2 b=none)/\W i n ys H2) ?_ m0 ⟨0,[],_,_,dM,J4,t4,λb hb'=>(hf3 b hb').1,hw0⟩;rintro n s' ⟨i,ys,H2,os,hos,J2,t2,f2,w2⟩;obtain ⟨hD,hcase⟩:=hW i n ys H2 w2;have Fp:∀b∈fp,iX (mB X scope (s.heap.push { cls:=.type "list",dict:=none,data:=.seq ([]:List Value).toArray }).objs.size fp { s with heap:=s.heap.push { cls:=.type "list",dict:=none,data:=.seq ([]:List Value).toArray } } (upd H s.heap.objs.size (.lst [])) N') [] H2 b:=λb hb' =>
   ⟨f2 b hb',(J2.ok.exf b hb').1,J2.ok.exfs b hb',.inl hb',(J2.ok.exf b hb').2,λp hp=>by cases hp⟩
  rcases hcase with ⟨hstop,hq⟩ | ⟨hgo,hz,hturn⟩
  ·refine wpAny_mono (T.done (mB X scope _ fp _ _ N') rfl rfl rfl rfl i [] s' _ H2 MT J2 Fp t2 hstop) (λr s1 ⟨hr,J5⟩=>?_) λ_ _ f=>f;subst hr;exact hRR _ _ _ _ _ _ I3 hf3 J5 hq
  ·refine wpAny_mono (T.item (mB X scope _ fp _ _ N') rfl rfl rfl rfl i [] s' _ H2 MT J2 Fp t2 hgo) (λr s1 ⟨u,hr,hx⟩=>?_) λ_ _ f=>f;subst hr;refine wpAny_mono hx (λ_ s2 ⟨v,H3,J3,rv,hy,t3,f3⟩=>?_) λ_ _ f=>f;have Fp3:∀b∈fp,iX (mB X scope (s.heap.push { cls:=.type "list",dict:=none,data:=.seq ([]:List Value).toArray }).objs.size fp { s with heap:=s.heap.push { cls:=.type "list",dict:=none,data:=.seq ([]:List Value).toArray } } (upd H s.heap.objs.size (.lst [])) N') [] H3 b:=λb hb' =>
    ⟨f3 b hb',(J3.ok.exf b hb').1,J3.ok.exfs b hb',.inl hb',(J3.ok.exf b hb').2,λp hp=>by cases hp⟩
   have P3:=J3.pinned Fp3 (T.obj (i+1) _ t3);have keepT:∀{σ':St} {Hx:Hp} {sx:Shared},cF (mB X scope (s.heap.push { cls:=.type "list",dict:=none,data:=.seq ([]:List Value).toArray }).objs.size fp { s with heap:=s.heap.push { cls:=.type "list",dict:=none,data:=.seq ([]:List Value).toArray } } (upd H s.heap.objs.size (.lst [])) N') ([]++rQ fp s2.heap) σ' Hx sx->tn (i+1) sx.heap/\∀b∈fp,Hx b=none:=λJx =>
    ⟨T.keep (i+1) _ _ t3 λb hb' ob e=>(Jx.pin (b,ob) (aN _ (aN _ (iN hb' e)))).1,λb hb'=>by
     obtain ⟨ob,e,_⟩:=T.obj (i+1) _ t3 b hb';exact (Jx.pin (b,ob) (aN _ (aN _ (iN hb' e)))).2.1⟩
   obtain ⟨a,vs,ev,hq,hl,qe⟩:=hturn v H3 hy;subst ev;refine wpAny_mono (hg _ _ _ _ _ _ (os++slots σ js) H3 (.ref a) u (λσ' H'=>σ'=vs.map some++slots σ js/\H'=H3) P3 rv ⟨a,vs,rfl,hq,hl,?_⟩) (λ_ s5 ⟨σ5,H5,J5,e5,e6⟩=>?_) λ_ _ f=>f
   ·have:=xO (H:=H3) (r:=slots σ js) (Q:=λσ' H'=>σ'=vs.map some++slots σ js/\H'=H3) vs [] os (by rw [hos,hl]) ⟨rfl,rfl⟩;rw [hl] at this;exact this
   subst e5 e6;refine wpAny_mono (ht _ _ _ _ _ _ _ _ _ J5 qe) (λok s6 ⟨H6,J6,q6⟩=>?_) λ_ _ f=>f;dsimp only at q6;by_cases hok:ok=true
   ·rw [if_pos hok] at q6 ⊢;refine wpAny_mono (he _ _ _ _ _ _ _ _ _ J6 q6) (λy s7 ⟨w',H7,J7,r7,hD7,m',hm',w7⟩=>?_) λ_ _ f=>f;refine wpAny_mono (qT (X:=mB X scope _ fp _ _ N') _ _ _ _ (.ref s.heap.objs.size) [w'] (.ref s.heap.objs.size) [y] (λ_ H8=>H8=upd H7 s.heap.objs.size (.lst (ys++[w']))) J7 rfl (.cons r7 .nil) ⟨_,_,_,rfl,rfl,hD7,hz,rfl⟩) (λ_ s8 ⟨_,H8,J8,_,e8⟩=>?_) λ_ _ f=>f;subst e8;obtain ⟨k1,k2⟩:=keepT J8;exact ⟨m',hm',i+1,ys++[w'],_,vs.map some,by rw [aA,hl],J8.unpinned,k1,k2,w7⟩
   ·rw [if_neg hok] at q6 ⊢;obtain ⟨_,m',hm',w7⟩:=q6;obtain ⟨k1,k2⟩:=keepT J6;exact ⟨m',hm',i+1,ys,_,vs.map some,by rw [aA,hl],J6.unpinned,k1,k2,w7⟩
 refine codeAny_compStart_list loop (T.self X.A 0 _ _ _ t4 loop)
theorem PQ{wi:TI}(S:gS X scope xs N' js)(hi:PI X tg iter wi)(hg:∀C fp s₀ H₀,PG (mB X scope C fp s₀ H₀ N') tg (gN X.K xs.length))(ht:∀C fp s₀ H₀,JY (mB X scope C fp s₀ H₀ N') ifs tc)(he:∀C fp s₀ H₀,PE (mB X scope C fp s₀ H₀ N') elt te)
  (hs:∀x,foldedSetIterable iter X.env x=pure x:=by intro _;rfl):PE X (.ListComp elt [⟨tg,iter,ifs,0⟩] scope pos) (AS X.K xs.length wi js tc te):=by
 intro pins s σ H Q I h;rw [eval_ListComp];refine wpAny_comprehension_free (use:=none) rfl hs (jG (S.cells I.ok)) S.kind S.names (wpAny_mono (hi pins s σ H _ I h) (λv s1 h1=>?_) λ_ _ e=>e);refine wpAny_mono h1 (λitv s2 ⟨it,fp,tn,J,H2,e,I2,T,t0,hf,R⟩=>?_) λ_ _ e=>e;subst e;refine vP (te:=wP te) (tc:=rF tc) S I2 T t0 hf hg (λC fp s₀ H₀=>(ht C fp s₀ H₀).mono) (λC fp s₀ H₀=>(he C fp s₀ H₀).mono) (by unfold FN at R;exact R) ?_;intro D H3 s3 σ' H' s' I3 hf3 J3 q;obtain ⟨m,hm,_⟩:=J3.loc;exact ⟨m,hm,λh' hs'=>⟨.ref D,H',zQ S I3 hf3 J3 hs',rfl,q⟩⟩
theorem DU{wi:TI}{y:Str}{py spos:Pos}{i:Nat}(S:gS X scope xs N' js)(hN:X.N.Nodup)(hiN:X.N[i]?=some y)(hy:X.env.kindOf y=some .local)(hi:PI X tg iter wi)(hg:∀C fp s₀ H₀,PG (mB X scope C fp s₀ H₀ N') tg (gN X.K xs.length))(ht:∀C fp s₀ H₀,JY (mB X scope C fp s₀ H₀ N') ifs tc)(he:∀C fp s₀ H₀,PE (mB X scope C fp s₀ H₀ N') elt te)
  (hsw:swapsWith (.ListComp elt [⟨tg,iter,ifs,0⟩] scope pos) (some (.Name y py)) spos.line X.env=pure true) (hs:∀x,foldedSetIterable iter X.env x=pure x:=by intro _;rfl) :
  PS X (.Assign [.Name y py] (.ListComp elt [⟨tg,iter,ifs,0⟩] scope pos) spos) (yE (AS X.K xs.length wi js tc te) (mW i)):=by
 intro pins s σ H D0 I h;rw [exec_Assign_Name_used _ _ _ _ hsw];refine wpAny_bind (wpAny_standAt (wpAny_bind ?_));show wpAny _ X.A (do let _ <-comprehension (.ListComp elt [⟨tg,iter,ifs,0⟩] scope pos) scope X.env _ (newList []) false (eval iter X.env) (some (assign (.Name y py) X.env))) _ _ s;refine wpAny_bind (wpAny_mono (wpAny_comprehension_free (use:=some (assign (.Name y py) X.env)) (Q:=λ_ s'=>SP X pins D0 .next s') rfl hs (jG (S.cells I.ok)) S.kind S.names (wpAny_mono (hi pins s σ H _ I h) (λv s1 h1=>?_) λ_ _ e=>e)) (λ_ s' hq=>wpAny_pure (wpAny_pure hq)) λ_ _ e=>e);refine wpAny_mono h1 (λitv s2 ⟨it,fp,tn,J,H2,e,I2,T,t0,hf,R⟩=>?_) λ_ _ e=>e;subst e;refine vP (te:=wP te) (tc:=rF tc) (Q:=λv H'=>mW i v σ H' D0.nx) S I2 T t0 hf hg (λC fp s₀ H₀=>(ht C fp s₀ H₀).mono) (λC fp s₀ H₀=>(he C fp s₀ H₀).mono) (by unfold FN at R;exact R) ?_;intro D H3 s3 σ' H' s' I3 hf3 J3 q;obtain ⟨m,hm,_⟩:=J3.loc;have IX:cF X pins σ H' s':=zQ S I3 hf3 J3 (Heap.SameBut.refl ..);have hCL:s3.heap.objs.size≠X.env.locals:=λe=>by have:=I3.lt;rw [e] at this;exact bI _ this
 show wpAny _ X.A (assign (.Name y py) X.env (.ref D)) _ _ _;refine wpAny_assign_Name (qQ IX hN hiN (.inl hy) (v:=.ref D) rfl (λs5 I5 hsb=>?_) (.inr hy));obtain ⟨a,hsb,ha⟩:=hsb;have hCa:s3.heap.objs.size≠a:=by
  rcases ha with rfl | ha
  ·exact hCL
  ·intro e;obtain ⟨v,o,eo,_⟩:=I3.cell y a ha;have:=aT eo;rw [<-e] at this;exact bI _ this
 refine ⟨m,hm.sameBut hsb hCa,λh' hs'=>⟨_,H',?_,q⟩⟩;exact I5.turned (it:=s3.heap.objs.size) (t':=s5.toks) (λb o n e=>hs'.extBut b o n e) J3.free hCL (.inr I3.sz)
  (λz c hz e=>by
   obtain ⟨v,o,eo,_⟩:=I3.cell z c hz;have:=aT eo;rw [e] at this;exact bI _ this)
  (λp hp e=>by
   have:=aT (I3.pin p hp).1;rw [e] at this;exact bI _ this)
end
section
variable{X:Cx}{scope:Scope}{x1 x2 x3 y:Str}{N':List Str}{js:List Nat}{elt iter tg:Expr}{ifs:List Expr}{py pos spos:Pos}{tc:TT}{te:TE}{wi:TI}{i:Nat}
theorem YC{xs:List Str}{k:Nat}{x:Str}{p:Pos}(S:gS X scope xs N' js)(h:xs[k]?=some x)(C:Addr)(fp:List Addr)(s₀:Shared)(H₀:Hp):ZE (mB X scope C fp s₀ H₀ N') (.Name x p) (mW k) :=
 have l:=S.own x (aG h)
 dF S.nd (S.pre k x h) (.inl (lookup_relabel_local l)) (.inr (lookup_relabel_local l))
theorem NC{p1 p2 pt:Pos}{kk:Nat}(S:gS X scope [x1,x2] N' js)(C:Addr)(fp:List Addr)(s₀:Shared)(H₀:Hp):ZE (mB X scope C fp s₀ H₀ N') (.Tuple [.Name x1 p1,.Name x2 p2] kk pt) (gN X.K 2) :=
 wM rfl (iY (YC S rfl C fp s₀ H₀) (iY (YC S rfl C fp s₀ H₀) sC))
theorem KD{p1 p2 pt:Pos}{kk:Nat}(S:gS X scope [x1,x2] N' js)(hi:SC X (.Tuple [.Name x1 p1,.Name x2 p2] kk pt) iter wi)(ht:∀C fp s₀ H₀,HP (mB X scope C fp s₀ H₀ N') ifs tc)(he:∀C fp s₀ H₀,iG (mB X scope C fp s₀ H₀ N') elt te)
  (hs:∀x,foldedSetIterable iter X.env x=pure x:=by intro _;rfl):iG X (.ListComp elt [⟨.Tuple [.Name x1 p1,.Name x2 p2] kk pt,iter,ifs,0⟩] scope pos) (AS X.K 2 wi js tc te) :=
 ⟨PQ S hi.p (λC fp s₀ H₀=>(NC S C fp s₀ H₀).p) (λC fp s₀ H₀=>(ht C fp s₀ H₀).p) (λC fp s₀ H₀=>(he C fp s₀ H₀).p) hs⟩
theorem AI{p1 p2 pt:Pos}{kk:Nat}(S:gS X scope [x1,x2] N' js)(hN:X.N.Nodup)(hiN:X.N[i]?=some y)(hy:X.env.kindOf y=some .local)(hi:SC X (.Tuple [.Name x1 p1,.Name x2 p2] kk pt) iter wi)(ht:∀C fp s₀ H₀,HP (mB X scope C fp s₀ H₀ N') ifs tc)(he:∀C fp s₀ H₀,iG (mB X scope C fp s₀ H₀ N') elt te)
  (hsw:swapsWith (.ListComp elt [⟨.Tuple [.Name x1 p1,.Name x2 p2] kk pt,iter,ifs,0⟩] scope pos) (some (.Name y py)) spos.line X.env=pure true:=by rfl) (hs:∀x,foldedSetIterable iter X.env x=pure x:=by intro _;rfl) :
  FM X (.Assign [.Name y py] (.ListComp elt [⟨.Tuple [.Name x1 p1,.Name x2 p2] kk pt,iter,ifs,0⟩] scope pos) spos) (yE (AS X.K 2 wi js tc te) (mW i)) :=
 ⟨DU S hN hiN hy hi.p (λC fp s₀ H₀=>(NC S C fp s₀ H₀).p) (λC fp s₀ H₀=>(ht C fp s₀ H₀).p) (λC fp s₀ H₀=>(he C fp s₀ H₀).p) hsw hs⟩
end
def RD(psc scope:Scope)(N:List Str)(xs N':List Str)(js:List Nat):Bool :=
 (scope.names.all λy=>!(y.2 == .free) || psc.names.lookup y.1 == some .cell)&&(scope.names.all λy=>!(y.2 == .cell))&&scope.kind == .function &&
 (scope.names.all λy=>!(y.2 == .local) || scope.names.lookup y.1 == some .local)&&(xs.all λx=>scope.names.lookup x == some .local) &&
 (scope.names.all λy=>!(y.2 == .free) || !(scope.names.lookup y.1 == some .local))&&N'.length == xs.length+js.length&&N'.take xs.length == xs&&decide N'.Nodup &&
 ((List.range js.length).all λi=>match js[i]?,N'[xs.length+i]? with
  | some j,some y=>N[j]? == some y&&scope.names.contains (y,NameKind.free)
  | _,_=>false)
theorem gS.of{X:Cx}{psc scope:Scope}{N:List Str}{xs N':List Str}{js:List Nat}(h:RD psc scope N xs N' js=true)(hX:X.env.scope=psc)(hN:X.N=N)(hc:X.calm=true):gS X scope xs N' js:=by
 unfold RD at h;simp only [cM] at h;obtain ⟨⟨⟨⟨⟨⟨⟨⟨⟨h1,h2⟩,h3⟩,h4⟩,h5⟩,h6⟩,h7⟩,h8⟩,h9⟩,h10⟩:=h;rw [List.all_eq_true] at h1 h2 h4 h5 h6 h10;refine ⟨hc,λy hy e=>?_,λy hy e=>?_,by simpa using h3,λy hy e=>?_,λx hx=>by simpa using h5 x hx,λy hy e=>?_,by simpa using h7,λi x hx=>?_,of_decide_eq_true h9,λi j hj=>?_⟩
 ·have:=h1 y hy;rw [e] at this;show X.env.scope.names.lookup y.1=_;rw [hX];simpa using this
 ·have:=h2 y hy;rw [e] at this;simp at this
 ·have:=h4 y hy;rw [e] at this;simpa using this
 ·have:=h6 _ hy;rw [e] at this;simp at this
 ·have e8:N'.take xs.length=xs:=by simpa using h8
  have hi:i<xs.length:=(aF.mp hx).1;rw [<-hx]
  conv=>rhs;rw [<-e8]
  rw [List.getElem?_take,if_pos hi]
 ·have hi:i<js.length:=(aF.mp hj).1;have:=h10 i (bR.mpr hi);rw [hj] at this;cases q:N'[xs.length+i]? with
  | none=>rw [q] at this;simp at this
  | some y =>
   rw [q] at this;simp only [cM] at this;exact ⟨y,rfl,by rw [hN];simpa using this.1,List.contains_iff_mem.mp this.2⟩
section
variable{js:List Nat}{te:TE}{tc:TT}{σ:St}{H:Hp}{Q:VK}
end
end L2
namespace L2
open PySem
section
variable{js:List Nat}{te:TE}{σ:St}{H:Hp}{Q:VK}
theorem zT{K:PySem.W.Frag}{b1 b2:Bool}{l1 l2:Addr}{xs ys:List V}(R:Nat->V->Hp->Prop)(hR:∀i y H1 H2,dB H1 H2->R i y H1->R i y H2)(hz:xs.length<=100000)(h1:H l1=some (CS b1 xs))(h2:H l2=some (CS b2 ys))(hl:xs.length=ys.length)
  (hs:∀i x y H' (Q':VK),xs[i]?=some x->ys[i]?=some y->aY H H'->(∀z H6,aY H' H6->R i z H6->Q' z H6)->te (some x::some y::slots σ js) H' Q')
  (hd:∀D zs H',H D=none->H' D=some (.lst zs)->aY H H'->zs.length=xs.length->(∀(i:Nat) (z:V),zs[i]?=some z->R i z H')->Q (.ref D) H'):FN K 2 (Itz b1 b2 l1 l2) σ js AO te H Q:=by
 unfold FN;intro D hD;refine ⟨λi m zs H'=>m=xs.length-i/\i<=xs.length/\zs.length=i/\H' D=some (.lst zs)/\aY H H'/\∀(i:Nat) (z:V),zs[i]?=some z->R i z H',⟨xs.length,by simp,cE _,rfl,bM,aY.upd hD,λi z h=>by simp at h⟩,?_⟩;rintro i m zs H2 ⟨rfl,hi,hy,hD2,s2,hr⟩;refine ⟨hD2,?_⟩;by_cases hlt:i<xs.length
 ·have hx:xs[i]?=some xs[i]:=aB Oo;have hy':ys[i]?=some (ys[i]'Oo):=aB Oo;refine .inr ⟨⟨xs,ys,_,_,s2 _ _ h1,s2 _ _ h2,hx,hy'⟩,bA (m:=100000) Oo Dd,λv H3 y=>?_⟩;obtain ⟨q,x,y,rfl,hq,rfl,hh⟩:=y;obtain ⟨g1,g2⟩:=hh xs ys (s2 _ _ h1) (s2 _ _ h2);have s3:=aY.upd (o:=.tup [x,y]) hq;have e3:(upd H2 q (.tup [x,y])) q=some (.tup [x,y]):=bM;generalize upd H2 q (.tup [x,y])=H3 at s3 e3;refine ⟨q,[x,y],rfl,jH.of e3,rfl,λb H4=>b=true/\H4=H3,⟨rfl,rfl⟩,?_⟩;rintro b H4 ⟨rfl,rfl⟩;rw [if_pos rfl];refine ⟨λz H5=>aY H4 H5/\R i z H5,hs i x y H4 _ g1 g2 (s2.trans s3) λz H6 s6 r=>⟨s6,r⟩,?_⟩;rintro z H5 ⟨s5,r⟩;have e5:=s5 _ _ (s3 _ _ hD2);have t6:dB H5 (upd H5 D (.lst (zs++[z]))):=aQ.t aQ.self e5;refine ⟨e5,xs.length-(i+1),Oo,rfl,hlt,by rw [bE,hy];rfl,bM,aY.thru hD ((s2.trans s3).trans s5) aQ.self,?_⟩;exact wW (R:=λj z=>R j z _) (λj w hj=>hR j w _ _ ((s3.trans s5).t.trans t6) (hr j w hj)) (by rw [hy];exact hR i z _ _ t6 r)
 ·have e:i=xs.length:=Oo;subst e;exact .inl ⟨⟨xs,ys,s2 _ _ h1,s2 _ _ h2,.inl (aI _)⟩,hd D zs H2 hD hD2 s2 hy hr⟩
end
theorem Paired.toRepL{H:Hp}{α:Type}{g:α->PyData}:∀{as:List α}{xs:List V},Paired (λa x=>cC H (g a) x) as xs->aW H (as.map g) xs
 | _,_,.nil=>aW.nil
 | _,_,.cons h t=>aW.cons h (Paired.toRepL t)
section
variable{X:Cx}{scope:Scope}{x1 x2 x3 y:Str}{N':List Str}{js:List Nat}{elt iter tg:Expr}{ifs:List Expr}{py pos spos:Pos}{tc:TT}{te:TE}{wi wj:TI}{i:Nat}
end
end L2
namespace L2
open PySem PySem.Spec PyProof.Rows
section
variable{X:Cx}
@[irreducible] def IT(K:PySem.W.Frag):R2:=λx y H Q=>∃a b xs ys,x=.ref a/\y=.ref b/\H a=some (.tup xs)/\H b=some (.tup ys)/\xs.length+ys.length<=1000/\∀c H',aY H H'->H' c=some (.tup (xs++ys))->Q (.ref c) H'
theorem RJ{K:PySem.W.Frag}{H:Hp}{Q:VK}{a b:Addr}{xs ys:List V}(h1:H a=some (.tup xs))(h2:H b=some (.tup ys))(hz:xs.length+ys.length<=1000)(k:∀c H',aY H H'->H' c=some (.tup (xs++ys))->Q (.ref c) H'):IT K (.ref a) (.ref b) H Q:=by
 unfold IT;exact ⟨a,b,xs,ys,rfl,rfl,h1,h2,hz,k⟩
theorem sY(K:PySem.W.Frag)(hK:X.K=K:=by rfl):tW X (binaryOp .Add) (IT K):=by
 subst hK;unfold IT;intro pins s σ H x y v u Q I rx ry h;obtain ⟨a,b,xs,ys,rfl,rfl,ha,hb,hz,q⟩:=h;by_cases hx:xs=[]
 ·cases rx;cases ry;subst hx;obtain ⟨its,r1,p1,_⟩:=I.tuple (jH.of ha);obtain ⟨its2,r2,p2,_⟩:=I.tuple (jH.of hb);cases r1;obtain ⟨⟨cls,dd,data,sl⟩,ho,hc,n,hd⟩:=id p1;obtain ⟨⟨cls2,dd2,data2,sl2⟩,ho2,hc2,n2,hd2⟩:=id p2;simp only at hc hd hc2 hd2;subst hc hd hc2 hd2;exact concat_meets ⟨_,ho,rfl⟩ ⟨_,ho2,rfl⟩ noFill_tuple_add seq_tuple_add PySem.F.slot_tuple_add PySem.F.entry_tuple_add (PySem.F.args_tuple_add_2 _ _)
   (tuple_addW0 a b _ _ n n2 dd dd2 sl sl2 rfl) ⟨ho,ho2,⟨.ref b,H,I,rfl,q b H (aY.refl _) hb⟩⟩
 ·refine WF pins s σ H _ _ v u Q I rx ry ⟨a,b,xs,ys,rfl,rfl,jH.of ha,jH.of hb,hx,aK hz Dd,λe=>?_,λ_ p hp=>q p _ (aY.upd hp) bM⟩;subst e;exact q a H (aY.refl _) (by rw [List.append_nil];exact ha)
end
theorem xL(a:Int)(t:Tok)(l:Addr)(items:Array Value)(n:Nat)(dd:Option Addr)(sl:Array (Option Value)) :
  Meets (Builtin.«int.__rmul__» ⟨[.int a t,.ref l],[]⟩) (λ_ R s=>s.heap.get? l=some { cls:=.type "tuple",dict:=dd,data:=.seq items n,slots:=sl }/\R (.ok (.ret Value.notImplemented)) s) :=
 .of_wp λprog w A R s h=>by
  obtain ⟨hp,g,d,tk,os⟩:=s;obtain ⟨hl,h⟩:=h
  wp_walk
  exact ⟨_,rfl,h⟩
theorem FW(l:Addr)(items:Array Value)(n:Nat)(dd:Option Addr)(sl:Array (Option Value))(k:Int)(u:Tok)(h0:2<=k)(h1:k<=64)(he:items.isEmpty=false)(hz:items.size<=64)(hsz:((List.replicate k.toNat items).foldl (· ++ ·) #[]).size<=sizeLine) :
  Meets (Builtin.«tuple.__mul__» ⟨[.ref l,.int k u],[]⟩) (λ_ R s=>s.heap.get? l=some { cls:=.type "tuple",dict:=dd,data:=.seq items n,slots:=sl }/\R (.ok (.ret (.ref s.heap.objs.size))) { s with heap:=s.heap.push { cls:=.type "tuple",data:=.seq ((List.replicate k.toNat items).foldl (· ++ ·) #[]) } }) :=
 .of_wp λprog w A R s h=>by
  obtain ⟨hp,g,d,tk,os⟩:=s;obtain ⟨hl,h⟩:=h;have f1:=AutoSeq1.idx_int
  wp_walk using wpAny_loadPart' hl
  rw [if_neg (by simp;omega)]
  wp_walk using wpAny_loadPart' hl
  have he':¬items=#[]:=λz=>by simp [z] at he
  have hm:(items.size:Int)*k<=4096:=by
   have h2:(items.size:Int)*k<=64*64:=Int.mul_le_mul Oo h1 Oo Oo;omega
  rw [if_neg (by simp;exact ⟨he',Oo⟩)];rw [if_neg (by simp;exact ⟨Oo,he'⟩)];show wpAny _ _ (if (items.size:Int)*k > (2^63-1)/8 then _ else _) _ _ _;rw [if_neg Oo];show wpAny _ _ (if Builtin.Tuple.tupleTooMany (items.size*k)=true then _ else _) _ _ _;rw [if_neg (by unfold Builtin.Tuple.tupleTooMany;simp;exact Int.le_trans hm Dd)]
  wp_walk
  exact ⟨_,rfl,h⟩
theorem uL:fillsNumberSlot (.type "tuple") "mul" = pure false:=PySem.fillsNumberSlot_seq (id := "tuple.__mul__") (r:=some (.builtin "tuple.__rmul__")) F.slot_tuple_mul.lookup Kk F.slot_tuple_rmul.lookup Kk
theorem BH:seqRepeat? (.type "tuple")=pure (some (.builtin "tuple.__mul__")):=by
 unfold seqRepeat?;rw [PySem.seqSlot_of (T := "tuple") (name := "__mul__") (id := "tuple.__mul__") F.slot_tuple_mul.lookup Kk,PySem.seqSlot_of (T := "tuple") (name := "__rmul__") (id := "tuple.__rmul__") F.slot_tuple_rmul.lookup Kk];rfl
@[irreducible] def IP:R2:=λx y H Q=>∃a z,∃k:Nat,x=.ref a/\y=.int (k:Int)/\H a=some (.tup [z])/\2<=k/\k<=64/\∀c H',aY H H'->H' c=some (.tup (List.replicate k z))->Q (.ref c) H'
theorem WJ{H:Hp}{Q:VK}{a:Addr}{z:V}{k:Nat}(h:H a=some (.tup [z]))(h2:2<=k)(hk:k<=64)(q:∀c H',aY H H'->H' c=some (.tup (List.replicate k z))->Q (.ref c) H'):IP (.ref a) (.int (k:Int)) H Q:=by
 unfold IP;exact ⟨a,z,k,rfl,rfl,h,h2,hk,q⟩
section
variable{X:Cx}
theorem vY:tW X (binaryOp .Mult) IP:=by
 unfold IP;intro pins s σ H x y v u Q I rx ry h;obtain ⟨a,z,k,rfl,rfl,hH,h2,hk,q⟩:=h;cases rx;obtain ⟨t,rfl⟩:=(show ∃t,u=Value.int (k:Int) t from ry);obtain ⟨its,r,p,_⟩:=I.tuple (jH.of hH);obtain ⟨w1,rfl,rw1⟩:=lD r;obtain ⟨⟨cls,dd,data,sl⟩,ho,hc,n,hd⟩:=id p;simp only at hc hd;subst hc hd;have flat1:∀k:Nat,(List.replicate k [w1]).flatten=List.replicate k w1:=λk=>by
  induction k with
  | zero=>rfl
  | succ k ih=>rw [List.replicate_succ,List.flatten_cons,ih,List.replicate_succ];rfl
 have f0:List.foldl (λx1 x2=>x1++x2) #[] (List.replicate k [w1].toArray)=(List.replicate k w1).toArray:=by
  have:=zM [w1] k [];rw [List.nil_append,flat1] at this;exact this
 have vr:∀k:Nat,cZ (List.replicate k z) (List.replicate k w1):=λk=>by
  induction k with
  | zero=>exact .nil
  | succ k ih=>exact .cons rw1 ih
 generalize hk':(k:Int)=kk;have hkk:kk.toNat=k:=Oo;refine wpAny_binaryOp_repeat_ref (T := "tuple") (U := "int") Dd ⟨_,ho,rfl⟩ (λs'=>typeIs_int s' kk t) uL F.fills_int_mul F.slot_int_rmul BH F.slot_int_index.lookup
  (call_meets F.slot_int_rmul (typeIs_int s kk t) F.entry_int_rmul (F.args_int_rmul_2 _ _) (xL kk t a [w1].toArray n dd sl) ⟨ho,rfl,⟨_,ho,rfl⟩,?_⟩)
 refine call_meets F.slot_tuple_mul ⟨_,ho,rfl⟩ F.entry_tuple_mul (F.args_tuple_mul_2 _ _) (FW a [w1].toArray n dd sl kk t Oo Oo rfl (by show 1<=64;decide) (by rw [hkk,f0,aS,dM];exact aK hk Dd)) ⟨ho,?_⟩;rw [hkk,f0];refine ⟨.ref _,_,I.laid (t':=s.toks) (o:=.tup (List.replicate k z)) (λb ob q=>aC _ q) (aI _) ?_,rfl,q _ _ (aY.upd (I.hok.fresh (aI _))) bM⟩;exact ⟨⟨by rw [dM];exact sT hk,_,bB _ rfl,rfl⟩,_,vr k,IsTup.new _ _⟩
end
@[irreducible] def VD:V->List V->Hp->VK->Prop:=IS
theorem GX{X:Cx}:MtR X "list.extend" VD:=by unfold VD;exact LL
theorem aAN{H:Hp}{l b:Addr}{xs zs:List V}{Q:VK}(h:H l=some (.lst xs))(h2:H b=some (.lst zs))(hz:xs.length+zs.length<=1000)(k:∀H',H' l=some (.lst (xs++zs))->aQ l H H'->Q .non H'):VD (.ref l) [.ref b] H Q:=by
 unfold VD;exact ⟨l,b,xs,zs,rfl,rfl,h,h2,Nat.le_of_lt (uF hz),k _ bM aQ.self⟩
section
variable{prog:Program}{w:World}{A:Around}{E:Value->Shared->Prop}{s:Shared}{l:Addr}{xs:Array (Int × Tok)}
theorem NR{Q:Value->Shared->Prop}(hh:A.handled=none)(hl:s.heap.IsTuple l (intItems xs))
  (h:∀h' tk t',(∀b o,s.heap.get? b=some o->h'.get? b=some o)->Q (.int (preSum (numAt xs) xs.size) t') { s with heap:=h',toks:=tk }) :
  wpAny (model prog w) A (call (.builtin "sum") [.ref l]) Q E s:=by
 have hlt:l<s.heap.objs.size:=by obtain ⟨_,e,_⟩:=hl;exact aT e
 refine call_sum_walkG (wpAny_pyIter_tuple hl ?_);refine ⟨_,[_,l],[_],_,_,_,numAt xs,rfl,Walks.tuple (A:=A.in1) hh _ l (cG hlt) (intItems xs),⟨⟨_,bB _ rfl,rfl,rfl⟩,hl.push _⟩,λc hc=>?_,(λ_ _=>intItems_at),λh' tk t' hk=>?_⟩
 ·show c<(s.heap.push _).objs.size;rw [fC];rcases bC.mp hc with rfl | hc
  ·exact Nat.lt_succ_self _
  ·rcases bC.mp hc with rfl | hc
   ·exact Nat.lt_succ_of_lt hlt
   ·cases hc
 ·have:=h h' tk t' λc o e=>by
   refine hk c o (λhm=>?_) (aC _ e);rcases bC.mp hm with e1 | hm
   ·exact absurd (e1 ▸ aT e) (bI _)
   ·cases hm
  simpa [intItems] using this
end
@[irreducible] def IM(K:PySem.W.Frag):List V->Hp->VK->Prop:=λxs H Q=>∃(p:Addr) (ns:List Int),xs=[.ref p]/\jH K H p (ns.map V.int)/\Q (.int ns.sum) H
theorem rsT{K:PySem.W.Frag}{H:Hp}{p:Addr}{ns:List Int}{Q:VK}(h:jH K H p (ns.map V.int))(q:Q (.int ns.sum) H):IM K [.ref p] H Q:=by unfold IM;exact ⟨p,ns,rfl,h,q⟩
theorem qZ{X:Cx}(K:PySem.W.Frag)(hc:X.calm=true)(hK:X.K=K:=by rfl):jJ X (.builtin "sum") (IM K):=by
 subst hK;unfold IM;intro pins s σ H xs us Q I r h;obtain ⟨p,ns,rfl,hq,q⟩:=h;obtain ⟨u,rfl,rx⟩:=lD r;cases rx;obtain ⟨its,r',pl,hz⟩:=I.tuple hq;have hi:=oW r';obtain ⟨xs',e⟩:=hi.allInts.items;rw [e] at pl;refine NR (I.ok.hd hc) pl λh' tk t' hk=>⟨.int ns.sum,H,I.kept hk,⟨t',?_⟩,q⟩;rw [preSum_eq,List.take_of_length_le (by simp)];rw [<-hi.numsOf];have e2:its=(intItems xs').toList:=by rw [<-e]
 rw [e2,nums_intItems]
section
variable{js:List Nat}{te:TE}{tc:TT}{σ:St}{H:Hp}{Q:VK}
theorem aW.atI{α:Type}{g:α->PyData}:∀{as:List α}{xs:List V},aW H (as.map g) xs->∀{i:Nat}{x:V},xs[i]?=some x->∃a,as[i]?=some a/\cC H (g a) x:=by
 intro as xs r i x e;obtain ⟨d,h1,h2⟩:=r.get e;rw [aM] at h1;cases q:as[i]? with
 | none=>rw [q] at h1;cases h1
 | some a=>rw [q] at h1;cases h1;exact ⟨a,rfl,h2⟩
theorem zS{K:PySem.W.Frag}{a:Addr}{xs:List V}{α:Type}{g:α->PyData}{as:List α}(r:aW H (as.map g) xs)(p:α->Bool)(hz:xs.length<=100000)(hl:H a=some (.lst xs))
  (ht:∀x c H' (Q':Bool->Hp->Prop),c∈as->cC H' (g c) x->aY H H'->(∀H5,aY H' H5->Q' (p c) H5)->tc (some x::slots σ js) H' Q')
  (he:∀x H' (Q':VK),Q' x H'->te (some x::slots σ js) H' Q')
  (hd:∀D ys H',H D=none->H' D=some (.lst ys)->aY H H'->aW H' ((as.filter p).map g) ys->Q (.ref D) H'):lE (Itl K a) σ js tc te H Q:=by
 unfold lE;intro D hD;have hlen:xs.length=as.length:=by rw [r.len,aA]
 refine ⟨λi m ys H'=>m=xs.length-i/\i<=xs.length/\H' D=some (.lst ys)/\aY H H'/\aW H (((as.take i).filter p).map g) ys/\ys.length<=i,⟨xs.length,by simp,cE _,bM,aY.upd hD,aW.nil,aI _⟩,?_⟩;rintro i m ys H2 ⟨rfl,hi,hD2,s2,ry,hy⟩;refine ⟨hD2,?_⟩;by_cases hlt:i<xs.length
 ·have hx:xs[i]?=some xs[i]:=aB hlt;refine .inr ⟨⟨xs,_,fN.of (s2 _ _ hl),hx⟩,bA (m:=100000) Oo Dd,λx H3 hy3=>?_⟩;obtain ⟨rfl,hx3⟩:=hy3;have hx3:=hx3 xs (fN.of (s2 _ _ hl));obtain ⟨c,hc,rc⟩:=r.atI hx3;have hti:as.take (i+1)=as.take i++[c]:=by rw [gK,hc];rfl
  refine ⟨λb H4=>b=p c/\aY H3 H4,ht x c H3 _ (aG hc) (rc.same s2) s2 λH5 s5=>⟨rfl,s5⟩,?_⟩;rintro b H4 ⟨rfl,s4⟩;by_cases hp:p c=true
  ·rw [if_pos hp];refine ⟨λy H5=>y=x/\H5=H4,he x H4 _ ⟨rfl,rfl⟩,?_⟩;rintro y H5 ⟨rfl,rfl⟩;refine ⟨s4 _ _ hD2,_,?_,rfl,hlt,bM,aY.thru hD (s2.trans s4) aQ.self,?_,?_⟩
   ·omega
   ·rw [hti,List.filter_append,bF];have:List.filter p [c]=[c]:=by simp [hp]
    rw [this];exact aW.snoc ry rc
   ·rw [bE,List.length_singleton];omega
  ·rw [if_neg hp];refine ⟨s4 _ _ hD2,_,?_,rfl,hlt,s4 _ _ hD2,s2.trans s4,?_,?_⟩
   ·omega
   ·rw [hti,List.filter_append];have:List.filter p [c]=[]:=by simp [hp]
    rw [this,List.append_nil];exact ry
   ·omega
 ·have e:i=xs.length:=Oo;subst e;refine .inl ⟨⟨xs,fN.of (s2 _ _ hl),aI _⟩,hd D ys H2 hD hD2 s2 ?_⟩;rw [hlen,cR] at ry;exact ry.same s2
end
theorem vU{X:Cx}{e:Expr}{t:TT}(h:HN X e t):HN X e (rF t):=⟨h.p.mono⟩
end L2
namespace HT
open PySem PyProof.Rows
section
variable{prog:Program}{w:World}{A:Around}{E:Value->Shared->Prop}{s:Shared}
theorem rC{t sl:Addr}{items:Array Value}{vl vu:Value}{lo hi:Option Int}{Q:Value->Shared->Prop}(ht:IsTup s.heap t items)(hs:s.heap.IsSliceOf sl vl vu .none)(pl:IsPart vl lo)(pu:IsPart vu hi)
  (h0:iU items.size 0 lo=0) (h1:iU items.size items.size hi=items.size) (h:Q (.ref t) s):wpAny (model prog w) A (getItem (.ref t) (.ref sl)) Q E s:=by
 obtain ⟨os,hos,hcs,hds⟩:=id hs;have hTs:s.TypeIs (.ref sl) "slice" := ⟨os,hos,hcs⟩;have hTt:s.TypeIs (.ref t) "tuple" := ht.typeIs;unfold getItem
 try with_reducible refine wpAny_holding ?_
 first | refine wpAny_bind (wpAny_pure ?_) | skip
 refine wpAny_bind (wpAny_sequenceKey ht.typeIs Dd ?_);refine wpAny_bind (wpAny_callSpecial?_slot (name:=Str.ofString "__getitem__") ht.typeIs PyProof.Rows.slot_tuple_getitem
  (wpAny_call_entry PyProof.Rows.slot_tuple_getitem ht.typeIs entry_tuple_getitem ?_ (args_tuple_getitem _ _)))
 show wpAny _ _ (Builtin.Tuple.tupleItemsOf (.ref t) >>= _) _ _ s;refine wpAny_bind (tupleItemsOf_ ht ?_);refine wpAny_bind (wpAny_typeOf hTs ?_);rw [if_pos Dd];refine wpAny_bind (oB hs pl pu ?_);have hyes:(((iU items.size 0 lo:Nat):Int) == 0&&(1:Int) == 1&&(iU items.size items.size hi-iU items.size 0 lo) == items.size)=true:=by
  rw [h0,h1];simp
 show wpAny _ _ (if (((iU items.size 0 lo:Nat):Int) == 0&&(1:Int) == 1&&(iU items.size items.size hi-iU items.size 0 lo) == items.size)=true then _ else _) _ _ s;rw [if_pos hyes];unfold Builtin.Tuple.tupleIsExact;refine wpAny_bind (wpAny_bind (wpAny_typeOf hTt (wpAny_pure ?_)));rw [if_pos Dd];refine wpAny_bind (wpAny_rule ?_)
 first
  | exact wpAny_pure ⟨_,rfl,wpAny_pure h⟩
  | exact wpAny_bind (wpAny_pure (wpAny_pure ⟨_,rfl,wpAny_pure h⟩))
end
end HT
namespace L2
open PySem PySem.W PySem.Spec PySem.Calls PyProof.Rows
theorem HI{xs:List V}{lo hi:Option Int}(h0:HT.iU xs.length 0 lo=0)(h1:HT.iU xs.length xs.length hi=xs.length):lK xs lo hi=xs:=by
 unfold lK;rw [h0,h1];simp
section
variable{X:Cx}
@[irreducible] def GQ(K:PySem.W.Frag):V->Option Int->Option Int->Hp->VK->Prop:=λx lo hi H Q=>∃a xs,x=.ref a/\H a=some (.tup xs)/\∀c H',aY H H'->H' c=some (.tup (lK xs lo hi))->Q (.ref c) H'
theorem vX(K:PySem.W.Frag)(hK:X.K=K:=by rfl):SlR X (GQ K):=by
 unfold GQ;subst hK;intro pins s σ H x v vl vu lo hi sl Q I rx hs pl pu h;obtain ⟨a,xs,rfl,hx,q⟩:=h;by_cases hw:HT.iU xs.length 0 lo=0/\HT.iU xs.length xs.length hi=xs.length
 ·cases rx;obtain ⟨its,r,ht,hz⟩:=I.tuple (jH.of hx);have hlen:its.toArray.size=xs.length:=by rw [aS];exact r.length.symm
  refine ⟨"tuple",_,PyProof.Rows.slot_tuple_getitem.lookup,ht.typeIs,?_⟩;refine HT.rC ht hs pl pu (by rw [hlen];exact hw.1) (by rw [hlen];exact hw.2) ?_;exact ⟨.ref a,H,I,rfl,q a H (aY.refl _) (by rw [HI hw.1 hw.2];exact hx)⟩
 ·exact ZQ pins s σ H (.ref a) v vl vu lo hi sl Q I rx hs pl pu ⟨a,xs,rfl,jH.of hx,hw,λp hp=>q p _ (aY.upd hp) bM⟩
theorem OB{K:PySem.W.Frag}{H:Hp}{a:Addr}{xs:List V}{k:Nat}{Q:VK}(h:H a=some (.tup xs))(q:∀c H',aY H H'->H' c=some (.tup (xs.take k))->Q (.ref c) H'):GQ K (.ref a) none (some (k:Int)) H Q:=by
 unfold GQ;exact ⟨a,xs,rfl,h,λc H' s e=>q c H' s (by rw [e,CC])⟩
theorem ZR{K:PySem.W.Frag}{H:Hp}{a:Addr}{xs:List V}{k:Nat}{Q:VK}(h:H a=some (.tup xs))(q:∀c H',aY H H'->H' c=some (.tup (xs.drop k))->Q (.ref c) H'):GQ K (.ref a) (some (k:Int)) none H Q:=by
 unfold GQ;exact ⟨a,xs,rfl,h,λc H' s e=>q c H' s (by rw [e,CB])⟩
end
end L2
namespace HT
open PySem PySem.W PyProof.Rows
def dL{α:Type}(n:Nat)(lt:Nat->Nat->Bool)(R:α->Prop):KasT α->Prop
 | .ret a=>R a
 | .ask i j k=>i<n/\j<n/\dL n lt R (k (lt i j))
section
variable{n:Nat}{lt:Nat->Nat->Bool}
theorem dL.bind{α β:Type}{R:α->Prop}{S:β->Prop}{f:α->KasT β}:∀{t:KasT α},dL n lt R t->(∀a,R a->dL n lt S (f a))->dL n lt S (t.bind f)
 | .ret a,h,k=>k a h
 | .ask i j t,⟨h1,h2,h3⟩,k=>⟨h1,h2,dL.bind (t:=t (lt i j)) h3 k⟩
theorem dL.wp{α:Type}{R:α->Prop}{cmp:Nat->Nat->(Bool->Shared->Prop)->Shared->Prop}{Q:α->Shared->Prop}{s:Shared}(hc:∀i j C,i<n->j<n->C (lt i j) s->cmp i j C s)(q:∀a,R a->Q a s) :
  ∀{t:KasT α},dL n lt R t->t.kasWp cmp Q s
 | .ret a,h=>q a h
 | .ask i j t,⟨h1,h2,h3⟩=>hc i j _ h1 h2 (dL.wp (t:=t (lt i j)) hc q h3)
def gA(n:Nat)(p:Array Nat):Prop:=p.Perm (List.toArray (List.range n))
theorem gA.bd{p:Array Nat}(g:gA n p)(hn:0<n)(i:Nat):p.getD i 0<n:=by
 by_cases hi:i<p.size
 ·have e:p.getD i 0=p[i]:=by simp [Array.getD,hi]
  rw [e];have m:p[i]∈List.toArray (List.range n):=(Array.Perm.mem_iff g).mp (Array.getElem_mem hi);simpa using m
 ·have e:p.getD i 0=0:=by simp [Array.getD,hi]
  rw [e];exact hn
theorem gA.rev{p:Array Nat}(g:gA n p)(i j:Nat):gA n (kas_rev p i j):=(mirror_perm p i j _).trans g
theorem gA.bub{p:Array Nat}(g:gA n p)(i j:Nat):gA n (bubble p i j):=(bubble_perm p i j).trans g
theorem CJ{p:Array Nat}(g:gA n p)(hn:0<n):∀(f m:Nat),dL n lt (λ_=>True) (kas_asc p f m)
 | 0,m=>True.intro
 | f+1,m=>⟨g.bd hn _,g.bd hn _,by
  cases lt (p.getD m 0) (p.getD (m-1) 0) with
  | true=>exact True.intro
  | false=>exact CJ g hn f (m+1)⟩
theorem tU(hn:0<n):∀(f:Nat) {p:Array Nat}(g:gA n p) (m q:Nat),dL n lt (λr=>gA n r.1) (kas_desc f p m q)
 | 0,p,g,m,q=>g
 | f+1,p,g,m,q=>by
  refine ⟨g.bd hn _,g.bd hn _,?_⟩;cases lt (p.getD m 0) (p.getD (m-1) 0) with
  | true =>
   show dL n lt _ (if q > 0 then _ else _);split
   ·exact tU hn f (g.rev _ _) _ _
   ·exact tU hn f g _ _
  | false =>
   refine ⟨g.bd hn _,g.bd hn _,?_⟩;cases lt (p.getD (m-1) 0) (p.getD m 0) with
   | true=>exact g
   | false=>exact tU hn f g _ _
theorem AB{p:Array Nat}(g:gA n p)(hn:0<n)(m r:Nat):dL n lt (λr=>gA n r.2) (kas_tail3 m r p):=by
 unfold kas_tail3;exact (CJ (g.rev 0 m) hn _ _).bind λ_ _=>g.rev 0 m
theorem tS{p:Array Nat}(g:gA n p)(hn:0<n)(m r:Nat):dL n lt (λr=>gA n r.2) (kas_descPart m r p):=by
 unfold kas_descPart;refine (tU hn _ g _ _).bind λr hr=>?_;split
 ·exact AB (gA.rev hr _ _) hn _ _
 ·exact AB hr hn _ _
theorem MJ{p:Array Nat}(g:gA n p)(hn:0<n)(m:Nat):dL n lt (λr=>gA n r.2) (kas_count m p):=by
 unfold kas_count;refine (CJ g hn _ _).bind λk _=>?_;split
 ·exact g
 ·split
  ·refine ⟨g.bd hn _,g.bd hn _,?_⟩;cases lt (p.getD 0 0) (p.getD (k-1) 0) with
   | true=>exact g
   | false=>exact tS (g.rev _ _) hn _ _
  ·exact tS g hn _ _
theorem uV{p:Array Nat}(g:gA n p)(hn:0<n)(k:Nat):∀(f l r:Nat),dL n lt (λ_=>True) (kas_place p k f l r)
 | 0,l,r=>True.intro
 | f+1,l,r=>by
  unfold kas_place;split
  ·exact True.intro
  ·refine ⟨g.bd hn _,g.bd hn _,?_⟩;cases lt (p.getD k 0) (p.getD ((l+r)/2) 0) with
   | true=>exact uV g hn k f _ _
   | false=>exact uV g hn k f _ _
theorem JR(hn:0<n):∀(f:Nat) {p:Array Nat}(g:gA n p) (k:Nat),dL n lt (gA n) (kas_bin f p k)
 | 0,p,g,k=>g
 | f+1,p,g,k=>by
  unfold kas_bin;exact (uV g hn k _ _ _).bind λl _=>JR hn f (g.bub _ _) _
theorem RZ(hn:0<n):dL n lt (gA n) (kas_sort n):=by
 unfold kas_sort;refine (MJ (Array.Perm.refl _) hn n).bind λr hr=>?_;split
 ·exact JR hn _ hr _
 ·exact hr
end
structure yC(n:Nat)(lt:Nat->Nat->Bool):Prop where
 tot:∀i j,i<n->j<n->i≠j->lt i j=false->lt j i=true
 tra:∀i j k,lt i j=true->lt j k=true->lt i k=true
def vA(lt:Nat->Nat->Bool)(p:Array Nat)(m:Nat):Prop:=∀a b,a<b->b<m->lt (p.getD a 0) (p.getD b 0)=true
def ZF(lt:Nat->Nat->Bool)(p:Array Nat)(m:Nat):Prop:=∀a b,a<b->b<m->lt (p.getD b 0) (p.getD a 0)=true
section
variable{n:Nat}{lt:Nat->Nat->Bool}
theorem dL.mono{α:Type}{R S:α->Prop}(k:∀a,R a->S a):∀{t:KasT α},dL n lt R t->dL n lt S t
 | .ret a,h=>k a h
 | .ask i j t,⟨h1,h2,h3⟩=>⟨h1,h2,dL.mono k (t:=t (lt i j)) h3⟩
theorem gA.size{p:Array Nat}(g:gA n p):p.size=n:=by
 have:=(Array.perm_iff_toList_perm.mp g).length_eq;simpa using this
theorem gA.ne{p:Array Nat}(g:gA n p){i j:Nat}(hi:i<n)(hj:j<n)(h:i≠j):p.getD i 0≠p.getD j 0:=by
 have hn:p.toList.Nodup:=(Array.perm_iff_toList_perm.mp g).nodup_iff.mpr (by simpa using List.nodup_range);have hs:=g.size;have e1:p.getD i 0=p.toList[i]'(by simpa [hs] using hi):=by simp [Array.getD,hs,hi]
 have e2:p.getD j 0=p.toList[j]'(by simpa [hs] using hj):=by simp [Array.getD,hs,hj]
 rw [e1,e2];intro e;exact h ((List.getElem_inj hn).mp e)
theorem vA.one{p:Array Nat}:vA lt p 1:=λa b h1 h2=>Oo
theorem vA.more(O:yC n lt){p:Array Nat}(g:gA n p){m:Nat}(h:vA lt p m)(h1:1<=m)(hm:m<n)(e:lt (p.getD m 0) (p.getD (m-1) 0)=false):vA lt p (m+1):=λa b hab hb=>by
 by_cases q:b<m
 ·exact h a b hab q
 ·have e':b=m:=Oo;subst e';have l1:lt (p.getD (b-1) 0) (p.getD b 0)=true:=O.tot _ _ (g.bd Oo _) (g.bd Oo _) (g.ne Oo Oo Oo) e;by_cases r:a=b-1
  ·rw [r];exact l1
  ·exact O.tra _ _ _ (h a (b-1) Oo Oo) l1
theorem CH(O:yC n lt){p:Array Nat}(g:gA n p):∀(f m:Nat),1<=m->m+f<=n->vA lt p m->dL n lt (λk=>m<=k/\k<=m+f/\vA lt p k/\(k<m+f->lt (p.getD k 0) (p.getD (k-1) 0)=true)) (kas_asc p f m)
 | 0,m,_,_,h=>⟨aI _,aI _,h,λq=>Oo⟩
 | f+1,m,h1,hm,h=>by
  refine ⟨g.bd Oo _,g.bd Oo _,?_⟩;cases e:lt (p.getD m 0) (p.getD (m-1) 0) with
  | true=>exact ⟨aI _,Oo,h,λ_=>e⟩
  | false =>
   refine (show dL n lt _ (kas_asc p f (m+1)) from ?_);have ih:=CH O g f (m+1) Oo Oo (h.more O g h1 Oo e);exact dL.mono (λk ⟨a1,a2,a3,a4⟩=>⟨Oo,Oo,a3,λq=>a4 Oo⟩) ih
theorem ZF.more(O:yC n lt){p:Array Nat}{m:Nat}(h:ZF lt p m)(h1:1<=m)(e:lt (p.getD m 0) (p.getD (m-1) 0)=true):ZF lt p (m+1):=λa b hab hb=>by
 by_cases q:b<m
 ·exact h a b hab q
 ·have e':b=m:=Oo;subst e';by_cases r:a=b-1
  ·rw [r];exact e
  ·exact O.tra _ _ _ e (h a (b-1) Oo Oo)
theorem ES(O:yC n lt){p:Array Nat}(g:gA n p):∀(f m:Nat),1<=m->m+f<=n->ZF lt p m->dL n lt (λr=>r.1=p/\r.2.2=0/\m<=r.2.1/\r.2.1<=m+f/\ZF lt p r.2.1) (kas_desc f p m 0)
 | 0,m,_,_,h=>⟨rfl,rfl,aI _,aI _,h⟩
 | f+1,m,h1,hm,h=>by
  refine ⟨g.bd Oo _,g.bd Oo _,?_⟩;cases e:lt (p.getD m 0) (p.getD (m-1) 0) with
  | true =>
   refine (show dL n lt _ (kas_desc f p (m+1) 0) from ?_);exact dL.mono (λr ⟨a1,a2,a3,a4,a5⟩=>⟨a1,a2,Oo,Oo,a5⟩) (ES O g f (m+1) Oo Oo (h.more O h1 e))
  | false =>
   refine ⟨g.bd Oo _,g.bd Oo _,?_⟩;rw [O.tot _ _ (g.bd Oo _) (g.bd Oo _) (g.ne Oo Oo Oo) e];exact ⟨rfl,rfl,aI _,(show m<=m+(f+1) by omega),h⟩
theorem OS{p:Array Nat}{m i:Nat}(hm:m<=p.size):(kas_rev p 0 m).getD i 0=if i<m then p.getD (m-1-i) 0 else p.getD i 0:=by
 have e:=getElem?_mirror (xs:=p) (i:=0) (j:=m) hm (m/2) Oo i;have e':(kas_rev p 0 m)[i]?=if (0<=i/\i<0+m/2)\/(m-m/2<=i/\i<m) then p[0+m-1-i]? else p[i]?:=e
 have g:∀(q:Array Nat) (k:Nat),q.getD k 0=q[k]?.getD 0:=λq k=>by simp [Array.getD_eq_getD_getElem?]
 rw [g,e',g,g];by_cases h:i<m
 ·rw [if_pos h];by_cases h2:(0<=i/\i<0+m/2)\/(m-m/2<=i/\i<m)
  ·rw [if_pos h2,show 0+m-1-i=m-1-i by omega]
  ·rw [if_neg h2,show m-1-i=i by omega]
 ·rw [if_neg h,if_neg Oo]
theorem ZF.rev{p:Array Nat}{m:Nat}(h:ZF lt p m)(hm:m<=p.size):vA lt (kas_rev p 0 m) m:=λa b hab hb=>by
 rw [OS hm,OS hm,if_pos Oo,if_pos hb];exact h _ _ Oo Oo
theorem MB(O:yC n lt){p:Array Nat}(g:gA n p)(hn:2<=n):dL n lt (λr=>gA n r.2/\1<=r.1/\r.1<=n/\vA lt r.2 r.1) (kas_count n p):=by
 unfold kas_count;refine (CH O g (n-1) 1 (aI _) Oo vA.one).bind λk ⟨k1,k2,k3,k4⟩=>?_;split
 ·exact ⟨g,k1,by show k<=n;omega,k3⟩
 ·rename_i hk
  have hkn:k≠n:=λe=>hk (by simp [e]);split
  ·refine ⟨g.bd Oo _,g.bd Oo _,?_⟩;rw [k3 0 (k-1) Oo Oo];exact ⟨g,k1,by show k<=n;omega,k3⟩
  ·have e1:k=1:=Oo;subst e1;unfold kas_descPart;have d2:ZF lt p 2:=λa b hab hb=>by
    have e:a=0/\b=1:=Oo;rw [e.1,e.2];exact k4 Oo
   refine (ES O g (n-2) 2 Oo Oo d2).bind λr ⟨r1,r2,r3,r4,r5⟩=>?_;obtain ⟨p',m,q⟩:=r;dsimp only at r1 r2 r3 r4 r5 ⊢;subst r1 r2;rw [if_neg Dd];unfold kas_tail3;have hs:=g.size;refine (CH O (g.rev 0 m) (n-m) m Oo Oo (r5.rev Oo)).bind λk' ⟨a1,a2,a3,_⟩=>?_;exact ⟨g.rev 0 m,(show 1<=k' by omega),(show k'<=n by omega),a3⟩
theorem uJ(O:yC n lt){p:Array Nat}(g:gA n p){k:Nat}(hk:k<n)(h:vA lt p k):∀(f l r:Nat),l<=r->r<=k->r-l<=f->(∀a,a<l->lt (p.getD a 0) (p.getD k 0)=true)->(∀a,r<=a->a<k->lt (p.getD k 0) (p.getD a 0)=true) ->
  dL n lt (λm=>m<=k/\(∀a,a<m->lt (p.getD a 0) (p.getD k 0)=true)/\∀a,m<=a->a<k->lt (p.getD k 0) (p.getD a 0)=true) (kas_place p k f l r)
 | 0,l,r,h1,h2,h3,h4,h5=>⟨Oo,h4,λa q1 q2=>h5 a Oo q2⟩
 | f+1,l,r,h1,h2,h3,h4,h5=>by
  unfold kas_place;split
  ·exact ⟨Oo,h4,λa q1 q2=>h5 a Oo q2⟩
  ·refine ⟨g.bd Oo _,g.bd Oo _,?_⟩;cases e:lt (p.getD k 0) (p.getD ((l+r)/2) 0) with
   | true =>
    refine (show dL n lt _ (kas_place p k f l ((l+r)/2)) from ?_);refine uJ O g hk h f l ((l+r)/2) Oo Oo Oo h4 λa q1 q2=>?_;by_cases q:a=(l+r)/2
    ·rw [q];exact e
    ·exact O.tra _ _ _ e (h _ _ Oo q2)
   | false =>
    refine (show dL n lt _ (kas_place p k f ((l+r)/2+1) r) from ?_);have e2:=O.tot _ _ (g.bd Oo _) (g.bd Oo _) (g.ne hk Oo Oo) e;refine uJ O g hk h f ((l+r)/2+1) r Oo Oo Oo (λa q1=>?_) h5;by_cases q:a=(l+r)/2
    ·rw [q];exact e2
    ·exact O.tra _ _ _ (h a ((l+r)/2) Oo Oo) e2
theorem RV{p:Array Nat}{k m i:Nat}(hk:k<p.size)(hm:m<=k):(bubble p k (k-m)).getD i 0=if i=m then p.getD k 0 else if m<i/\i<=k then p.getD (i-1) 0 else p.getD i 0:=by
 have e:=getElem?_bubble (xs:=p) hk (k-m) Oo i;have g:∀(q:Array Nat) (k:Nat),q.getD k 0=q[k]?.getD 0:=λq k=>by simp [Array.getD_eq_getD_getElem?]
 rw [g,e,g,g,g,show k-(k-m)=m by omega];by_cases h:i=m
 ·rw [if_pos h,if_pos h]
 ·rw [if_neg h,if_neg h];by_cases h2:m<i/\i<=k
  ·rw [if_pos h2,if_pos h2]
  ·rw [if_neg h2,if_neg h2]
theorem JQ(O:yC n lt):∀(f:Nat) {p:Array Nat}(g:gA n p) (k:Nat),k+f=n->vA lt p k->dL n lt (λp=>gA n p/\vA lt p n) (kas_bin f p k)
 | 0,p,g,k,hk,h=>⟨g,by rw [<-hk];exact h⟩
 | f+1,p,g,k,hk,h=>by
  unfold kas_bin;refine (uJ O g Oo h k 0 k Oo Oo Oo (λa q=>Oo) (λa q1 q2=>Oo)).bind λm ⟨m1,m2,m3⟩=>?_;have hs:=g.size;refine JQ O f (g.bub _ _) (k+1) Oo λa b hab hb=>?_;rw [RV Oo m1,RV Oo m1];by_cases ha:a=m
  ·rw [if_pos ha,if_neg Oo,if_pos Oo];exact m3 _ Oo Oo
  ·rw [if_neg ha];by_cases hb':b=m
   ·rw [if_pos hb',if_neg Oo];exact m2 a Oo
   ·rw [if_neg hb'];by_cases q1:m<a/\a<=k
    ·rw [if_pos q1,if_pos Oo];exact h _ _ Oo Oo
    ·rw [if_neg q1];by_cases q2:m<b/\b<=k
     ·rw [if_pos q2];exact h _ _ Oo Oo
     ·rw [if_neg q2];exact h _ _ hab Oo
theorem NY(O:yC n lt)(hn:2<=n):dL n lt (λp=>gA n p/\vA lt p n) (kas_sort n):=by
 unfold kas_sort;refine (MB O (Array.Perm.refl _) hn).bind λr ⟨h1,h2,h3,h4⟩=>?_;split
 ·rename_i q
  rw [Nat.max_eq_left h2];exact JQ O _ h1 _ Oo h4
 ·rename_i q
  have e:r.1=n:=Oo;exact ⟨h1,e ▸ h4⟩
end
end HT
namespace L2
open PySem PySem.Spec PySem.W PyProof.Rows HT
theorem sF{x:V}{xs:List V}{us:List Value}(r:cZ (x::xs) us):∃u us',us=u::us'/\dJ x u/\cZ xs us':=by
 cases r with
 | cons h t=>exact ⟨_,_,rfl,h,t⟩
def EI(fin:Bool):List Int->List Int->Bool
 | x::a,y::b=>if x=y then EI fin a b else decide (x<y)
 | _,_=>fin
def jX(a b:List Int):Bool:=EI (decide (a.length<b.length)) a b
theorem tG(a:List Int):jX a []=false:=by
 unfold jX;cases a <;> rfl
theorem wF(y:Int)(b:List Int):jX [] (y::b)=true:=by unfold jX;rfl
theorem qV(x y:Int)(a b:List Int):jX (x::a) (y::b)=if x=y then jX a b else decide (x<y):=by
 show (if x=y then EI (decide ((x::a).length<(y::b).length)) a b else decide (x<y))=_;rw [bU,bU,show decide (a.length+1<b.length+1)=decide (a.length<b.length) by simp]
 rfl
theorem IY:∀{a b:List Int},a≠b->jX a b=false->jX b a=true
 | [],[],h,_=>absurd rfl h
 | [],y::b,_,e=>by rw [wF] at e;cases e
 | x::a,[],_,_=>wF _ _
 | x::a,y::b,h,e=>by
  rw [qV] at e ⊢;by_cases q:x=y
  ·subst q;rw [if_pos rfl] at e ⊢;exact IY (λz=>h (by rw [z])) e
  ·rw [if_neg q] at e;rw [if_neg (Ne.symm q)];have:=of_decide_eq_false e;exact cO Oo
theorem wE:∀{a b c:List Int},jX a b=true->jX b c=true->jX a c=true
 | a,b,[],_,h=>by rw [tG] at h;cases h
 | [],b,z::c,_,_=>wF _ _
 | x::a,[],z::c,h,_=>by rw [tG] at h;cases h
 | x::a,y::b,z::c,h1,h2=>by
  rw [qV] at h1 h2 ⊢;by_cases q1:x=y
  ·subst q1;rw [if_pos rfl] at h1;by_cases q2:x=z
   ·subst q2;rw [if_pos rfl] at h2 ⊢;exact wE h1 h2
   ·rw [if_neg q2] at h2 ⊢;exact h2
  ·rw [if_neg q1] at h1;have h1:=of_decide_eq_true h1;by_cases q2:y=z
   ·subst q2;rw [if_neg q1];exact cO h1
   ·rw [if_neg q2] at h2;have h2:=of_decide_eq_true h2;rw [if_neg Oo];exact cO Oo
theorem qU{a:List Int}:jX a a=false:=by
 induction a with
 | nil=>exact tG _
 | cons x a ih=>rw [qV,if_pos rfl];exact ih
theorem tF:∀{l m:List (List Int)},l.Pairwise (λa b=>jX a b=true)->m.Pairwise (λa b=>jX a b=true)->(∀x,x∈l↔x∈m)->l=m
 | [],[],_,_,_=>rfl
 | [],y::m,_,_,h=>by have:=(h y).mpr (aU ..);cases this
 | x::l,[],_,_,h=>by have:=(h x).mp (aU ..);cases this
 | x::l,y::m,h1,h2,h=>by
  obtain ⟨a1,a2⟩:=List.pairwise_cons.mp h1;obtain ⟨b1,b2⟩:=List.pairwise_cons.mp h2;have e:x=y:=by
   rcases bC.mp ((h x).mp (aU ..)) with q | q
   ·exact q
   ·rcases bC.mp ((h y).mpr (aU ..)) with r | r
    ·exact r.symm
    ·have:=wE (b1 x q) (a1 y r);rw [qU] at this;cases this
  subst e;rw [tF a2 b2 λz=>?_];constructor
  ·intro q;rcases bC.mp ((h z).mp (aR _ q)) with r | r
   ·subst r;have:=a1 z q;rw [qU] at this;cases this
   ·exact r
  ·intro q;rcases bC.mp ((h z).mpr (aR _ q)) with r | r
   ·subst r;have:=b1 z q;rw [qU] at this;cases this
   ·exact r
abbrev vK(cs:List (List Int)):Nat->Nat->Bool:=λi j=>jX (cs.getD i []) (cs.getD j [])
theorem PU{cs:List (List Int)}(h:cs.Nodup):yC cs.length (vK cs):=⟨λi j hi hj ne e=>IY (λz=>by
  have e1:cs.getD i []=cs[i]:=by simp [hi]
  have e2:cs.getD j []=cs[j]:=by simp [hj]
  rw [e1,e2] at z;exact ne ((List.getElem_inj h).mp z)) e,λi j k h1 h2=>wE h1 h2⟩
section
variable{prog:Program}{w:World}{A:Around}{E:Value->Shared->Prop}{s:Shared}{Q:Bool->Shared->Prop}
theorem vM{fin:Bool}:∀{a b:List Int}{us vs:List Value}{i:Nat},cZ (a.map V.int) us->cZ (b.map V.int) vs->Q (EI fin a b) s->KatLex prog w A true fin Q (us.zip vs) i s
 | [],b,us,vs,i,ha,hb,q=>by cases ha;exact kat_nil (by unfold EI at q;exact q)
 | x::a,[],us,vs,i,ha,hb,q=>by
  cases hb;cases us with
  | nil=>exact kat_nil (by unfold EI at q;exact q)
  | cons u us=>exact kat_nil (by unfold EI at q;exact q)
 | x::a,y::b,us,vs,i,ha,hb,q=>by
  rw [bH] at ha hb;obtain ⟨u,us',rfl,⟨t,rfl⟩,ra⟩:=sF ha;obtain ⟨v,vs',rfl,⟨t',rfl⟩,rb⟩:=sF hb;rw [List.zip_cons_cons];refine kat_cons (wpAny_eqBool_int ?_);unfold EI at q;by_cases h:x=y
  ·rw [if_pos h] at q;rw [show (x == y)=true by simp [h]];exact kat_yes (vM ra rb q)
  ·rw [if_neg h] at q;rw [show (x == y)=false by simp [h]];refine kat_no ?_;cases (true&&i == 0) with
   | true=>exact oneLt_int q
   | false=>exact kat_one _ _ (lt_int q)
def ZC(h:Heap)(v:Value)(c:List Int):Prop:=∃b its,v=.ref b/\IsTup h b (List.toArray its)/\cZ (c.map V.int) its/\c≠[]
abbrev kB(h:Heap):List Value->List (List Int)->Prop:=Paired (ZC h)
theorem kB.get{h:Heap}:∀{vs:List Value}{cs:List (List Int)}{i:Nat},kB h vs cs->i<vs.length->ZC h (vs.getD i Value.none) (cs.getD i [])
 | _,_,_,.nil,hi=>by simp at hi
 | _,_,0,.cons t r,hi=>t
 | v::vs,c::cs,i+1,.cons t r,hi=>by
  have:=kB.get (i:=i) r (by simpa using hi);simpa using this
theorem kB.firsts{h:Heap}:∀{vs:List Value}{cs:List (List Int)},kB h vs cs->∃fs,KatTups h vs fs/\fs.length=vs.length/\∀v∈fs,∃i t,v=Value.int i t
 | _,_,.nil=>⟨[],KatTups.nil,rfl,λv hv=>by cases hv⟩
 | v::vs,c::cs,.cons t r=>by
  obtain ⟨fs,h1,h2,h3⟩:=kB.firsts r;obtain ⟨b,its,rfl,⟨o,ho,hc,n,hd⟩,hv,hne⟩:=t;cases c with
  | nil=>exact absurd rfl hne
  | cons x c =>
   rw [bH] at hv;obtain ⟨u,us,rfl,⟨t,rfl⟩,_⟩:=sF hv;exact ⟨.int x t::fs,KatTups.cons ho hc hd (by simp) h1,by simp [h2],λv hv=>by
    rcases bC.mp hv with rfl | hv
    ·exact ⟨_,_,rfl⟩
    ·exact h3 v hv⟩
theorem kB.keep{h h':Heap}(k:∀b o,h.get? b=some o->o.cls=.type "tuple" -> h'.get? b=some o):∀{vs:List Value}{cs:List (List Int)},kB h vs cs->kB h' vs cs
 | _,_,.nil=>.nil
 | _,_,.cons ⟨b,its,e,⟨o,ho,hc,hd⟩,hv,hne⟩ r=>.cons ⟨b,its,e,⟨o,k b o ho hc,hc,hd⟩,hv,hne⟩ (kB.keep k r)
theorem DL{n:Nat}{lt:Nat->Nat->Bool}(hn:2<=n):dL n lt (λp=>gA n p/\(yC n lt->vA lt p n)) (kas_sort n):=by
 by_cases O:yC n lt
 ·exact dL.mono (λp h=>⟨h.1,λ_=>h.2⟩) (NY O hn)
 ·exact dL.mono (λp h=>⟨h,λz=>absurd z O⟩) (RZ Oo)
theorem KO{a:Addr}{vs:List Value}{cs:List (List Int)}{n:Nat}{P:PySem.Fin->Shared->Prop}(ho:s.heap.get? a=some (seqObj "list" vs.toArray n))(ht:kB s.heap vs cs)(h64:vs.length<64)
  (h:∀p:Array Nat,gA vs.length p->(yC vs.length (vK cs)->vA (vK cs) p vs.length)->P (.done (.ret .none)) { s with heap:=sortedHeap s.heap a vs (List.toArray (p.toList.map λi=>vs.getD i Value.none)) }) :
  wpAny (model prog w) A (Builtin.«list.sort» ⟨[.ref a],[]⟩) P E s:=by
 rw [list_sort_plain];have ha:a<s.heap.objs.size:=aT ho;refine wpAny_bind (listItems_at ho rfl ?_);refine wpAny_bind (listUpdate_at ho rfl ?_ (by rw [aS,sizeLine_eq];omega) (cE _));obtain ⟨e1,ho1⟩:∃e1,(s.heap.update a (Obj.mapSeq λ_=>#[])).get? a=some (seqObj "list" #[] e1):=⟨_,get?_update_seq ho (λ_=>#[])⟩;refine wpAny_bind (seqEpoch_at ho1 rfl ?_);refine wpAny_bind (wpAny_newTuple ?_ (by show vs.length<=_;rw [sizeLine_eq];omega));refine wpAny_bind (wpAny_newList ?_ (cE _));refine wpAny_holding ?_;have ho6:(((s.heap.update a (Obj.mapSeq λ_=>#[])).push (seqObj "tuple" vs.toArray 0)).push (seqObj "list" #[] 0)).get? a=some (seqObj "list" #[] e1):=by
  rw [Heap.get?_push_ne _ _ _ (by rw [size_push',Heap.size_update];exact cG (Nat.lt_succ_of_lt ha)),Heap.get?_push_ne _ _ _ (by rw [Heap.size_update];exact cG ha)];exact ho1
 show wpAny (model prog w) A _ P E { s with heap:=((s.heap.update a (Obj.mapSeq λ_=>#[])).push (seqObj "tuple" vs.toArray 0)).push (seqObj "list" #[] 0) };dsimp only;have fin:∀st':SortSt,∀p:Array Nat,gA vs.length p->(yC vs.length (vK cs)->vA (vK cs) p vs.length)->(arrOf st').map (·.2)=List.toArray (p.toList.map λi=>vs.getD i Value.none) ->
   P (.done (.ret .none)) { s with heap:=sortedHeap s.heap a vs ((arrOf st').map (·.2)) }:=by
  intro st' p hp ho hs;rw [hs];exact h p hp ho
 have ht6:kB (((s.heap.update a (Obj.mapSeq λ_=>#[])).push (seqObj "tuple" vs.toArray 0)).push (seqObj "list" #[] 0)) vs cs:=ht.keep λb o hb hc=>by
  have hne:b≠a:=λe=>by
   subst e;rw [ho] at hb;cases hb;exact absurd (show Value.type "list" = Value.type "tuple" from hc) Dd
  exact aC _ (aC _ (by rw [eC _ _ _ _ hne];exact hb))
 by_cases h2:vs.toArray.size<2
 ·rw [if_pos h2,if_pos h2];refine wpAny_bind (wpAny_pure ?_);rw [StateT.run_pure];refine wpAny_bind (wpAny_pure ?_);dsimp only;refine wpAny_bind (seqEpoch_at ho6 rfl ?_);refine wpAny_bind (listUpdate_at ho6 rfl ?_ (hsz2:=by rw [Array.size_map];show (pairsOf vs).size<=_;rw [pairsOf_size,sizeLine_eq];omega));simp only [bne_self_eq_false,Bool.false_eq_true,if_false];refine wpAny_pure (fin (SortSt.mk' general' (vs.toArray.zip vs.toArray) #[] 7 none) (List.toArray (List.range vs.length)) (Array.Perm.refl _) (λ_ a b h1 h3=>by rw [aS] at h2;omega) ?_);have e:=kat_snds (ks:=vs) (vs:=vs) (st:=SortSt.mk' general' (vs.toArray.zip vs.toArray) #[] 7 none) (p:=List.toArray (List.range vs.length)) rfl (by
   have e:=kas_range (vs.toArray.zip vs.toArray);rw [show (vs.toArray.zip vs.toArray).size=vs.length by simp] at e;exact e.symm)
  exact e
 ·rw [if_neg h2,if_neg h2];have hl2:2<=vs.length:=by rw [aS] at h2;omega
  obtain ⟨fs,k1,k2,k3⟩:=ht6.firsts;refine wpAny_bind (kat_kind (T:=.type "int") k1 Oo (λv hv=>?_) rfl ?_)
  ·obtain ⟨i,t,rfl⟩:=k3 v hv;exact .now
  refine wpAny_bind (wpAny_mono (kat_run (ks:=vs) (vs:=vs) (G:=λp s'=>s'={ s with heap:=((s.heap.update a (Obj.mapSeq λ_=>#[])).push (seqObj "tuple" vs.toArray 0)).push (seqObj "list" #[] 0) }/\gA vs.length p/\(yC vs.length (vK cs)->vA (vK cs) p vs.length))
   (Q:=λst' s'=>s'={ s with heap:=((s.heap.update a (Obj.mapSeq λ_=>#[])).push (seqObj "tuple" vs.toArray 0)).push (seqObj "list" #[] 0) }/\failedOf st'=none/\∃p:Array Nat,p.size=vs.length/\(gA vs.length p/\(yC vs.length (vK cs)->vA (vK cs) p vs.length))/\arrOf st'=p.map (kas_item (vs.toArray.zip vs.toArray)))
   rfl hl2 h64 (λp' st' s' a1 a2 a3 a4=>⟨a4.1,a3,p',a1,a4.2,a2⟩)
   (dL.wp (n:=vs.length) (lt:=vK cs) (R:=λp=>gA vs.length p/\(yC vs.length (vK cs)->vA (vK cs) p vs.length)) (λi j C hi hj hC=>?_) (λp hp=>⟨rfl,hp⟩) (DL hl2))) ?_ λ_ _ e=>e)
  ·obtain ⟨b,its,e1',⟨o,hb,hc,n',hd⟩,hv,_⟩:=ht6.get hi;obtain ⟨b2,its2,e2',⟨o2,hb2,hc2,n2,hd2⟩,hv2,_⟩:=ht6.get hj;unfold kas_ask;rw [e1',e2'];refine kat_lt hb hd hb2 hd2 ?_;refine vM hv hv2 ?_;have l1:=hv.length;have l2:=hv2.length;rw [aA] at l1 l2;rw [aS,aS,<-l1,<-l2];exact hC
  rintro ⟨⟨⟩,st'⟩ s' ⟨rfl,hf,p,hp,hg,har⟩;dsimp only;have hout:=kat_snds rfl har;refine wpAny_bind (seqEpoch_at ho6 rfl ?_);refine wpAny_bind (listUpdate_at ho6 rfl ?_ (hsz2:=by rw [hout,aS,aA,Array.length_toList,hp,sizeLine_eq];omega));rw [hf];simp only [bne_self_eq_false,Bool.false_eq_true,if_false];exact wpAny_pure (fin st' p hg.1 hg.2 hout)
end
theorem ID{X:Cx}{pins:List (Addr × Obj)}{σ:St}{H:Hp}{s:Shared}(I:cF X pins σ H s):∀{cs:List (List Int)}{ys:List V}{us:List Value},aW H (cs.map λc=>PyData.tuple (c.map .int)) ys->(∀c∈cs,c≠[])->cZ ys us->kB s.heap us cs
 | [],ys,us,r,hc,v=>by
  unfold aW at r;cases (show ys=[] from r);cases v;exact .nil
 | c::cs,ys,us,r,hc,v=>by
  rw [bH] at r;unfold aW at r;obtain ⟨y,ys',rfl,r1,r2⟩:=r;obtain ⟨u,us',rfl,rv,v'⟩:=sF v;refine .cons ?_ (ID I r2 (λc h=>hc c (aR _ h)) v');unfold cC at r1;obtain ⟨a,xs,rfl,h1,h2⟩:=r1;cases rv;obtain ⟨its,rr,pl,hzz⟩:=I.tuple (jH.of h1);have hx:xs=c.map V.int:=by
   clear rr h1 hc hzz
   induction c generalizing xs with
   | nil=>unfold aW at h2;exact h2
   | cons z c ih =>
    rw [bH] at h2;unfold aW at h2;obtain ⟨x,xs',rfl,h3,h4⟩:=h2;cases (show x=V.int z from h3);rw [ih _ h4];rfl
  subst hx;exact ⟨a,its,rfl,pl,rr,hc c (aU ..)⟩
theorem AL{ys:List V}{us:List Value}(v:cZ ys us):∀ix:List Nat,(∀i∈ix,i<ys.length)->cZ (ix.map λi=>ys.getD i .non) (ix.map λi=>us.getD i Value.none)
 | [],_=>.nil
 | i::ix,h=>by
  have hi:=h i (aU ..);obtain ⟨u,hu,ru⟩:=v.get (i:=i) (x:=ys[i]) (by simp [hi]);refine .cons ?_ (AL v ix λj hj=>h j (aR _ hj));have e1:ys.getD i .non=ys[i]:=by simp [hi]
  have e2:us.getD i Value.none=u:=by rw [bJ,hu];rfl
  show dJ (ys.getD i .non) (us.getD i Value.none);rw [e1,e2];exact ru
abbrev cD(c:List Int):PyData:=.tuple (c.map .int)
theorem aDu(x y:Int):PyData.eqv (.int x) (.int y)=decide (x=y):=by
 show (x == y)=_;rw [Bool.beq_eq_decide_eq]
theorem YW:∀a b:List Int,PyData.eqvAll (a.map PyData.int) (b.map PyData.int)=decide (a=b)
 | [],[]=>by simp [PyData.eqvAll]
 | [],_::_=>by simp [PyData.eqvAll]
 | _::_,[]=>by simp [PyData.eqvAll]
 | x::a,y::b=>by
  have ih:=YW a b;rw [bH,bH];show (PyData.eqv (.int x) (.int y)&&PyData.eqvAll _ _)=_;rw [ih,aDu];by_cases h:x=y <;> by_cases h':a=b <;> simp [h,h']
theorem aAO(a b:List Int):PyData.eqv (cD a) (cD b)=decide (a=b):=YW a b
theorem EJ:∀a:List Int,PyData.canLayAll0 (a.map PyData.int)=true
 | []=>rfl
 | x::a=>by
  show (PyData.canLay0 (.int x)&&PyData.canLayAll0 (a.map PyData.int))=true;rw [EJ a];rfl
theorem QX:∀a:List Int,PyData.depthAll (a.map PyData.int)<=1
 | []=>by show 0<=1;omega
 | x::a=>by
  have:=QX a;show max (PyData.depth (.int x)) (PyData.depthAll (a.map PyData.int))<=1;have:PyData.depth (.int x)<=1:=by simp [PyData.depth]
  omega
theorem RU{H:Hp}{c:List Int}{v:V}(h:cC H (cD c) v):∃a,v=.ref a/\H a=some (.tup (c.map V.int)):=by
 unfold cC at h;obtain ⟨a,xs,rfl,h1,h2⟩:=h;have hx:xs=c.map V.int:=by
  clear h1
  induction c generalizing xs with
  | nil=>unfold aW at h2;exact h2
  | cons z c ih =>
   rw [bH] at h2;unfold aW at h2;obtain ⟨x,xs',rfl,h3,h4⟩:=h2;cases (show x=V.int z from h3);rw [ih _ h4];rfl
 subst hx;exact ⟨a,rfl,h1⟩
theorem ED{a b:List Int}(h:a.map V.int=b.map V.int):a=b:=by
 induction a generalizing b with
 | nil=>cases b with
  | nil=>rfl
  | cons _ _=>cases h
 | cons x a ih=>cases b with
  | nil=>cases h
  | cons y b =>
   rw [bH,bH] at h;injection h with h1 h2;injection h1 with h1;rw [h1,ih h2]
open Classical in
noncomputable def SL (H:Hp) (c:List Int) (u:Value):Bool:=decide (∃b,u=.ref b/\H b=some (.tup (c.map V.int)))
section
variable{X:Cx}{pins:List (Addr × Obj)}{σ:St}{H:Hp}{s:Shared}
theorem QS{c c':List Int}{y:V}{u:Value}(h:cC H (cD c') y)(r:dJ y u):SL H c u=decide (c'=c):=by
 obtain ⟨a,rfl,ha⟩:=RU h;cases r;unfold SL;rw [Bool.eq_iff_iff];simp only [decide_eq_true_eq];constructor
 ·rintro ⟨b,e2,hb⟩;cases e2;rw [ha] at hb;injection hb with hb;injection hb with hb;exact ED hb
 ·rintro rfl;exact ⟨a,rfl,ha⟩
theorem BY{c:List Int}:∀{cs:List (List Int)}{ys:List V}{us:List Value},aW H (cs.map cD) ys->cZ ys us->us.any (SL H c)=decide (c∈cs)
 | [],ys,us,r,v=>by
  unfold aW at r;cases (show ys=[] from r);cases v
  rfl
 | c' :: cs,ys,us,r,v=>by
  rw [bH] at r;unfold aW at r;obtain ⟨y,ys',rfl,r1,r2⟩:=r;obtain ⟨u,us',rfl,rv,v'⟩:=sF v;rw [List.any_cons,QS r1 rv,BY r2 v'];by_cases h:c'=c
  ·subst h;simp
  ·have h':¬c=c':=λe=>h e.symm;simp [h,h']
theorem BX(I:cF X pins σ H s)(hu:X.A.units+64<cLine){c:List Int}{v:Value}{as:List Addr}(rc:Reads s.heap v (cD c) as):∀{cs:List (List Int)}{ys:List V}{us:List Value},aW H (cs.map cD) ys->cZ ys us ->
  ∀u∈us,SeqAt.EqAt X.A.in1 s u v (SL H c u)
 | [],ys,us,r,vv=>by
  unfold aW at r;cases (show ys=[] from r);cases vv;exact λu hu=>by cases hu
 | c' :: cs,ys,us,r,vv=>by
  rw [bH] at r;unfold aW at r;obtain ⟨y,ys',rfl,r1,r2⟩:=r;obtain ⟨u,us',rfl,rv,v'⟩:=sF vv;intro u' hu';rcases bC.mp hu' with rfl | hu'
  ·obtain ⟨bs,rb⟩:=r1.reads I rv;rw [QS r1 rv,<-aAO];refine SeqAt.eqAt_reads (cD c') (cD c) _ s _ _ bs as rb rc (EJ c') (EJ c) ?_;have h1:(cD c').depth<=2:=by
    have:=QX c';simp only [PyData.depth];omega
   have:X.A.in1.units<=X.A.units+1:=by
    first
     | exact aI _
     | (unfold Around.in1;simp)
   omega
  ·exact BX I hu rc r2 v' u' hu'
end
@[irreducible] def VA(K:PySem.W.Frag)(neg:Bool):R2:=λx y H Q=>∃(p:Addr) (ys:List V) (cs:List (List Int)) (c:List Int),y=.ref p/\(fN K H p ys\/jH K H p ys)/\aW H (cs.map cD) ys/\kP K H (cD c) x/\Q (.bl (if neg then !decide (c∈cs) else decide (c∈cs))) H
theorem riT{K:PySem.W.Frag}{neg:Bool}{x:V}{p:Addr}{ys:List V}{cs:List (List Int)}{c:List Int}{H:Hp}{Q:VK}(h:fN K H p ys\/jH K H p ys)(r:aW H (cs.map cD) ys)(rx:kP K H (cD c) x)(q:Q (.bl (if neg then !decide (c∈cs) else decide (c∈cs))) H):VA K neg x (.ref p) H Q:=by
 unfold VA;exact ⟨p,ys,cs,c,rfl,h,r,rx,q⟩
section
variable{X:Cx}
theorem LJ(K:PySem.W.Frag)(hu:X.A.units+64<cLine)(hK:X.K=K:=by rfl):tW X (compareOp .NotIn) (VA K true):=by
 subst hK;unfold VA;intro pins s σ H x y v u Q I rx ry h;obtain ⟨p,ys,cs,c,rfl,hq,r,rc,q⟩:=h;cases ry;obtain ⟨as,ra⟩:=rc.reads I rx;rcases hq with hq | hq
 ·obtain ⟨its,r',pl,hz⟩:=I.list hq;refine SeqAt.notIn_listAt (SL H c) pl.isList (λw hw=>BX I hu ra r r' w (by simpa using hw)) ⟨.bl _,H,I,rfl,?_⟩;rw [show its.toArray.any (SL H c)=its.any (SL H c) by simp,BY r r'];exact q
 ·obtain ⟨its,r',pl,hz⟩:=I.tuple hq;refine SeqAt.notIn_tupleAt (SL H c) pl (λw hw=>BX I hu ra r r' w (by simpa using hw)) ⟨.bl _,H,I,rfl,?_⟩;rw [show its.toArray.any (SL H c)=its.any (SL H c) by simp,BY r r'];exact q
end
end L2
namespace HT
open PySem PySem.Spec PyProof.Rows PySem.Builtin
section
variable{prog:Program}{w:World}{A:Around}{E:Value->Shared->Prop}{s:Shared}
end
section
variable{prog:Program}{w:World}{A:Around}{E:Value->Shared->Prop}{s:Shared}{K:Type}[DecidableEq K]{knd:HeapKind prog w K}
end
end HT
namespace L2
open PySem PySem.Spec PySem.W PyProof.Rows HT
section
variable{X:Cx}{pins:List (Addr × Obj)}{σ:St}{H:Hp}
end
end L2
namespace HT
open PySem PySem.Spec PyProof.Rows
section
variable{prog:Program}{w:World}{A:Around}{E:Value->Shared->Prop}{s:Shared}{it d:Addr}{es:Array DictEntry}{ep i:Nat}{od:Obj}
theorem WM{Q:Option Value->Shared->Prop}(hit:s.heap.IsKeyIter it d i es.size ep)(hod:s.heap.get? d=some od)(hdd:od.data=.dict es ep)(hi:i<es.size)
  (h:∀h',h'.IsKeyIter it d (i+1) es.size ep->Heap.SameBut it s.heap h'->Q (some es[i].key) { s with heap:=h' }):wpAny (model prog w) A (pyNext (.ref it)) Q E s:=by
 obtain ⟨⟨c0,dd0,data0,sl0⟩,ho,hc,hd⟩:=id hit;simp only at hc hd;subst hc hd;have hT:=hit.typeIs;unfold pyNext;refine wpAny_bind (wpAny_attempt (wpAny_callSpecial?_slot (name:=Str.ofString "__next__") hT F.slot_dict_keyiterator_next (wpAny_call_entry F.slot_dict_keyiterator_next hT F.entry_dict_keyiterator_next ?_ (F.args_dict_keyiterator_next_1 _))));have hn:(Value.ref d == Value.none)=false:=rfl;have hown:Builtin.Dict_items.ownsTuple "dict_keyiterator" = false:=Dd
 repeat (any_goals (first | assumption | (with_reducible refine wpAny_typeNameOfWhole_keyiter hT ?_) | (with_reducible refine wpAny_isOneOf_keyiter hT ?_) | (with_reducible refine wpAny_fieldsOf ho rfl ?_) | (with_reducible refine wpAny_dictEntries hod hdd ?_) | (with_reducible refine wpAny_dictEpoch hod hdd ?_) | wp_step))
 rw [if_neg (show ¬((i:Int)<0) by omega),Int.toNat_natCast,Array.getElem?_eq_getElem hi];have hit':(s.heap.update it (Obj.mapFields (·.setIfInBounds 1 (rawInt ((i:Int)+1))))).IsKeyIter it d (i+1) es.size ep :=
  ⟨_,Heap.get?_update_self _ ho (Obj.isFreed_of_fields (Obj.data_mapFields rfl _)),(Obj.cls_mapFields ..).trans rfl,by rw [Obj.data_mapFields rfl];simp [rawInt]⟩
 have hT':({ s with heap:=s.heap.update it (Obj.mapFields (·.setIfInBounds 1 (rawInt ((i:Int)+1)))) }:Shared).TypeIs (.ref it) "dict_keyiterator" := hit'.typeIs;have hfin:=h _ hit' (Heap.SameBut.update ..)
 repeat (any_goals (first | assumption | (with_reducible refine wpAny_typeNameOfWhole_keyiter hT ?_) | (with_reducible refine wpAny_isOneOf_keyiter hT ?_) | (with_reducible refine wpAny_isOneOf_keyiter hT' ?_) | (with_reducible refine wpAny_setField ho rfl (by rw [hown];simp) ?_) | wp_step))
 exact ⟨_,rfl,wpAny_pure hfin⟩
theorem aAz{Q:Option Value->Shared->Prop}(hh:A.handled=none)(hit:s.heap.IsKeyIter it d i es.size ep)(hod:s.heap.get? d=some od)(hdd:od.data=.dict es ep)(hi:es.size<=i)
  (h:∀h',Heap.ExtBut it s.heap h'->Q none { s with heap:=h' }):wpAny (model prog w) A (pyNext (.ref it)) Q E s:=by
 obtain ⟨⟨c0,dd0,data0,sl0⟩,ho,hc,hd⟩:=id hit;simp only at hc hd;subst hc hd;have hT:=hit.typeIs;have hn:(Value.ref d == Value.none)=false:=rfl;have hown:Builtin.Dict_items.ownsTuple "dict_keyiterator" = false:=Dd;unfold pyNext;refine wpAny_bind (wpAny_attempt (wpAny_callSpecial?_slot (name:=Str.ofString "__next__") hT F.slot_dict_keyiterator_next (wpAny_call_entry F.slot_dict_keyiterator_next hT F.entry_dict_keyiterator_next ?_ (F.args_dict_keyiterator_next_1 _))))
 repeat (any_goals (first | assumption | (with_reducible refine wpAny_typeNameOfWhole_keyiter hT ?_) | (with_reducible refine wpAny_isOneOf_keyiter hT ?_) | (with_reducible refine wpAny_fieldsOf ho rfl ?_) | (with_reducible refine wpAny_dictEntries hod hdd ?_) | (with_reducible refine wpAny_dictEpoch hod hdd ?_) | wp_step))
 rw [if_neg (show ¬((i:Int)<0) by omega),Int.toNat_natCast,Array.getElem?_eq_none hi]
 repeat (any_goals (first | assumption | (with_reducible refine wpAny_typeNameOfWhole_keyiter hT ?_) | (with_reducible refine wpAny_setField ho rfl (by rw [hown];simp) ?_) | wp_step))
 simp only [raiseNew];refine wpAny_bind (wpAny_handled ?_);rw [show A.in1.handled=none from hh];refine wpAny_bind (wpAny_pure (wpAny_throw ?_));refine wpAny_bind (wpAny_isInstance (T := "StopIteration") (b:=true) ⟨_,bB _ rfl,rfl⟩ isSubtype_stop ?_);exact wpAny_pure (h _ (((Heap.SameBut.update ..).extBut.push _).push _))
theorem WO{Q:Value->Shared->Prop}(hd:(d == sysModules)=false)(hod:s.heap.get? d=some od)(hex:od.ExactDict)(hdd:od.data=.dict es ep)
  (hQ:Q (.ref s.heap.objs.size) { s with heap:=s.heap.push { cls:=.type "dict_keyiterator",data:=.fields #[.ref d,.int 0 0,.int es.size 0,.int ep 0] } }):wpAny (model prog w) A (pyIter (.ref d)) Q E s:=by
 have hT:s.TypeIs (.ref d) "dict" := ⟨od,hod,hex.1⟩;refine wpAny_pyIter_slot hT F.slot_dict_iter (wpAny_call_entry F.slot_dict_iter hT F.entry_dict_iter ?_ (F.args_dict_iter_1 _));unfold Builtin.«dict.__iter__»;refine wpAny_bind ?_;unfold Builtin.Dict.dictSlotNone;refine wpAny_bind (wpAny_notOrdered_dict hT ?_);show wpAny _ _ (pure (Value.ref d)) _ _ s;refine wpAny_pure ?_;have hm:(d == sysModules)=false:=hd
 repeat (any_goals (first | assumption | (with_reducible refine wpAny_dictEntries hod hdd ?_) | (with_reducible refine wpAny_dictEpoch hod hdd ?_) | wp_step))
 exact ⟨_,rfl, "dict_keyiterator",_,⟨_,bB _ rfl,rfl⟩,F.slot_dict_keyiterator_next.lookup,hQ⟩
end
end HT
namespace L2
open PySem PySem.Spec PySem.W PyProof.Rows HT
section
variable{X:Cx}{pins:List (Addr × Obj)}{σ:St}{H:Hp}{s:Shared}
theorem xB{α β:Type}{R:α->β->Prop}:∀{l:List α}{m:List β}{i:Nat}{a:α},Paired R l m->l[i]?=some a->∃b,m[i]?=some b/\R a b
 | _,_,i,a,.nil,h=>by simp at h
 | _,_,0,a,.cons r t,h=>by
  cases (show _=a by simpa using h);exact ⟨_,rfl,r⟩
 | _,_,i+1,a,.cons r t,h=>by
  obtain ⟨b,h1,h2⟩:=xB t (by simpa using h);exact ⟨b,by simpa using h1,h2⟩
end
section
variable{X:Cx}{tg:Expr}
end
end L2
namespace HT
open PySem PySem.Spec PyProof.Rows PySem.W
section
variable{prog:Program}{w:World}{A:Around}{d:Addr}{o:Obj}{es:Array DictEntry}{ep:Nat}
theorem KF(hh:A.handled=none)(I:Addr)(hne:d≠I)(hdat:o.data=.dict es ep) :
  Walks prog w A I [I,d] [I] es.size (λi v=>∃hi:i<es.size,v=es[i].key) (λi h=>h.IsKeyIter I d i es.size ep/\h.get? d=some o) where
 sub:=λb hb=>by simp at hb;simp [hb]
 frame:=λ_ _ _ st hk=>⟨st.1.at λo e=>hk I (by simp) o e,hk d (by simp) o st.2⟩
 item:=λi s Q E hi st hQ=>WM st.1 st.2 hdat hi λh' hit' hs' =>
  hQ _ h' s.toks ⟨hi,rfl⟩ ⟨hit',(hs'.2 d hne).trans st.2⟩ λb o hb e=>(hs'.2 b (λh=>hb (by simp [h]))).trans e
 done:=λs Q E st hQ=>aAz hh st.1 st.2 hdat (aI _) λh' he'=>hQ h' s.toks λb o hb e=>he' b o (λh=>hb (by simp [h])) e
 self:=λ_ _ _ _ st hQ=>wpAny_pyIter_keyiter st.1 hQ
theorem WP(lo:(d == sysModules)=false)(hex:o.ExactDict)(hdat:o.data=.dict es ep):KdlSrc prog w "dict" d d es.size (λi v=>∃hi:i<es.size,v=es[i].key) (λh=>h.get? d=some o) where
 type:=λ_ hm=>⟨o,hm,hex.1⟩
 there:=λ_ hm=>⟨aT hm,aT hm⟩
 keep:=λ_ _ hm hk=>hk d (.inl rfl) o hm
 notList:=Dd
 notTuple:=Dd
 hint:=λ_ _ _ _ hm hq=>kdl_hint_dict ⟨o,hm,hex.1⟩ hq
 iter:=λA s hh hm=>⟨_,_,λE Q hQ=>WO lo hm hex hdat hQ,KF hh _ (cG (aT hm)) hdat,⟨_,bB _ rfl,rfl,rfl⟩,aC _ hm⟩
end
end HT
namespace L2
open PySem PySem.Spec PySem.W PyProof.Rows HT
end L2
namespace HT
open PySem PySem.Spec PyProof.Rows PySem.W
section
variable{prog:Program}{w:World}{A:Around}{E:Value->Shared->Prop}{s:Shared}{it d:Addr}{es:Array DictEntry}{ep i:Nat}{od:Obj}
end
end HT
namespace L2
open PySem PySem.Spec PySem.W PyProof.Rows HT
section
variable{X:Cx}{tg:Expr}
end
section
variable{X:Cx}{o e:Expr}{apos cpos:Pos}{td ty:TE}
end
end L2
namespace L2
open PySem
theorem XA{X:Cx}(K:PySem.W.Frag)(hK:X.K=K:=by rfl):jJ X (.type "tuple") (λxs H Q=>∃p ys,xs=[.ref p]/\((fN K H p ys/\∀l,H l=none->Q (.ref l) (upd H l (.tup ys)))\/(jH K H p ys/\Q (.ref p) H))):=by
 subst hK;exact eV
section
variable{js:List Nat}{te:TE}{tc:TT}{σ:St}{H:Hp}{Q:VK}
end
end L2
namespace L2
open PySem PySem.Spec PyProof.Rows
section
variable{X:Cx}{pins:List (Addr × Obj)}{σ:St}{H:Hp}{s:Shared}{scope:Scope}{x x2:Str}{N':List Str}{js:List Nat}{fp:List Addr}
end
section
variable{X:Cx}{pins:List (Addr × Obj)}{σ:St}{H:Hp}{s:Shared}{scope:Scope}{x:Str}{N':List Str}{js:List Nat}{fp:List Addr}{elt iter:Expr}{px pos:Pos}{tg:Expr}{x2:Str}{te:TE}
end
section
variable{X:Cx}{scope:Scope}{x x2 y:Str}{N':List Str}{js:List Nat}{elt iter tg:Expr}{py pos spos:Pos}{te:TE}{wi:TI}{i:Nat}
end
end L2
namespace HT
open PySem PySem.Spec PyProof.Rows
section
variable{prog:Program}{w:World}{A:Around}{E:Value->Shared->Prop}{s:Shared}{d:Addr}{o:Obj}{es:Array DictEntry}{ep:Nat}
end
end HT
namespace L2
open PySem PySem.Spec PySem.W PyProof.Rows HT
theorem BR(c:List Int):(c.map (Sum.inl:Int->eZ)).map kV=c.map V.int:=by rw [List.map_map];rfl
abbrev kT(c:List Int):List eZ:=c.map Sum.inl
theorem mV{a b:List Int}(h:kT a=kT b):a=b:=by
 have:∀{a b:List Int},kT a=kT b->a=b:=by
  intro a
  induction a with
  | nil=>intro b h;cases b with
   | nil=>rfl
   | cons _ _=>cases h
  | cons x a ih=>intro b h;cases b with
   | nil=>cases h
   | cons y b =>
    injection h with h1 h2;injection h1 with h1;rw [h1,ih h2]
 exact this h
section
variable{X:Cx}{o e f k v:Expr}{apos cpos pos:Pos}{td ty tx tk tv:TE}
@[irreducible] def VG(p:Addr)(x y:V)(H2:Hp)(Q:VK):Prop:=∃b k,x=.ref b/\H2 b=some (.tup (k.map kV))/\H2 p=some (.dT [])/\Q (.ref p) (upd H2 p (.dT [(k,y)]))
def ZO(tk tv:TE):TE:=λσ H Q=>∀p,H p=none->tk σ (upd H p (.dT [])) λx H1=>tv σ H1 λy H2=>VG p x y H2 Q
theorem aCK{p b:Addr}{y:V}{H:Hp}{Q:VK}{c:List Int}(hb:H b=some (.tup (c.map V.int)))(hp:H p=some (.dT []))(q:∀H',H' p=some (.dT [(kT c,y)])->aQ p H H'->Q (.ref p) H'):VG p (.ref b) y H Q:=by
 unfold VG;exact ⟨b,kT c,rfl,by rw [BR];exact hb,hp,q _ bM aQ.self⟩
theorem NE(hu:X.A.units+1<cLine)(hk:iG X k tk)(hv:iG X v tv):iG X (.Dict [some k] [v] pos) (ZO tk tv):=⟨by
 intro pins s σ H Q I q;have hn:=I.hok.fresh (aI s.heap.objs.size);have I1:=I.laid (a:=s.heap.objs.size) (o:=.dT []) (h':=s.heap.push { cls:=.type "dict",data:=.dict #[] }) (t':=s.toks) (λ_ _ q=>aC _ q) (aI _) (EQ s.heap I.big);refine wpAny_Dict_any rfl rfl (by simp) (show 1<=15 by decide) (pairTrees_cons_walk (thn (hk.p pins _ σ _ _ I1 (q _ hn)) λu s1 ⟨x,H1,I1,rx,q1⟩=>thn (hv.p pins s1 σ H1 _ I1 q1) λw2 s2 ⟨y,H2,I2,ry,q2⟩=>pairTrees_nil_walk ?_));unfold VG at q2;obtain ⟨b,kk,rfl,eb,e,q3⟩:=q2;cases (show u=Value.ref b from rx);obtain ⟨z,hd,xs,rel,dd⟩:=YX I2.hok e;unfold storeAll;rw [List.forIn_cons];refine wpAny_bind (wpAny_bind (wpAny_dictSet_heap (show X.A.units<cLine by omega) (uP I2.hok eb) dd (λh' dd' hs=>wpAny_pure ?_) (by rw [<-Paired.length rel];exact z)));dsimp only;rw [List.forIn_nil];refine wpAny_pure ?_;obtain ⟨q,es,ep,hq,h2,h3,h4,_,h5⟩:=dd';refine ⟨.ref _,_,?_,rfl,q3⟩;have hl:([(kk,y)]:List (List eZ × V)).length<=sizeLine:=by show 1<=sizeLine;decide
 refine wH I2 (by rw [e];exact True.intro) hs ⟨q,hq⟩ ⟨hl,hd,_,(rel.put kk eb ry).keeps λc ys ec=>?_,q,es,ep,hq,h2,h3,h4,h5⟩;rw [cX (pC ec e (λz=>nomatch z))];exact ec⟩
theorem SV(hu:X.A.units+1<cLine)(ho:iG X o td)(he:iG X e ty)(hf:iG X f tx)(base:attributeBase o "get" X.env (eval o X.env)=eval o X.env:=by rfl)
  (few:((backTo cpos (starEach [e,f] X.env)).all (λx=>!x.1)&&(backToKw cpos (keywordEach [] X.env)).all (λx=>x.1.isSome)&&decide (([e,f]:List Expr).length+([]:List Keyword).length+(if ([]:List Keyword).isEmpty then 0 else 1)<30))=true:=by rfl)
  (line:(apos.endLine == cpos.line)=true:=by rfl) (trees:backTo cpos (starEach [e,f] X.env)=[(false,eval e X.env),(false,eval f X.env)]:=by rfl):iG X (.Call (.Attribute o "get" apos) [e,f] [] cpos) (NN td ty tx):=⟨PP hu ho.p he.p hf.p ⟨base,few,line,trees⟩⟩
@[irreducible] def VB(b:Bool):R2:=λx y H Q=>∃a o,y=.ref a/\oK H a x o/\Q (.bl (xor b o.isSome)) H
theorem rind{b:Bool}{x:V}{a:Addr}{o:Option V}{H:Hp}{Q:VK}(g:oK H a x o)(q:Q (.bl (xor b o.isSome)) H):VB b x (.ref a) H Q:=by unfold VB;exact ⟨a,o,rfl,g,q⟩
theorem PX(hu:X.A.units+1<cLine):tW X (compareOp .In) (VB false):=by
 intro pins s σ H x y v u Q I rx ry h;unfold VB at h;obtain ⟨a,o,rfl,g,q⟩:=h;cases (show u=Value.ref a from ry);exact aDw hu I g rx λs3 I3=>⟨.bl _,H,I3,rfl,by simpa using q⟩
end
theorem QU{H:Hp}{p b:Addr}{kvs:List (List eZ × V)}{c:List Int}{v:V}{D:tY}{σ:St}(e:H p=some (.dT kvs))(eb:H b=some (.tup (c.map V.int)))(hl:kvs.length<=100000)(q:∀H',H' p=some (.dT (iR kvs (kT c) v))->aQ p H H'->D.nx σ H') :
  rDP D σ (.ref p) (.ref b) v H:=by
 unfold rDP;exact ⟨p,_,rfl,CP.t (k:=kT c) e (by rw [BR];exact eb) (bA hl Dd),q _ bM aQ.self⟩
theorem oK.ct{H:Hp}{p b:Addr}{kvs:List (List eZ × V)}{c:List Int}(e:H p=some (.dT kvs))(eb:H b=some (.tup (c.map V.int))):oK H p (.ref b) (fM kvs (kT c)):=oK.t e (by rw [BR];exact eb)
theorem LX{H:Hp}{p b:Addr}{kvs:List (List eZ × V)}{c:List Int}{v:V}{Q:VK}(e:H p=some (.dT kvs))(eb:H b=some (.tup (c.map V.int)))(hv:fM kvs (kT c)=some v)(q:Q v H):rDG (.ref p) (.ref b) H Q:=by
 unfold rDG;exact ⟨p,v,rfl,hv ▸ oK.ct e eb,q⟩
@[irreducible] def BJ(K:PySem.W.Frag):List V->Hp->VK->Prop:=λxs H Q=>∃x d,xs=[x]/\kP K H d x/\d.showable=true/\d.hasDict=false/\d.depth<=60/\d.shown.length<=sizeLine/\Q (.str d.shown) H
theorem rrK{K:PySem.W.Frag}{H:Hp}{Q:VK}{x:V}{d:PyData}(r:kP K H d x)(h1:d.showable=true)(h2:d.hasDict=false)(h3:d.depth<=60)(h4:d.shown.length<=sizeLine)(q:Q (.str d.shown) H):BJ K [x] H Q:=by unfold BJ;exact ⟨x,d,rfl,r,h1,h2,h3,h4,q⟩
theorem RH{X:Cx}(K:PySem.W.Frag)(hg:X.A.guards=some [])(hu:X.A.units+64<cLine)(hK:X.K=K:=by rfl):jJ X (.builtin "repr") (BJ K):=by
 subst hK;unfold BJ;intro pins s σ H xs us Q I r h;obtain ⟨x,d,rfl,hr,hs,hnd,hdp,hz,q⟩:=h;obtain ⟨u,rfl,ru⟩:=lD r;obtain ⟨as,rd⟩:=hr.reads I ru;cases rd with
 | none=>exact PySem.P.repr_of_none ⟨.str _,H,I.tok _,⟨_,rfl⟩,q⟩
 | bool b=>exact PySem.P.repr_of_bool ⟨.str _,H,I.tok _,⟨_,rfl⟩,q⟩
 | int i t=>exact PySem.P.repr_of_int (by simpa [PyData.showable] using hs) ⟨.str _,H,I.tok _,⟨_,rfl⟩,q⟩
 | str y t=>exact PySem.P.repr_of_str ⟨.str _,H,I.tok _,⟨_,rfl⟩,q⟩ hz
 | list a1 a2 a3 a4=>exact repr_of_reads' (.list a1 a2 a3 a4) hs (PyData.noDict_hsm hnd) hg Oo (λ_ _ e=>e) (λh' u tk hk=>⟨.str _,H,I.kept hk,⟨_,rfl⟩,q⟩) hz
 | tuple a1 a2 a3 a4=>exact repr_of_reads' (.tuple a1 a2 a3 a4) hs (PyData.noDict_hsm hnd) hg Oo (λ_ _ e=>e) (λh' u tk hk=>⟨.str _,H,I.kept hk,⟨_,rfl⟩,q⟩) hz
 | dict a1 a2 a3 a4 a5=>simp [PyData.hasDict] at hnd
theorem rH{kvs:List (List eZ × V)}{k:List eZ}{v:V}(h:(fM kvs k).isSome=true):(iR kvs k v).map (·.1)=kvs.map (·.1):=by
 unfold iR;rw [kU,if_pos h,List.map_map];refine eB λp _=>?_;show (if p.1=k then (p.1,v) else p).1=p.1;split <;> rfl
@[irreducible] def UZ:List V->Hp->VK->Prop:=λxs H Q=>∃a ys,xs=[.ref a,.ty "tuple"]/\H a=some (.tup ys)/\Q (.bl true) H
theorem rist{H:Hp}{Q:VK}{a:Addr}{ys:List V}(h:H a=some (.tup ys))(q:Q (.bl true) H):UZ [.ref a,.ty "tuple"] H Q:=by unfold UZ;exact ⟨a,ys,rfl,h,q⟩
theorem RI{X:Cx}:jJ X (.builtin "isinstance") UZ:=by
 unfold UZ;intro pins s σ H xs us Q I r h;obtain ⟨a,ys,rfl,ha,q⟩:=h;obtain ⟨u,w',rfl,r1,r2⟩:=aBo r;cases (show w'=Value.type "tuple" from r2);exact LQ I r1 (show uY X.K H (.ref a) (.type "tuple") from .tup ha) (aB2 _ (.tuple []) "tuple" Dd) λtk=>⟨.bl _,H,I.tok _,rfl,q⟩
end L2
namespace L2
open PySem
section
variable{js:List Nat}{te:TE}{tc:TT}{σ:St}{H:Hp}{Q:VK}
theorem WY{J:It}{α:Type}{as:List α}(p:α->Bool)(Src:α->V->Prop)(R:α->V->Hp->Prop)(hR:∀c y H1 H2,dB H1 H2->R c y H1->R c y H2)(hz:as.length<=100000)
  (hg:∀i H',aY H H'->i<as.length->J.go i H'/\∀x H3,J.yld i H' x H3->H3=H'/\∃c,as[i]?=some c/\Src c x) (hst:∀H',aY H H'->J.stop as.length H')
  (ht:∀x c H' (Q':Bool->Hp->Prop),c∈as->Src c x->aY H H'->(∀H5,aY H' H5->Q' (p c) H5)->tc (some x::slots σ js) H' Q')
  (he:∀x c H' (Q':VK),c∈as->p c=true->Src c x->aY H H'->(∀y H6,aY H' H6->R c y H6->Q' y H6)->te (some x::slots σ js) H' Q')
  (hd:∀D ys H',H D=none->H' D=some (.lst ys)->aY H H'->Paired (λc y=>R c y H') (as.filter p) ys->Q (.ref D) H'):lE J σ js tc te H Q:=by
 have mono:∀{H1 H2:Hp} {l:List α} {ys:List V},dB H1 H2->Paired (λc y=>R c y H1) l ys->Paired (λc y=>R c y H2) l ys:=by
  intro H1 H2 l ys s h
  induction h with
  | nil=>exact .nil
  | cons h t ih=>exact .cons (hR _ _ _ _ s h) ih
 have snoc:∀{H1:Hp} {l:List α} {ys:List V} {c:α} {y:V},Paired (λc y=>R c y H1) l ys->R c y H1->Paired (λc y=>R c y H1) (l++[c]) (ys++[y]):=by
  intro H1 l ys c y h r
  induction h with
  | nil=>exact .cons r .nil
  | cons h t ih=>exact .cons h ih
 unfold lE;intro D hD;refine ⟨λi m ys H'=>m=as.length-i/\i<=as.length/\H' D=some (.lst ys)/\aY H H'/\Paired (λc y=>R c y H') ((as.take i).filter p) ys/\ys.length<=i,⟨as.length,by simp,cE _,bM,aY.upd hD,.nil,aI _⟩,?_⟩;rintro i m ys H2 ⟨rfl,hi,hD2,s2,ry,hy⟩;refine ⟨hD2,?_⟩;by_cases hlt:i<as.length
 ·obtain ⟨hgo,hyl⟩:=hg i H2 s2 hlt;refine .inr ⟨hgo,bA (m:=100000) Oo Dd,λx H3 hy3=>?_⟩;obtain ⟨rfl,c,hc,rc⟩:=hyl x H3 hy3;have hcm:=aG hc;have hti:as.take (i+1)=as.take i++[c]:=by rw [gK,hc];rfl
  refine ⟨λb H4=>b=p c/\aY H3 H4,ht x c H3 _ hcm rc s2 λH5 s5=>⟨rfl,s5⟩,?_⟩;rintro b H4 ⟨rfl,s4⟩;by_cases hp:p c=true
  ·rw [if_pos hp];refine ⟨λy H5=>aY H4 H5/\R c y H5,he x c H4 _ hcm hp rc (s2.trans s4) λy H6 s6 r=>⟨s6,r⟩,?_⟩;rintro y H5 ⟨s5,r⟩;have hD5:=s5 _ _ (s4 _ _ hD2);have t6:dB H5 (upd H5 D (.lst (ys++[y]))):=aQ.t aQ.self hD5;refine ⟨hD5,_,?_,rfl,hlt,bM,aY.thru hD ((s2.trans s4).trans s5) aQ.self,?_,?_⟩
   ·omega
   ·rw [hti,List.filter_append];have:List.filter p [c]=[c]:=by simp [hp]
    rw [this];exact snoc (mono ((s4.trans s5).t.trans t6) ry) (hR _ _ _ _ t6 r)
   ·rw [bE,List.length_singleton];omega
  ·rw [if_neg hp];refine ⟨s4 _ _ hD2,_,?_,rfl,hlt,s4 _ _ hD2,s2.trans s4,?_,?_⟩
   ·omega
   ·rw [hti,List.filter_append];have:List.filter p [c]=[]:=by simp [hp]
    rw [this,List.append_nil];exact mono s4.t ry
   ·omega
 ·have e:i=as.length:=Oo;subst e;refine .inl ⟨hst H2 s2,hd D ys H2 hD hD2 s2 ?_⟩;rw [cR] at ry;exact ry
theorem RF{lo:Int}{n:Nat}(p:Nat->Bool)(R:Nat->V->Hp->Prop)(hR:∀c y H1 H2,dB H1 H2->R c y H1->R c y H2)(hz:n<=100000)
  (ht:∀i H' (Q':Bool->Hp->Prop),i<n->aY H H'->(∀H5,aY H' H5->Q' (p i) H5)->tc (some (.int (lo+(i:Nat)))::slots σ js) H' Q')
  (he:∀i H' (Q':VK),i<n->p i=true->aY H H'->(∀y H6,aY H' H6->R i y H6->Q' y H6)->te (some (.int (lo+(i:Nat)))::slots σ js) H' Q')
  (hd:∀D ys H',H D=none->H' D=some (.lst ys)->aY H H'->Paired (λc y=>R c y H') ((List.range n).filter p) ys->Q (.ref D) H'):lE (XY lo n) σ js tc te H Q:=by
 refine WY (as:=List.range n) p (λi x=>x=.int (lo+(i:Nat))) R hR (by rw [aZ];exact hz) (λi H' s hi=>?_) (λH' s=>by rw [aZ];exact aI _) (λx c H' Q' hc e s q=>?_) (λx c H' Q' hc hp e s q=>?_) hd
 ·rw [aZ] at hi;exact ⟨hi,λx H3 y=>⟨y.1,i,by rw [cJ hi],y.2⟩⟩
 ·subst e;exact ht c H' Q' (bR.mp hc) s q
 ·subst e;exact he c H' Q' (bR.mp hc) hp s q
end
end L2
namespace L2
open PySem PySem.Spec PySem.W PyProof.Rows HT
section
variable{prog:Program}{w:World}{A:Around}{E:Value->Shared->Prop}{s:Shared}
theorem EZ{T:String}{r d:Addr}{n:Nat}{P:Nat->Value->Prop}{OK:Heap->Prop}{Q:List Value->Shared->Prop}(K:KdlSrc prog w T r d n P OK)(hh:A.handled=none)(hok:OK s.heap)(hn:n<=sizeLine)
  (hQ:∀h' tk (acc':Array Value),(∀b o,s.heap.get? b=some o->h'.get? b=some o)->ItemsOf P acc' n->Q acc'.toList { s with heap:=h',toks:=tk }) :
  wpAny (model prog w) A (collect (.ref r)) Q E s:=by
 have lt:=K.there _ hok;have at0:(s.heap.push (seqObj "list" #[] 0)).get? s.heap.objs.size=some { cls:=.type "list",data:=.seq #[] 0 }:=bB _ rfl
 let G:Result->Shared->Prop:=λa z=>∃g m l e,a=.ok (.ret (.ref s.heap.objs.size))/\z={ s with heap:=g,toks:=m }/\(∀b o,s.heap.get? b=some o->g.get? b=some o)/\g.get? s.heap.objs.size=some { cls:=.type "list",dict:=none,data:=.seq l e,slots:=#[] }/\ItemsOf P l n
 have ext:=kdl_extend (A:=A) (s:={ s with heap:=s.heap.push (seqObj "list" #[] 0) }) (R:=G) K hh (K.keep _ _ hok λb _ o e=>aC _ e) s.heap.objs.size (Nat.ne_of_gt lt.1) (Nat.ne_of_gt lt.2) (.ref s.heap.objs.size) 0 at0
  (λg m l e kp at1 it=>⟨g,m,l,e,rfl,rfl,λb o z=>kp b o (cG (aT z)) (aC _ z),at1,it⟩) hn
 unfold collect;refine wpAny_bind (wpAny_runValue (codeAny_builtin entry_proto_collect' ?_));rw [Around.under_plainId PySem.F.plain_proto_collect _];refine wpAny_bind (m:=newList []) (wpAny_newList (wpAny_pure ⟨plainId_quiet PySem.F.plain_list_iadd _,codeAny_builtin entry_list_iadd' ?_⟩));rw [Around.under_plainId PySem.F.plain_list_iadd _];refine wpAny_mono ext (λfin z y=>?_) λe z ⟨_,_,_,_,q,_⟩=>by cases q
 cases fin with
 | done f=>obtain ⟨g,m,l,e,q,rfl,kp,at1,it⟩:=y;cases q;exact wpAny_bind (wpAny_load at1 (wpAny_pure (hQ g m l kp it)))
 | again c=>exact ⟨y.1,codeAny_mono y.2 λq z ⟨g,m,l,e,eq,ez,kp,at1,it⟩=>by subst eq ez;exact wpAny_bind (wpAny_load at1 (wpAny_pure (hQ g m l kp it)))⟩
theorem GJ{x:Value}{Q:Value->Shared->Prop}
  (h:wpAny (model prog w) A.in1 (collect x) (λvs s1=>∃h1 tk cs,s1={ s with heap:=h1,toks:=tk }/\(∀b o,s.heap.get? b=some o->h1.get? b=some o)/\kB h1 vs cs/\vs.length<64 /\
   ∀(p:Array Nat) (h':Heap) (D:Addr) (c:Nat),gA vs.length p->(yC vs.length (vK cs)->vA (vK cs) p vs.length)->(∀b o,h1.get? b=some o->h'.get? b=some o)->h1.objs.size<=D->h'.get? D=some (seqObj "list" (List.toArray (p.toList.map λi=>vs.getD i Value.none)) c)->Q (.ref D) { s with heap:=h',toks:=tk }) E s) :
  wpAny (model prog w) A (call (.builtin "sorted") [x]) Q E s:=by
 refine Calls.call_function_entry kind_sorted plain_sorted entry_sorted (args_sorted1 _) ?_;unfold Builtin.«sorted»;refine wpAny_bind (m:=checkCount "sorted" 1 1 _) (wpAny_pure ?_);refine wpAny_bind (wpAny_mono h (λvs s1 ⟨h1,tk,cs,e,keep1,ht,h64,q⟩=>?_) λ_ _ e=>e);subst e;refine wpAny_bind (wpAny_newList ?_ (by rw [sizeLine_eq];omega));have hoL:(h1.push (seqObj "list" vs.toArray 0)).get? h1.objs.size=some (seqObj "list" vs.toArray 0):=bB _ rfl;have keep:∀b o,h1.get? b=some o->(h1.push (seqObj "list" vs.toArray 0)).get? b=some o:=λb o q=>aC _ q;show wpAny _ _ _ _ _ { s with heap:=h1.push (seqObj "list" vs.toArray 0),toks:=tk };refine wpAny_bind (wpAny_holding (wpAny_call_entry slot_list_sort ⟨_,hoL,rfl⟩ entry_list_sort ?body (args_list_sort _)));refine KO (s:={ s with heap:=h1.push (seqObj "list" vs.toArray 0),toks:=tk }) hoL (ht.keep λb o hb _=>keep b o hb) h64 λp hp ho=>⟨_,rfl,wpAny_pure ⟨_,rfl,?_⟩⟩;unfold sortedHeap;have o1:((h1.push (seqObj "list" vs.toArray 0)).update h1.objs.size (Obj.mapSeq λ_=>#[])).get? h1.objs.size=some (seqObj "list" #[] _):=get?_update_seq hoL (λ_=>#[]);have o2:=aC (seqObj "list" #[] 0) (aC (seqObj "tuple" vs.toArray 0) o1);refine q p _ h1.objs.size _ hp ho (λb o e=>?_) (aI _) (get?_update_seq o2 λ_=>List.toArray (p.toList.map λi=>vs.getD i Value.none));have hlt:b<h1.objs.size:=aT e;have hne:b≠h1.objs.size:=cG hlt;rw [eC _ _ _ _ hne];exact aC _ (aC _ (by rw [eC _ _ _ _ hne];exact keep b o e))
end
theorem aCb{X:Cx}{pins:List (Addr × Obj)}{σ:St}{H:Hp}{s:Shared}(I:cF X pins σ H s){d:Addr}{kvs:List (List eZ × V)}(e:H d=some (.dT kvs)):(d == sysModules)=false/\(kvs.map (·.1)).Nodup/\∃o,s.heap.get? d=some o/\o.ExactDict/\∃es ep,o.data=.dict es ep/\es.size=kvs.length /\
  ∀(i:Nat) (hi:i<es.size) p,kvs[i]?=some p->∃b,es[i].key=.ref b/\H b=some (.tup (p.1.map kV)):=by
 obtain ⟨z,hd,xs,rel,o,es,ep,h1,h2,h3,h4,h5⟩:=(show fE X.prog X.w H s.heap d (.dT kvs) from I.hok d _ e);have hl:es.size=kvs.length:=by
  have:=congrArg List.length h4;rw [aA,<-Paired.length rel] at this;simpa using this
 have hk:kvs.map (·.1)=xs.map (·.1):=by
  clear h4 h5 hl e z
  induction rel with
  | nil=>rfl
  | cons r t ih=>rw [bH,bH,r.1,ih]
 refine ⟨hd,hk ▸ h5,o,h1,h2,es,ep,h3,hl,λi hi p hp=>?_⟩;obtain ⟨x,hx,r1,r2,r3⟩:=xB rel hp;have he:es.toList[i]?=some (entryOfKey (tupleKind (fS X.prog X.w)) x):=by rw [h4,aM,hx];rfl
 have he2:es[i]=entryOfKey (tupleKind (fS X.prog X.w)) x:=by
  have:es.toList[i]?=some es[i]:=by simp [hi]
  rw [this] at he;injection he
 rw [he2];exact ⟨x.2.1,rfl,r2⟩
abbrev kyI(c:List Int):List eZ:=c.map Sum.inl
theorem kyV(c:List Int):(kyI c).map kV=c.map V.int:=by rw [List.map_map];rfl
@[irreducible] def BI:List V->Hp->VK->Prop:=λxs H Q=>∃(d:Addr) (kvs:List (List eZ × V)) (cs:List (List Int)),xs=[.ref d]/\H d=some (.dT kvs)/\kvs.map (·.1)=cs.map kyI/\(∀c∈cs,c≠[])/\cs.length<64 /\
 ∀q (ys:List V) (ds:List (List Int)) H',ds.Perm cs->ds.Pairwise (λa b=>jX a b=true)->H q=none->H' q=some (.lst ys)->aW H' (ds.map λc=>PyData.tuple (c.map .int)) ys->aY H H'->Q (.ref q) H'
theorem rsrd{H:Hp}{Q:VK}{d:Addr}{kvs:List (List eZ × V)}{cs:List (List Int)}(h:H d=some (.dT kvs))(hk:kvs.map (·.1)=cs.map kyI)(hc:∀c∈cs,c≠[])(hz:cs.length<64)
  (q:∀q (ys:List V) (ds:List (List Int)) H',ds.Perm cs->ds.Pairwise (λa b=>jX a b=true)->H q=none->H' q=some (.lst ys)->aW H' (ds.map λc=>PyData.tuple (c.map .int)) ys->aY H H'->Q (.ref q) H'):BI [.ref d] H Q:=by
 unfold BI;exact ⟨d,kvs,cs,rfl,h,hk,hc,hz,q⟩
theorem JO{X:Cx}(hc:X.calm=true):jJ X (.builtin "sorted") BI:=by
 unfold BI;intro pins s σ H xs us Q I r h;obtain ⟨d,kvs,cs,rfl,hq,hk,hne,hz,q⟩:=h;obtain ⟨u,rfl,rx⟩:=lD r;cases rx;obtain ⟨hm,hnd,o,hod,hex,es,ep,hdd,hsz,hat⟩:=aCb I hq;have lk:kvs.length=cs.length:=by have:=congrArg List.length hk;simpa using this
 refine GJ (EZ (WP hm hex hdd) (show X.A.in1.handled=none from I.ok.hd hc) hod (by rw [sizeLine_eq];omega) λh1 tk acc kp hacc=>?_);obtain ⟨la,hacc⟩:=hacc;have I1:cF X pins σ H { s with heap:=h1,toks:=tk }:=I.kept kp;have key:∀(n:Nat) (l:List Value),l.length=n->∀(m:List (List Int)),m.length=n->(∀(i:Nat) v c,l[i]?=some v->m[i]?=some c->∃b,v=.ref b/\H b=some (.tup (c.map V.int)))->∃ys:List V,cZ ys l/\aW H (m.map λc=>PyData.tuple (c.map .int)) ys:=by
  intro n
  induction n with
  | zero =>
   intro l hl m hm _;cases l with
   | nil=>cases m with
    | nil=>exact ⟨[],.nil,aW.nil⟩
    | cons _ _=>simp at hm
   | cons _ _=>simp at hl
  | succ n ih =>
   intro l hl m hm hk;cases l with
   | nil=>simp at hl
   | cons v l=>cases m with
    | nil=>simp at hm
    | cons c m =>
     obtain ⟨b,rfl,hb⟩:=hk 0 v c rfl rfl;obtain ⟨ys,hv,hy⟩:=ih l (by simpa using hl) m (by simpa using hm) λi v p h1 h2=>hk (i+1) v p (by simpa using h1) (by simpa using h2);have rb:∀c:List Int,aW H (c.map PyData.int) (c.map V.int):=λc=>by
      induction c with
      | nil=>exact aW.nil
      | cons x c ih=>exact aW.cons (cC.int _) ih
     exact ⟨.ref b::ys,.cons rfl hv,aW.cons (cC.tup hb (rb c)) hy⟩
 have lacc:acc.toList.length=cs.length:=by rw [Array.length_toList,la,hsz,lk]
 obtain ⟨ys,hv,hy⟩:=key cs.length acc.toList lacc cs rfl λi v c e1 e2=>by
  obtain ⟨hi,e⟩:=hacc i v (by rw [<-Array.getElem?_toList];exact e1);have hp:∃p,kvs[i]?=some p/\p.1=kyI c:=by
   have:(kvs.map (·.1))[i]?=some (kyI c):=by rw [hk,aM,e2];rfl
   rw [aM] at this;obtain ⟨p,h1,h2⟩:=dX.mp this;exact ⟨p,h1,h2⟩
  obtain ⟨p,hp1,hp2⟩:=hp;obtain ⟨b,k1,k2⟩:=hat i hi p hp1;rw [hp2,kyV] at k2;exact ⟨b,by rw [e,k1],k2⟩
 have hnd2:cs.Nodup:=by
  rw [hk] at hnd;exact List.Pairwise.of_map _ (λa b h e=>h (by rw [e])) hnd
 have lys:ys.length=cs.length:=by rw [hy.len,aA]
 refine ⟨h1,tk,cs,rfl,kp,ID I1 hy hne hv,Oo,λpm h' D c hg ho keep hD hget=>?_⟩;have hperm:pm.toList.Perm (List.range cs.length):=by
  have:=(Array.perm_iff_toList_perm.mp hg);rw [<-lacc];simpa using this
 have hlt:∀i∈pm.toList,i<ys.length:=λi hi=>by
  have:=hperm.mem_iff.mp hi;rw [lys];simpa using this
 have hl2:(pm.toList.map λi=>ys.getD i .non).length=cs.length:=by rw [aA,hperm.length_eq,aZ]
 have hn:=I1.hok.fresh hD;have sm:aY H (upd H D (.lst (pm.toList.map λi=>ys.getD i .non))):=aY.upd hn;refine ⟨.ref D,upd H D (.lst (pm.toList.map λi=>ys.getD i .non)),I1.laid (t':=tk) keep hD ⟨by rw [hl2,sizeLine_eq];omega,_,c,AL hv _ hlt,hget⟩,rfl,?_⟩;have ha:=ho (lacc ▸ PU hnd2);have hsz2:=hg.size;have hpm:(pm.toList.map λi=>cs.getD i []).Perm cs:=by
  have h1:=hperm.map λi=>cs.getD i [];have e:(List.range cs.length).map (λi=>cs.getD i [])=cs:=by
   apply List.ext_getElem?;intro i;rw [aM];by_cases hi:i<cs.length
   ·rw [cJ hi,aB hi,Option.map_some,bJ,aB hi];rfl
   ·rw [eY (by simpa using hi),eY Oo];rfl
  rwa [e] at h1
 refine q D _ (pm.toList.map λi=>cs.getD i []) _ hpm ?_ hn bM ?_ sm
 ·rw [List.pairwise_map,List.pairwise_iff_getElem];intro i j hi hj hij;have hi':i<pm.size:=by simpa using hi
  have hj':j<pm.size:=by simpa using hj
  have e1:pm.toList[i]=pm.getD i 0:=by rw [Array.getElem_toList];exact (by simp [Array.getD,hi']:pm.getD i 0=pm[i]).symm
  have e2:pm.toList[j]=pm.getD j 0:=by rw [Array.getElem_toList];exact (by simp [Array.getD,hj']:pm.getD j 0=pm[j]).symm
  rw [e1,e2];exact ha i j hij (by rw [<-hsz2];exact hj')
 ·have rep:∀ix:List Nat,(∀i∈ix,i<cs.length)->aW H ((ix.map λi=>cs.getD i []).map λc=>PyData.tuple (c.map .int)) (ix.map λi=>ys.getD i .non):=λix=>by
   induction ix with
   | nil=>exact λ_=>aW.nil
   | cons i ix ih =>
    intro h;have hi:=h i (aU ..);have hd:(cs.map λc=>PyData.tuple (c.map .int))[i]?=some (PyData.tuple ((cs.getD i []).map .int)):=by
     rw [aM,bJ,aB hi];rfl
    obtain ⟨x,hx,rx⟩:=hy.get' hd;have e2:ys.getD i .non=x:=by rw [bJ,hx];rfl
    refine aW.cons ?_ (ih λj hj=>h j (aR _ hj));show cC H _ (ys.getD i .non);rw [e2];exact rx
  exact (rep pm.toList λi hi=>by rw [<-lys];exact hlt i hi).same sm
end L2
namespace L2
open PySem PySem.Spec PyProof.Rows
section
variable{X:Cx}
end
theorem FH:bootBuiltins (Str.ofString "sorted")=some (Value.builtin "sorted"):=Kk
section
variable{X:Cx}
end
end L2
namespace L2
open PySem PySem.Spec PySem.W PyProof.Rows HT
@[irreducible] def IQ(K:PySem.W.Frag):List V->Hp->VK->Prop:=λxs H Q=>∃(p:Addr) (ns:List Int),xs=[.ref p]/\fN K H p (ns.map V.int)/\0<ns.length/\∀M,M∈ns->(∀a,a∈ns->M<=a)->Q (.int M) H
theorem rmnl{K:PySem.W.Frag}{H:Hp}{Q:VK}{p:Addr}{ns:List Int}(h:fN K H p (ns.map V.int))(hn:0<ns.length)(q:∀M,M∈ns->(∀a,a∈ns->M<=a)->Q (.int M) H):IQ K [.ref p] H Q:=by
 unfold IQ;exact ⟨p,ns,rfl,h,hn,q⟩
theorem JP{X:Cx}(K:PySem.W.Frag)(hc:X.calm=true)(hK:X.K=K:=by rfl):jJ X (.builtin "min") (IQ K):=by
 subst hK;unfold IQ;intro pins s σ H xs us Q I r h;obtain ⟨p,ns,rfl,hq,hn,q⟩:=h;obtain ⟨u,rfl,rx⟩:=lD r;cases rx;obtain ⟨its,r',pl,hz⟩:=I.list hq;have hi:=oW r';obtain ⟨zs,e⟩:=hi.allInts.items;have hns:ns=zs.toList.map (·.1):=by rw [<-hi.numsOf,<-nums_intItems,<-e]
 have hsz:0<zs.size:=by rw [hns,aA,Array.length_toList] at hn;exact hn
 rw [e] at pl;refine min_intList (I.ok.hd hc) pl.isList hsz λv h' tk hv hk=>?_;obtain ⟨t,rfl⟩:=intItems_at hv;obtain ⟨h1,h2⟩:=argBest_lt (numAt zs) (zs.size-1);refine ⟨.int _,H,I.kept hk,⟨t,rfl⟩,q _ ?_ λa ha=>?_⟩
 ·rw [hns,numAt_eq];exact getD_mem (by rw [aA,Array.length_toList];omega)
 ·rw [hns] at ha;obtain ⟨j,hj,rfl⟩:=mem_getD ha;rw [aA,Array.length_toList] at hj;rw [<-numAt_eq];exact h2 j Oo
end L2
namespace L2
open PySem PySem.Spec PyProof.Rows
@[irreducible] def rLr(vs:List V)(H:Hp)(Q:VK):Prop:=∃n:Nat,vs=[.int (n:Int)]/\n<=100000/\∀l,H l=none->Q (.ref l) (upd H l (.lst ((List.range n).map λ(i:Nat)=>V.int (i:Int))))
theorem rlr{n:Nat}{H:Hp}{Q:VK}(hn:n<=100000)(q:∀l H',H l=none->H' l=some (.lst ((List.range n).map λ(i:Nat)=>V.int (i:Int)))->aY H H'->Q (.ref l) H'):rLr [.int (n:Int)] H Q:=by
 unfold rLr;exact ⟨n,rfl,hn,λl hl=>q l _ hl bM (aY.upd hl)⟩
def tLr(ta:TA):TE:=λσ H Q=>ta σ H λvs H1=>rLr vs H1 Q
theorem HK:bootBuiltins (Str.ofString "list")=some (Value.type "list"):=Kk
theorem FI:bootBuiltins (Str.ofString "range")=some (Value.type "range"):=Kk
theorem FT{n:Nat}{acc:Array Value}(h:ItemsOf (λi v=>∃t,v=.int (0+(i:Nat)*1) t) acc n):cZ ((List.range n).map λ(i:Nat)=>V.int (i:Int)) acc.toList:=by
 obtain ⟨h1,h2⟩:=h;have key:∀(m:Nat) (l:List Value) (k:Nat),l.length=m->(∀i,(hi:i<l.length)->∃t,l[i]=.int ((k+i:Nat):Int) t)->cZ ((List.range m).map λ(i:Nat)=>V.int ((k+i:Nat):Int)) l:=by
  intro m
  induction m with
  | zero=>intro l k hl _;cases l with
   | nil=>exact .nil
   | cons=>cases hl
  | succ m ih =>
   intro l k hl hh;cases l with
   | nil=>cases hl
   | cons a l =>
    rw [List.range_succ_eq_map,bH,List.map_map];obtain ⟨t,ht⟩:=hh 0 (by simp);refine .cons ⟨t,ht⟩ ?_;have:=ih l (k+1) (by simpa using hl) λi hi=>by
     obtain ⟨t,ht⟩:=hh (i+1) (by simpa using hi);refine ⟨t,?_⟩;have e:k+(i+1)=k+1+i:=Oo;rw [e] at ht;simpa using ht
    have e:(λ(i:Nat)=>V.int ((k+i:Nat):Int)) ∘ Nat.succ=λ(i:Nat)=>V.int ((k+1+i:Nat):Int):=by
     funext i
     show V.int ((k+(i+1):Nat):Int)=_;rw [show k+(i+1)=k+1+i by omega]
    rw [e];exact this
 have r:=key n acc.toList 0 (by simpa using h1) λi hi=>by
  have hi':i<acc.size:=by simpa using hi
  obtain ⟨t,ht⟩:=h2 i acc[i] (by simp [hi']);exact ⟨t,by rw [Array.getElem_toList,ht,Nat.zero_add,Int.zero_add,Int.mul_one]⟩
 simpa using r
section
variable{X:Cx}{a:Expr}{ta:TA}{p1 np p2 pos:Pos}
theorem SU(hc:X.calm=true)(hg1:Gl X "list")(hm1:X.mg "list" = none)(hg:Gl X "range")(hm:X.mg "range" = none)(ha:HR X [a] ta)(hs:starEach [a] X.env=[(false,eval a X.env)]:=by first | exact gP | exact gH | exact dG | rfl) :
  iG X (.Call (.Name "list" p1) [.Call (.Name "range" np) [a] [] p2] [] pos) (tLr ta):=⟨by
 intro pins s σ H Q I h;have hst:starEach [.Call (.Name "range" np) [a] [] p2] X.env=[(false,eval (.Call (.Name "range" np) [a] [] p2) X.env)]:=gH;refine Call_ (oU I hg1 hm1 HK (PyProof.Rows.callWith_type1 ?_ (by rw [hst];rfl) rfl));rw [hst];refine Calls.spliced_cons ?_;refine Call_ (oU I hg hm FI (PyProof.Rows.callWith_type1 (thn (ha.p p2 pins s σ H _ I h) λus s1 ⟨vs,H1,I1,r1,q1⟩=>?_) (by rw [hs];rfl) rfl));unfold rLr at q1;obtain ⟨n,rfl,hn,q⟩:=q1;obtain ⟨u,rfl,ru⟩:=lD r1;obtain ⟨t,rfl⟩:=ru;refine call_range_1 ?_;have I2:cF X pins σ H1 { s1 with heap:=s1.heap.push { cls:=.type "range",data:=.fields #[.int 0 s1.toks,.int (n:Int) t,.int 1 (s1.toks+1)] },toks:=s1.toks+1+1 }:=I1.kept λb o e=>aC _ e;refine wpAny_pure ?_;refine call_list_range (n:=n) (I2.ok.hd hc) (IsRange.new ..) (small_one Dd Dd Oo Oo) (by rw [rangeSize_one];split <;> omega) Oo λh' tk acc c' kp e it=>?_;have vr:=FT it;have hz:((List.range n).map λ(i:Nat)=>V.int (i:Int)).length<=sizeLine:=by rw [aA,aZ];exact aK hn Dd
 exact ⟨.ref _,_,I2.laid (t':=tk) kp (aI _) (show fE X.prog X.w _ h' _ (.lst _) from ⟨hz,acc.toList,c',vr,e⟩),rfl,q _ (I2.hok.fresh (aI _))⟩⟩
end
structure FnO(P:Program)(w:World)(K:PySem.W.Frag)(mg:Str->Option Value)(base:Heap)(k:Nat)(C:Addr)(ps:List Str)(sp:Sp):Prop where
 ex:∃(f:Addr) (fd:FuncData),dY P w K mg base dP k f fd ps sp/\Mk K C f/\pD K fd ps []
structure Own(K:PySem.W.Frag)(C:Addr)(fs:List Str):Prop where
 cls:YA K C
 no:∀f∈fs,lC K C f
@[irreducible] def VC(K:PySem.W.Frag)(f:Str)(x:V)(H:Hp)(Q:VK):Prop:=∃a C dx fs v,x=.ref a/\H a=some (.ins C dx fs)/\YA K C/\lC K C f/\fs.lookup f=some v/\Q v H
def YI(K:PySem.W.Frag)(ta:TE)(f:Str):TE:=λσ H Q=>ta σ H λx H1=>VC K f x H1 Q
section
variable{X:Cx}{k:Nat}{C:Addr}{ps:List Str}{sp:Sp}{x f:Str}{p pos pos':Pos}{e o value:Expr}{es:List Expr}{t:TA}{ta tv:TE}
theorem ND(F:FnO X.prog X.w X.K X.mg X.base k C ps sp)(hm:X.mg x=some (.ref C))(hr:iH (k+1) X.A)(ha:HR X (e::es) t)(hg:Gl X x:=by rfl)
  (hdb:(x == ("__debug__" : Str))=false:=by decide) (he:starEach (e::es) X.env=(false,eval e X.env)::starEach es X.env:=by first | exact gP | exact gH | exact eK | exact dG)
  (hpl:(backTo pos (starEach es X.env)).any (·.1)=false:=by repeat (first | exact xV | refine tR (by first | exact gP | exact gH | exact eK | exact dG) ?_)) :
  iG X (.Call (.Name x p) (e::es) [] pos) (YH C sp [] E0 t):=⟨by
 obtain ⟨f,fd,h1,h2,h3⟩:=F.ex;exact VW h2 h1 hr hg hm h3 .nil YQ ha.p hdb he hpl⟩
theorem gO(K:PySem.W.Frag)(he:iG X e ta)(hK:X.K=K:=by rfl)(hb:attributeBase e f X.env (eval e X.env)=eval e X.env:=by rfl):iG X (.Attribute e f pos) (YI K ta f):=⟨by
 subst hK;intro pins s σ H Q I h;refine aAt he.p hb pins s σ H Q I ?_;unfold YI VC at h;exact h⟩
theorem sB(ha:iG X o ta)(hv:iG X value tv)(hs:swapsWith value (some (.Attribute o f pos')) pos.line X.env=pure false:=by rfl):FM X (.Assign [.Attribute o f pos'] value pos) (aBD X.K ta tv f):=⟨aAi ha.p hv.p hs⟩
end
section
variable{K:PySem.W.Frag}{H:Hp}{a C dx:Addr}{fs:List (Str × V)}{v:V}{Q:VK}{f:Str}{ns:List Str}
theorem rD(O:Own K C ns)(hf:f∈ns)(e:H a=some (.ins C dx fs))(l:fs.lookup f=some v)(q:Q v H):VC K f (.ref a) H Q:=by
 unfold VC;exact ⟨a,C,dx,fs,v,rfl,e,O.cls,O.no f hf,l,q⟩
end
end L2
namespace Mf
def lw(n d:Int):Int × Int:=(n/(Int.gcd n d:Int),d/(Int.gcd n d:Int))
structure SM(n d:Int):Prop where
 pos:0<d
 low:Int.gcd n d=1
theorem jM{n d:Int}(h:0<d):0<(Int.gcd n d:Int):=by
 have:=Int.gcd_pos_of_ne_zero_right n (Int.ne_of_gt h);omega
theorem iW{n d:Int}(h:0<d):SM (lw n d).1 (lw n d).2:=by
 have g:=jM (n:=n) h;refine ⟨?_,?_⟩
 ·exact Int.ediv_pos_of_pos_of_dvd h (Int.le_of_lt g) (Int.gcd_dvd_right n d)
 ·exact Int.gcd_ediv_gcd_ediv_gcd Oo
theorem YS{n d:Int}:(lw n d).1*(Int.gcd n d:Int)=n/\(lw n d).2*(Int.gcd n d:Int)=d :=
 ⟨Int.ediv_mul_cancel (Int.gcd_dvd_left n d),Int.ediv_mul_cancel (Int.gcd_dvd_right n d)⟩
theorem qC{n d:Int}:(lw n d).1*d=n*(lw n d).2:=by
 obtain ⟨e1,e2⟩:=YS (n:=n) (d:=d);generalize (lw n d).1=a at *;generalize (lw n d).2=b at *;generalize (Int.gcd n d:Int)=g at *;rw [<-e1,<-e2];rw [Int.mul_assoc,Int.mul_comm g b]
theorem JG{b a d:Int}(h:b ∣ a*d)(g:Int.gcd b a=1):b ∣ d:=by
 rw [<-Int.natAbs_dvd_natAbs,fA] at h;rw [<-Int.natAbs_dvd_natAbs];rw [Int.gcd_eq_natAbs_gcd_natAbs] at g;exact Nat.Coprime.dvd_of_dvd_mul_left g h
theorem EF{a b c d:Int}(h1:SM a b)(h2:SM c d)(e:a*d=c*b):a=c/\b=d:=by
 have d1:b ∣ d:=by
  have:b ∣ a*d:=by rw [e];exact Int.dvd_mul_left c b
  exact JG this (by rw [Int.gcd_comm];exact h1.low)
 have d2:d ∣ b:=by
  have:d ∣ c*b:=by rw [<-e];exact Int.dvd_mul_left a d
  exact JG this (by rw [Int.gcd_comm];exact h2.low)
 have hb:=h1.pos;have hd:=h2.pos;have e1:b=d:=Int.dvd_antisymm (Int.le_of_lt hb) (Int.le_of_lt hd) d1 d2;subst e1;exact ⟨Int.eq_of_mul_eq_mul_right Oo e,rfl⟩
theorem BQ{a b n d:Int}(h:SM a b)(hd:0<d)(e:a*d=n*b):lw n d=(a,b):=by
 have c:=qC (n:=n) (d:=d);have q:=EF (iW (n:=n) hd) h (by
  have hd':d≠0:=Oo;apply Int.eq_of_mul_eq_mul_right hd'
  calc (lw n d).1*b*d=((lw n d).1*d)*b:=by rw [Int.mul_assoc,Int.mul_comm b d,<-Int.mul_assoc]
   _=(n*(lw n d).2)*b:=by rw [c]
   _=(n*b)*(lw n d).2:=by rw [Int.mul_assoc,Int.mul_comm (lw n d).2 b,<-Int.mul_assoc]
   _=(a*d)*(lw n d).2:=by rw [e]
   _=a*(lw n d).2*d:=by rw [Int.mul_assoc,Int.mul_comm d,<-Int.mul_assoc])
 exact Prod.ext q.1 q.2
theorem IV{a b:Int}(h:SM a b):lw a b=(a,b):=BQ h h.pos rfl
theorem oY{u a b:Int}(h1:Int.gcd u a=1)(h2:Int.gcd u b=1):Int.gcd u (a*b)=1:=by
 rw [Int.gcd_eq_natAbs_gcd_natAbs] at *;rw [fA];exact Nat.Coprime.mul_right h1 h2
theorem mX{a b c:Int}(h:Int.gcd a b=1)(d:c ∣ b):Int.gcd a c=1:=by
 have:=Int.gcd_dvd_gcd_of_dvd_right a d;rw [h] at this;exact Nat.eq_one_of_dvd_one this
theorem jO{a b c:Int}(h:Int.gcd a b=1)(d:c ∣ a):Int.gcd c b=1:=by
 rw [Int.gcd_comm] at *;exact mX h d
theorem VR{a b c d:Int}(h1:SM a b)(h2:SM c d) :
  let g:Int:=Int.gcd b d
  let u:=a*(d/g)+c*(b/g)
  let l:Int:=Int.gcd u g
  lw (a*d+c*b) (b*d)=(u/l,(b/g)*(d/l)):=by
 intro g u l;have hg:0<g:=jM h2.pos;have hl:0<l:=jM hg;obtain ⟨b',eb⟩:=Int.gcd_dvd_left b d;obtain ⟨d',ed⟩:=Int.gcd_dvd_right b d;have eb:b=g*b':=eb;have ed:d=g*d':=ed;have qb:b/g=b':=by rw [eb];exact Int.mul_ediv_cancel_left _ Oo
 have qd:d/g=d':=by rw [ed];exact Int.mul_ediv_cancel_left _ Oo
 have eu:u=a*d' + c*b':=by show a*(d/g)+c*(b/g)=_;rw [qb,qd]
 have cbd:Int.gcd b' d'=1:=by
  have:=Int.gcd_ediv_gcd_ediv_gcd (i:=b) (j:=d) (by have:0<(Int.gcd b d:Int):=hg;omega);have h:Int.gcd (b/g) (d/g)=1:=this
  rwa [qb,qd] at h
 have cab:Int.gcd a b'=1:=mX h1.low ⟨g,by rw [eb,Int.mul_comm]⟩;have ccd:Int.gcd c d'=1:=mX h2.low ⟨g,by rw [ed,Int.mul_comm]⟩;have ub:Int.gcd u b'=1:=by
  rw [eu,Int.add_comm,Int.gcd_mul_right_add_left,Int.gcd_mul_right_left_of_gcd_eq_one cab,Int.gcd_comm];exact cbd
 have ud:Int.gcd u d'=1:=by
  rw [eu,Int.gcd_mul_right_add_left,Int.gcd_mul_right_left_of_gcd_eq_one ccd];exact cbd
 obtain ⟨u',eu'⟩:=Int.gcd_dvd_left u g;obtain ⟨g',eg'⟩:=Int.gcd_dvd_right u g;have eu':u=l*u':=eu';have eg':g=l*g':=eg';have qu:u/l=u':=by rw [eu'];exact Int.mul_ediv_cancel_left _ Oo
 have qdl:d/l=g' * d':=by rw [ed,eg',Int.mul_assoc];exact Int.mul_ediv_cancel_left _ Oo
 have cug:Int.gcd u' g'=1:=by
  have:=Int.gcd_ediv_gcd_ediv_gcd (i:=u) (j:=g) (by have:0<(Int.gcd u g:Int):=hl;omega);have h:Int.gcd (u/l) (g/l)=1:=this;rw [qu] at h
  rwa [show g/l=g' from by rw [eg'];exact Int.mul_ediv_cancel_left _ Oo] at h
 rw [qu,qb,qdl];have hu':u' ∣ u:=⟨l,by rw [eu',Int.mul_comm]⟩;have hb':0<b':=by
  have:=h1.pos;rw [eb] at this;exact Int.pos_of_mul_pos_right this Oo
 have hd':0<d':=by
  have:=h2.pos;rw [ed] at this;exact Int.pos_of_mul_pos_right this Oo
 have hg':0<g':=by
  have:=hg;rw [eg'] at this;exact Int.pos_of_mul_pos_right this Oo
 refine BQ ⟨Int.mul_pos hb' (Int.mul_pos hg' hd'),?_⟩ (Int.mul_pos h1.pos h2.pos) ?_
 ·exact oY (jO ub hu') (oY cug (jO ud hu'))
 ·have e1:a*d+c*b=g*(l*u'):=by
   rw [<-eu',eu,eb,ed];rw [Int.mul_add,Int.mul_left_comm a,Int.mul_left_comm c]
  rw [e1,eb,ed];generalize hG:g=G at *;rw [eg'];simp only [Int.mul_assoc,Int.mul_left_comm,Int.mul_comm]
theorem NK{a b c d:Int}(h1:SM a b)(h2:SM c d) :
  let f:Int:=Int.gcd a d
  let s:Int:=Int.gcd c b
  lw (a*c) (b*d)=((a/f)*(c/s),(b/s)*(d/f)):=by
 intro f s;have hf:0<f:=jM h2.pos;have hs:0<s:=jM h1.pos;obtain ⟨a',ea⟩:=Int.gcd_dvd_left a d;obtain ⟨d',ed⟩:=Int.gcd_dvd_right a d;obtain ⟨c',ec⟩:=Int.gcd_dvd_left c b;obtain ⟨b',eb⟩:=Int.gcd_dvd_right c b;have ea:a=f*a':=ea;have ed:d=f*d':=ed;have ec:c=s*c':=ec;have eb:b=s*b':=eb;have qa:a/f=a':=by rw [ea];exact Int.mul_ediv_cancel_left _ Oo
 have qd:d/f=d':=by rw [ed];exact Int.mul_ediv_cancel_left _ Oo
 have qc:c/s=c':=by rw [ec];exact Int.mul_ediv_cancel_left _ Oo
 have qb:b/s=b':=by rw [eb];exact Int.mul_ediv_cancel_left _ Oo
 have cad:Int.gcd a' d'=1:=by
  have:=Int.gcd_ediv_gcd_ediv_gcd (i:=a) (j:=d) (by have:0<(Int.gcd a d:Int):=hf;omega);have h:Int.gcd (a/f) (d/f)=1:=this
  rwa [qa,qd] at h
 have ccb:Int.gcd c' b'=1:=by
  have:=Int.gcd_ediv_gcd_ediv_gcd (i:=c) (j:=b) (by have:0<(Int.gcd c b:Int):=hs;omega);have h:Int.gcd (c/s) (b/s)=1:=this
  rwa [qc,qb] at h
 have cab:Int.gcd a' b'=1:=jO (mX h1.low ⟨s,by rw [eb,Int.mul_comm]⟩) ⟨f,by rw [ea,Int.mul_comm]⟩;have ccd:Int.gcd c' d'=1:=jO (mX h2.low ⟨f,by rw [ed,Int.mul_comm]⟩) ⟨s,by rw [ec,Int.mul_comm]⟩;have hb':0<b':=by
  have:=h1.pos;rw [eb] at this;exact Int.pos_of_mul_pos_right this Oo
 have hd':0<d':=by
  have:=h2.pos;rw [ed] at this;exact Int.pos_of_mul_pos_right this Oo
 rw [qa,qb,qc,qd];refine BQ ⟨Int.mul_pos hb' hd',?_⟩ (Int.mul_pos h1.pos h2.pos) ?_
 ·have x1:Int.gcd a' (b' * d')=1:=oY cab cad;have x2:Int.gcd c' (b' * d')=1:=oY ccb ccd;rw [Int.gcd_comm] at x1 x2 ⊢;exact oY x1 x2
 ·rw [ea,eb,ec,ed];simp only [Int.mul_assoc,Int.mul_left_comm,Int.mul_comm]
end Mf
namespace Mf
abbrev Fr:=Int × Int
def qJ(x y:Fr):Fr:=lw (x.1*y.2+y.1*x.2) (x.2*y.2)
def kW(fs:List Fr):Fr:=fs.foldl qJ (0,1)
def dA(f:Fr):Prop:=SM f.1 f.2
theorem oR{α:Type}{P:List α->Prop}(h0:P [])(hs:∀l a,P l->P (l++[a]))(l:List α):P l:=by
 have:∀r:List α,P r.reverse:=by
  intro r
  induction r with
  | nil=>exact h0
  | cons a r ih=>rw [List.reverse_cons];exact hs _ _ ih
 have:=this l.reverse
 rwa [List.reverse_reverse] at this
theorem nS(l:List Fr)(a:Fr):kW (l++[a])=qJ (kW l) a:=by unfold kW;rw [List.foldl_append];rfl
theorem sG(l:List Fr):(∀f∈l,dA f)->dA (kW l):=by
 refine oR (P:=λl=>(∀f∈l,dA f)->dA (kW l)) (λ_=>⟨Dd,Dd⟩) (λl a ih h=>?_) l;rw [nS];have h1:=ih λf hf=>h f (bV _ hf);have h2:=h a (aN _ aU);exact iW (Int.mul_pos h1.pos h2.pos)
theorem IW{n d:Int}(h:0<d):(lw n d).2<=d/\(lw n d).1.natAbs<=n.natAbs:=by
 obtain ⟨e1,e2⟩:=YS (n:=n) (d:=d);have g:=jM (n:=n) h;have p:=(iW (n:=n) h).pos;generalize (lw n d).1=a at *;generalize (lw n d).2=b at *;generalize (Int.gcd n d:Int)=G at *;refine ⟨?_,?_⟩
 ·rw [<-e2];have:=Int.mul_le_mul_of_nonneg_left (show (1:Int)<=G by omega) (Int.le_of_lt p);simpa using this
 ·rw [<-e1,fA];exact Nat.le_mul_of_pos_right _ Oo
end Mf
namespace Mf
theorem QE{n d n' d':Int}(hd:0<d)(hd':0<d')(e:n*d'=n' * d):lw n d=lw n' d':=by
 have h:=iW (n:=n') hd';have c:=qC (n:=n') (d:=d');generalize lw n' d'=L at c h;refine BQ (a:=L.1) (b:=L.2) h hd ?_;refine Int.eq_of_mul_eq_mul_right (a:=d') Oo ?_
 calc L.1*d*d'=(L.1*d')*d:=by ac_rfl
  _=n' * L.2*d:=by rw [c]
  _=(n' * d)*L.2:=by ac_rfl
  _=n*d' * L.2:=by rw [e]
  _=n*L.2*d':=by ac_rfl
def iV(f g:Fr):Fr:=lw (f.1*g.1) (f.2*g.2)
theorem gI{f g:Fr}(h:dA f)(h':dA g):dA (iV f g):=iW (Int.mul_pos h.pos h'.pos)
theorem aAx{a b c d:Int}(hb:0<b)(hd:0<d):iV (lw a b) (lw c d)=lw (a*c) (b*d):=by
 have h1:=(iW (n:=a) hb).pos;have h2:=(iW (n:=c) hd).pos;refine QE (Int.mul_pos h1 h2) (Int.mul_pos hb hd) ?_;have e1:=qC (n:=a) (d:=b);have e2:=qC (n:=c) (d:=d);generalize lw a b=L at *;generalize lw c d=M at *
 calc L.1*M.1*(b*d)=(L.1*b)*(M.1*d):=by ac_rfl
  _=(a*L.2)*(c*M.2):=by rw [e1,e2]
  _=a*c*(L.2*M.2):=by ac_rfl
def uI(f:Fr)(c:Nat):Fr:=(f.1^c,f.2^c)
theorem kY{f:Fr}(h:dA f):∀c:Nat,dA (uI f c)
 | 0=>⟨by show 0<f.2^0;rw [Int.pow_zero];decide,by show Int.gcd (f.1^0) (f.2^0)=1;rw [Int.pow_zero,Int.pow_zero];decide⟩
 | c+1=>by
  have ih:=kY h c;have k:∀n:Nat,Int.gcd f.1 (f.2^n)=1:=λn=>by
   induction n with
   | zero=>rw [Int.pow_zero];exact Int.gcd_one_right _
   | succ n ih=>rw [Int.pow_succ];exact oY ih h.low
  refine ⟨?_,?_⟩
  ·show 0<f.2^(c+1);rw [Int.pow_succ];exact Int.mul_pos ih.pos h.pos
  ·show Int.gcd (f.1^(c+1)) (f.2^(c+1))=1;have k2:∀n:Nat,Int.gcd (f.2^(c+1)) (f.1^n)=1:=λn=>by
    induction n with
    | zero=>rw [Int.pow_zero];exact Int.gcd_one_right _
    | succ n ih=>rw [show f.1^(n+1)=f.1^n*f.1 from Int.pow_succ ..];exact oY ih (by rw [Int.gcd_comm];exact k (c+1))
   rw [Int.gcd_comm];exact k2 (c+1)
def uA(zs:List (Fr × Nat)):Fr:=zs.foldl (λp q=>(p.1*q.1.1^q.2,p.2*q.1.2^q.2)) (1,1)
def jP(zs:List (Fr × Nat)):Fr:=zs.foldl (λp q=>iV p (uI q.1 q.2)) (1,1)
theorem tZ(l:List (Fr × Nat))(a:Fr × Nat):uA (l++[a])=((uA l).1*a.1.1^a.2,(uA l).2*a.1.2^a.2):=by unfold uA;rw [List.foldl_append];rfl
theorem qM(l:List (Fr × Nat))(a:Fr × Nat):jP (l++[a])=iV (jP l) (uI a.1 a.2):=by unfold jP;rw [List.foldl_append];rfl
theorem wL(l:List (Fr × Nat)):(∀z∈l,dA z.1)->0<(uA l).2:=by
 induction l using oR with
 | h0=>intro _;decide
 | hs l a ih =>
  intro h;rw [tZ];exact Int.mul_pos (ih λf hf=>h f (bV _ hf)) (kY (h a (by simp)) a.2).pos
theorem HZ(l:List (Fr × Nat)):(∀z∈l,dA z.1)->jP l=lw (uA l).1 (uA l).2:=by
 induction l using oR with
 | h0=>intro _;rfl
 | hs l a ih =>
  intro h;have hl:∀f∈l,dA f.1:=λf hf=>h f (bV _ hf);have ha:=kY (h a (by simp)) a.2;rw [qM,tZ,ih hl];have e:uI a.1 a.2=lw (a.1.1^a.2) (a.1.2^a.2):=(IV ha).symm;rw [e,aAx (wL l hl) (show 0<a.1.2^a.2 from ha.pos)]
theorem nQ(l:List (Fr × Nat))(h:∀z∈l,dA z.1):dA (jP l):=by rw [HZ l h];exact iW (wL l h)
theorem uH{x:Int}{B:Nat}(h:x.natAbs<=2^B)(c:Nat):(x^c).natAbs<=2^(B*c):=by
 rw [Int.natAbs_pow,Nat.pow_mul];exact Nat.pow_le_pow_left h c
theorem SR{B:Nat}(l:List (Fr × Nat)):(∀z∈l,z.1.1.natAbs<=2^B/\z.1.2.natAbs<=2^B)->(uA l).1.natAbs<=2^(B*(l.map (·.2)).sum)/\(uA l).2.natAbs<=2^(B*(l.map (·.2)).sum):=by
 induction l using oR with
 | h0=>intro _;exact ⟨Nat.one_le_two_pow,Nat.one_le_two_pow⟩
 | hs l a ih =>
  intro h;obtain ⟨i1,i2⟩:=ih λf hf=>h f (bV _ hf);obtain ⟨a1,a2⟩:=h a (by simp);rw [tZ,bF,List.sum_append,show ([a].map (·.2)).sum=a.2 by simp,Nat.mul_add,Nat.pow_add];exact ⟨by show ((uA l).1*a.1.1^a.2).natAbs<=_;rw [fA];exact Nat.mul_le_mul i1 (uH a1 _),by show ((uA l).2*a.1.2^a.2).natAbs<=_;rw [fA];exact Nat.mul_le_mul i2 (uH a2 _)⟩
theorem SS{B:Nat}(l:List (Fr × Nat))(hl:∀z∈l,dA z.1)(h:∀z∈l,z.1.1.natAbs<=2^B/\z.1.2.natAbs<=2^B):(jP l).1.natAbs<=2^(B*(l.map (·.2)).sum)/\(jP l).2.natAbs<=2^(B*(l.map (·.2)).sum):=by
 obtain ⟨h1,h2⟩:=SR l h;rw [HZ l hl];have hp:=wL l hl;obtain ⟨l1,l2⟩:=IW (n:=(uA l).1) hp;have:=(iW (n:=(uA l).1) hp).pos;exact ⟨aK l2 h1,Oo⟩
end Mf
namespace Mf
def rv(f:Fr):Rat:=(f.1:Rat)/(f.2:Rat)
theorem HF{d:Int}(h:0<d):(0:Rat)<(d:Rat):=by exact_mod_cast h
theorem kG{d:Int}(h:0<d):(d:Rat)≠0:=by have:=HF h;grind
theorem sW{f:Fr}(h:0<f.2):rv f*(f.2:Rat)=(f.1:Rat):=by
 have:=kG h;unfold rv;grind
theorem DN{n d:Int}(h:0<d):rv (lw n d)=(n:Rat)/(d:Rat):=by
 have e:=qC (n:=n) (d:=d);have p:=(iW (n:=n) h).pos;have h1:=kG h;have h2:=kG p;have e':((lw n d).1:Rat)*(d:Rat)=(n:Rat)*((lw n d).2:Rat):=by exact_mod_cast e
 unfold rv;generalize ((lw n d).1:Rat)=a at *;generalize ((lw n d).2:Rat)=b at *;grind
theorem BD{f g:Fr}(hf:0<f.2)(hg:0<g.2):rv (qJ f g)=rv f+rv g:=by
 unfold qJ;rw [DN (Int.mul_pos hf hg)];have h1:=kG hf;have h2:=kG hg;unfold rv;rw [Rat.intCast_add,Rat.intCast_mul,Rat.intCast_mul,Rat.intCast_mul];grind
theorem iB{f g:Fr}(hf:0<f.2)(hg:0<g.2):rv (iV f g)=rv f*rv g:=by
 unfold iV;rw [DN (Int.mul_pos hf hg)];have h1:=kG hf;have h2:=kG hg;unfold rv;rw [Rat.intCast_mul,Rat.intCast_mul];grind
theorem ZV(f:Fr):rv (-f.1,f.2)=- rv f:=by
 unfold rv;rw [show (((-f.1,f.2):Fr).1:Rat)=-(f.1:Rat) by rw [<-Rat.intCast_neg]];grind
theorem iM{f g:Fr}(hf:dA f)(hg:dA g)(e:rv f=rv g):f=g:=by
 have h1:=kG hf.pos;have h2:=kG hg.pos;have e':(f.1:Rat)*(g.2:Rat)=(g.1:Rat)*(f.2:Rat):=by
  have a:=sW hf.pos;have b:=sW hg.pos;rw [<-a,<-b,e];grind
 have q:=EF hf hg (by exact_mod_cast e');exact Prod.ext q.1 q.2
theorem aBF{f g:Fr}(hf:0<f.2)(hg:0<g.2):f.1*g.2<g.1*f.2↔rv f<rv g:=by
 have h1:=HF hf;have h2:=HF hg;have a:=sW hf;have b:=sW hg;have p:(0:Rat)<(f.2:Rat)*(g.2:Rat):=Rat.mul_pos h1 h2;have c1:((f.1*g.2:Int):Rat)=rv f*((f.2:Rat)*(g.2:Rat)):=by rw [Rat.intCast_mul,<-a];grind
 have c2:((g.1*f.2:Int):Rat)=rv g*((f.2:Rat)*(g.2:Rat)):=by rw [Rat.intCast_mul,<-b];grind
 rw [<-Rat.intCast_lt_intCast,c1,c2];constructor
 ·intro h;exact Rat.lt_of_mul_lt_mul_right h (Rat.le_of_lt p)
 ·intro h;exact Rat.mul_lt_mul_of_pos_right h p
theorem oQ:rv (0,1)=0:=by unfold rv;grind
theorem rO:rv (1,1)=1:=by unfold rv;grind
def oO(l:List Rat):Rat:=l.foldr (· + ·) 0
theorem sI:oO []=0:=rfl
theorem kH(x:Rat)(l:List Rat):oO (x::l)=x+oO l:=rfl
theorem pG:∀(a b:List Rat),oO (a++b)=oO a+oO b
 | [],b=>by rw [sI,List.nil_append];grind
 | x::a,b=>by rw [List.cons_append,kH,kH,pG a b];grind
theorem BC(l:List Fr):(∀f∈l,dA f)->rv (kW l)=oO (l.map rv):=by
 induction l using oR with
 | h0=>intro _;exact oQ
 | hs l a ih =>
  intro h;have hl:∀f∈l,dA f:=λf hf=>h f (bV _ hf);rw [nS,BD (sG l hl).pos (h a (by simp)).pos,ih hl,bF,pG,bH,List.map_nil,kH,sI];grind
def Fn(N B:Nat)(f:Fr):Prop:=dA f/\∃x:Int,rv f*(N:Rat)=(x:Rat)/\x.natAbs<=B*N
theorem Fn.low{N B:Nat}{f:Fr}(h:Fn N B f):dA f:=h.1
theorem Fn.le{N B C:Nat}{f:Fr}(h:Fn N B f)(hB:B<=C):Fn N C f:=by
 obtain ⟨l,x,h1,h2⟩:=h;exact ⟨l,x,h1,aK h2 (bO _ hB)⟩
theorem xW{f g:Fr}(h:dA f)(h':dA g):dA (qJ f g):=iW (Int.mul_pos h.pos h'.pos)
theorem Fn.add{N B C:Nat}{f g:Fr}(h:Fn N B f)(h':Fn N C g):Fn N (B+C) (qJ f g):=by
 obtain ⟨l,x,h1,h2⟩:=h;obtain ⟨l',y,h3,h4⟩:=h';refine ⟨xW l l',x+y,?_,?_⟩
 ·rw [BD l.pos l'.pos,Rat.intCast_add,<-h1,<-h3];grind
 ·rw [Nat.add_mul];omega
theorem Fn.mul{N M B C:Nat}{f g:Fr}(h:Fn N B f)(h':Fn M C g):Fn (N*M) (B*C) (iV f g):=by
 obtain ⟨l,x,h1,h2⟩:=h;obtain ⟨l',y,h3,h4⟩:=h';refine ⟨gI l l',x*y,?_,?_⟩
 ·rw [iB l.pos l'.pos,Rat.intCast_mul,<-h1,<-h3,Rat.natCast_mul];grind
 ·rw [fA];have:=Nat.mul_le_mul h2 h4;rw [Nat.mul_mul_mul_comm] at this;exact this
theorem Fn.up{N B:Nat}{f:Fr}(h:Fn N B f)(M:Nat):Fn (N*M) B f:=by
 obtain ⟨l,x,h1,h2⟩:=h;refine ⟨l,x*(M:Int),?_,?_⟩
 ·rw [Rat.intCast_mul,<-h1,Rat.natCast_mul];have:((M:Int):Rat)=(M:Rat):=rfl;rw [this];grind
 ·rw [fA,<-Nat.mul_assoc];exact bO _ h2
theorem Fn.dvd{N M B:Nat}{f:Fr}(h:Fn N B f)(d:N ∣ M):Fn M B f:=by
 obtain ⟨e,rfl⟩:=d;exact h.up e
theorem uM(N:Nat):((N:Int):Rat)=(N:Rat):=rfl
theorem WL:dA (0,1):=⟨Dd,Dd⟩
theorem QF:dA (1,1):=⟨Dd,Dd⟩
theorem Fn.zero(N:Nat):Fn N 0 (0,1):=⟨WL,0,by rw [oQ];grind,by simp⟩
theorem Fn.one(N:Nat):Fn N 1 (1,1):=⟨QF,N,by rw [rO,uM];grind,by simp⟩
theorem Fn.eq{N B:Nat}{f:Fr}(h:Fn N B f)(hN:0<N):∃x:Int,f=lw x (N:Int)/\x.natAbs<=B*N:=by
 obtain ⟨l,x,h1,h2⟩:=h;have hp:(0:Int)<(N:Int):=Oo;refine ⟨x,iM l (iW hp) ?_,h2⟩;rw [DN hp,<-h1,uM];have:=kG hp;rw [uM] at this;grind
theorem Fn.of{n d:Int}{B:Nat}(h:0<d)(hB:n.natAbs<=B*d.natAbs):Fn d.natAbs B (lw n d):=by
 refine ⟨iW h,n,?_,hB⟩;have e:(d.natAbs:Int)=d:=Oo;rw [DN h,<-uM,e];have:=kG h;grind
theorem Fn.num{N B:Nat}{f:Fr}(h:Fn N B f)(hN:0<N):f.1.natAbs<=B*N/\f.2.natAbs<=N:=by
 obtain ⟨x,rfl,h2⟩:=h.eq hN;have q:=IW (n:=x) (d:=(N:Int)) Oo;have p:=(iW (n:=x) (d:=(N:Int)) Oo).pos;omega
theorem Fn.tot{N B:Nat}:∀(fs:List Fr),(∀f∈fs,Fn N B f)->Fn N (fs.length*B) (kW fs):=by
 intro fs
 induction fs using oR with
 | h0=>intro _;exact (Fn.zero N).le (cE _)
 | hs l a ih =>
  intro h;rw [nS,bE,List.length_singleton,Nat.add_mul,Nat.one_mul];exact (ih λf hf=>h f (bV _ hf)).add (h a (aN _ (bG.mpr rfl)))
end Mf
namespace Mf
def kK:List Rat->Rat
 | []=>0
 | [x]=>x
 | x::y::l=>if x<=kK (y::l) then x else kK (y::l)
theorem BN:∀{l:List Rat}{x:Rat},x∈l->kK l<=x
 | [],x,h=>by cases h
 | [y],x,h=>by
  rw [bG.mp h];exact Rat.le_refl
 | a::b::l,x,h=>by
  have ih:=λx h=>BN (l:=b::l) (x:=x) h;unfold kK;rcases bC.mp h with rfl | h
  ·split
   ·exact Rat.le_refl
   ·grind
  ·have:=ih x h;split <;> grind
theorem sZ:∀{l:List Rat},l≠[]->kK l∈l
 | [],h=>absurd rfl h
 | [y],_=>bG.mpr rfl
 | a::b::l,_=>by
  have ih:=sZ (l:=b::l) (by simp);unfold kK;split
  ·exact aU ..
  ·exact aR _ ih
theorem BO{l:List Rat}{m:Rat}(h:m∈l)(k:∀x∈l,m<=x):kK l=m:=by
 have h1:=BN h;have h2:=k _ (sZ (l:=l) (λe=>by rw [e] at h;cases h));grind
def cN(n:Nat)(f:Nat->Rat):Rat:=oO ((List.range n).map f)
theorem iA(f:Nat->Rat):cN 0 f=0:=rfl
theorem eO(n:Nat)(f:Nat->Rat):cN (n+1) f=cN n f+f n:=by
 unfold cN;rw [List.range_succ,bF,pG,bH,List.map_nil,kH,sI];grind
theorem dC{n:Nat}{f g:Nat->Rat}(h:∀i,i<n->f i=g i):cN n f=cN n g:=by
 induction n with
 | zero=>rfl
 | succ n ih=>rw [eO,eO,ih λi hi=>h i Oo,h n Oo]
theorem DC(n:Nat)(f g:Nat->Rat):cN n (λi=>f i+g i)=cN n f+cN n g:=by
 induction n with
 | zero=>rw [iA,iA,iA];grind
 | succ n ih=>rw [eO,eO,eO,ih];grind
theorem jV(n:Nat)(a:Rat)(f:Nat->Rat):cN n (λi=>a*f i)=a*cN n f:=by
 induction n with
 | zero=>rw [iA,iA];grind
 | succ n ih=>rw [eO,eO,ih];grind
theorem yS{n:Nat}{f g:Nat->Rat}(h:∀i,i<n->f i<=g i):cN n f<=cN n g:=by
 induction n with
 | zero=>rw [iA,iA];exact Rat.le_refl
 | succ n ih =>
  have h1:=ih λi hi=>h i Oo;have h2:=h n Oo;rw [eO,eO];grind
theorem mD(n:Nat):cN n (λ_=>0)=0:=by
 induction n with
 | zero=>rfl
 | succ n ih=>rw [eO,ih];grind
theorem TD{n:Nat}{f:Nat->Rat}(h:∀i,i<n->0<=f i):0<=cN n f:=by
 have:=yS (n:=n) (f:=λ_=>0) (g:=f) h
 rwa [mD] at this
theorem wR{n:Nat}(f:Nat->Rat){w:Nat}(h:w<n):cN n f-f w=cN n (λi=>if i=w then 0 else f i):=by
 induction n with
 | zero=>omega
 | succ n ih =>
  rw [eO,eO];by_cases e:w=n
  ·subst e;rw [if_pos rfl,dC (g:=f) λi hi=>if_neg Oo];grind
  ·rw [if_neg (λq=>e q.symm),<-ih Oo];grind
def bP(c:List Nat)(i:Nat):List Nat:=c.set i (c.getD i 0+1)
def lH(W:Nat)(d:Nat->Rat):List Rat:=(List.range W).map λw=>cN W d-d w
theorem sU{W:Nat}{d:Nat->Rat}{x:Rat}:x∈lH W d ↔ ∃w,w<W/\x=cN W d-d w:=by
 unfold lH;rw [aV];constructor
 ·rintro ⟨w,h,rfl⟩;exact ⟨w,bR.mp h,rfl⟩
 ·rintro ⟨w,h,rfl⟩;exact ⟨w,bR.mpr h,rfl⟩
def FS(W F:Nat)(q:Nat->List Nat->Rat)(mix ps cs:Nat->Rat):Nat->List Nat->Rat
 | 0,c=>kK (lH W λv=>ps v*q v c)
 | n+1,c=>kK (lH W (λv=>ps v*q v c)++[cs c.sum*cN W (λv=>mix v*q v c)+cN F (λj=>FS W F q mix ps cs n (bP c j))])
section
variable{W F:Nat}{q:Nat->List Nat->Rat}{mix ps ps' cs:Nat->Rat}
theorem yP(n:Nat)(c:List Nat):FS W F q mix ps cs (n+1) c=kK (lH W (λv=>ps v*q v c)++[cs c.sum*cN W (λv=>mix v*q v c)+cN F (λj=>FS W F q mix ps cs n (bP c j))]):=rfl
theorem GL(hW:0<W)(d:Nat->Rat):lH W d≠[]:=λe=>by
 have:cN W d-d 0∈lH W d:=sU.mpr ⟨0,hW,rfl⟩;rw [e] at this;cases this
end
end Mf
namespace Mf
theorem AT:∀(l:List Nat) (j v x:Nat),l[j]?=some x->(l.set j v).sum+x=l.sum+v
 | [],j,v,x,h=>by simp at h
 | a::l,0,v,x,h=>by
  have:a=x:=by simpa using h
  subst this;simp only [List.set_cons_zero,List.sum_cons];omega
 | a::l,j+1,v,x,h=>by
  have:=AT l j v x (by simpa using h);simp only [List.set_cons_succ,List.sum_cons];omega
def cta:Nat->Nat->List (List Nat)
 | 0,_=>[]
 | 1,m=>[[m]]
 | F+2,m=>(List.range (m+1)).flatMap λk=>(cta (F+1) (m-k)).map λc=>k::c
theorem gQ:∀{F m:Nat}{c:List Nat},c∈cta F m->c.length=F/\c.sum=m
 | 0,m,c,h=>by cases h
 | 1,m,c,h=>by
  have:c=[m]:=by simpa [cta] using h
  subst this;simp
 | F+2,m,c,h=>by
  obtain ⟨k,hk,h⟩:=List.mem_flatMap.mp h;obtain ⟨d,hd,rfl⟩:=aV.mp h;have hk:=bR.mp hk;obtain ⟨h1,h2⟩:=gQ hd;refine ⟨by simp [h1],?_⟩;rw [List.sum_cons];omega
end Mf
namespace Mf
def Qn(N B:Nat)(x:Rat):Prop:=∃z:Int,x*(N:Rat)=(z:Rat)/\z.natAbs<=B*N
theorem Fn.q{N B:Nat}{f:Fr}(h:Fn N B f):Qn N B (rv f):=h.2
theorem Qn.f{N B:Nat}{f:Fr}(l:dA f)(h:Qn N B (rv f)):Fn N B f:=⟨l,h⟩
def iC(x:Rat):Fr:=(x.num,(x.den:Int))
theorem cB(x:Rat):dA (iC x):=by
 refine ⟨?_,?_⟩
 ·show (0:Int)<(x.den:Int);have:=x.den_pos;omega
 ·show Int.gcd x.num (x.den:Int)=1;rw [Int.gcd_eq_natAbs_gcd_natAbs,Int.natAbs_natCast];exact x.reduced
theorem eS(x:Rat):rv (iC x)=x:=by
 unfold rv iC;show (x.num:Rat)/((x.den:Int):Rat)=x;rw [<-Rat.divInt_eq_div,Rat.num_divInt_den]
theorem aAL{f:Fr}(h:dA f):iC (rv f)=f:=iM (cB _) h (eS _)
theorem Qn.fq{N B:Nat}{x:Rat}(h:Qn N B x):Fn N B (iC x):=⟨cB x,by rw [eS];exact h⟩
theorem Qn.le{N B C:Nat}{x:Rat}(h:Qn N B x)(hB:B<=C):Qn N C x:=by
 obtain ⟨z,h1,h2⟩:=h;exact ⟨z,h1,aK h2 (bO _ hB)⟩
theorem Qn.add{N B C:Nat}{x y:Rat}(h:Qn N B x)(h':Qn N C y):Qn N (B+C) (x+y):=by
 obtain ⟨z,h1,h2⟩:=h;obtain ⟨u,h3,h4⟩:=h';refine ⟨z+u,?_,?_⟩
 ·rw [Rat.intCast_add,<-h1,<-h3];grind
 ·rw [Nat.add_mul];omega
theorem Qn.neg{N B:Nat}{x:Rat}(h:Qn N B x):Qn N B (-x):=by
 obtain ⟨z,h1,h2⟩:=h;refine ⟨-z,?_,by rw [Int.natAbs_neg];exact h2⟩;rw [Rat.intCast_neg,<-h1];grind
theorem Qn.sub{N B C:Nat}{x y:Rat}(h:Qn N B x)(h':Qn N C y):Qn N (B+C) (x-y):=by
 have:=h.add h'.neg
 rwa [<-Rat.sub_eq_add_neg] at this
theorem Qn.mul{N M B C:Nat}{x y:Rat}(h:Qn N B x)(h':Qn M C y):Qn (N*M) (B*C) (x*y):=by
 obtain ⟨z,h1,h2⟩:=h;obtain ⟨u,h3,h4⟩:=h';refine ⟨z*u,?_,?_⟩
 ·rw [Rat.intCast_mul,<-h1,<-h3,Rat.natCast_mul];grind
 ·rw [fA];have:=Nat.mul_le_mul h2 h4;rw [Nat.mul_mul_mul_comm] at this;exact this
theorem Qn.dvd{N M B:Nat}{x:Rat}(h:Qn N B x)(d:N ∣ M):Qn M B x:=by
 obtain ⟨e,rfl⟩:=d;obtain ⟨z,h1,h2⟩:=h;refine ⟨z*(e:Int),?_,?_⟩
 ·rw [Rat.intCast_mul,<-h1,Rat.natCast_mul,uM];grind
 ·rw [fA,<-Nat.mul_assoc];exact bO _ h2
theorem Qn.zero(N B:Nat):Qn N B 0:=⟨0,by grind,by simp⟩
theorem Qn.sumR{N B:Nat}{f:Nat->Rat}:∀{n:Nat},(∀i,i<n->Qn N B (f i))->Qn N (n*B) (cN n f)
 | 0,_=>by rw [iA];exact Qn.zero _ _
 | n+1,h=>by
  rw [eO,Nat.add_mul,Nat.one_mul];exact (Qn.sumR λi hi=>h i Oo).add (h n Oo)
theorem Qn.min{N B:Nat}{l:List Rat}(h:∀x∈l,Qn N B x)(ne:l≠[]):Qn N B (kK l):=h _ (sZ ne)
theorem GO{f:Fr}(h:dA f)(n:Nat):rv (uI f n)=rv f^n:=by
 have hp:=kG h.pos
 induction n with
 | zero=>unfold uI rv;grind
 | succ n ih =>
  have e:rv (uI f (n+1))=rv (uI f n)*rv f:=by
   have h1:=kG (kY h n).pos;unfold uI rv at *;simp only [Int.pow_succ,Rat.intCast_mul] at *;generalize ((f.1^n:Int):Rat)=u at *;generalize ((f.2^n:Int):Rat)=v at *;grind
  rw [e,ih,Rat.pow_succ]
theorem Qn.pow{N:Nat}{x:Rat}(h:Qn N 1 x):∀n:Nat,Qn (N^n) 1 (x^n)
 | 0=>⟨1,by rw [Rat.pow_zero,Nat.pow_zero];grind,by simp⟩
 | n+1=>by
  rw [Rat.pow_succ,Nat.pow_succ];exact (Qn.pow h n).mul h
theorem ZJ{N:Nat}(l:List (Fr × Nat)):(∀z∈l,Fn N 1 z.1)->Qn (N^(l.map (·.2)).sum) 1 (rv (jP l)):=by
 induction l using oR with
 | h0=>intro _;exact ⟨1,by show rv (1,1)*_=_;rw [rO];simp,by simp⟩
 | hs l a ih =>
  intro h;have hl:∀z∈l,Fn N 1 z.1:=λz hz=>h z (bV _ hz);have ha:=h a (by simp);rw [qM,iB (nQ l λz hz=>(hl z hz).low).pos (kY ha.low a.2).pos,GO ha.low,bF,List.sum_append,Nat.pow_add];have:=(ih hl).mul (ha.q.pow a.2);simpa using this
theorem JZ{α:Type}(l:List α)(m:List Nat):((l.zip m).map (·.2)).sum<=m.sum:=by
 induction l generalizing m with
 | nil=>simp
 | cons a l ih =>
  cases m with
  | nil=>simp
  | cons b m =>
   have:=ih m;simp only [List.zip_cons_cons,bH,List.sum_cons];omega
def wq(fs:List Fr)(c:List Nat):Rat:=rv (jP (fs.zip c))
theorem MY{N M:Nat}{fs:List Fr}{c:List Nat}(h:∀f∈fs,Fn N 1 f)(hc:c.sum<=M):Qn (N^M) 1 (wq fs c):=by
 have h1:=ZJ (fs.zip c) (λz hz=>h z.1 (List.of_mem_zip (a:=z.1) (b:=z.2) hz).1);have h2:=JZ fs c;exact h1.dvd (Nat.pow_dvd_pow _ Oo)
structure iO(F W M:Nat)(ss:List (List Fr))(mix ps cs:List Fr)(Ns Nm Np Nc B:Nat):Prop where
 f1:1<=F
 f4:F<=4
 w1:1<=W
 w4:W<=4
 m5:M<=5
 sl:ss.length=W
 ml:mix.length=W
 pl:ps.length=W
 cl:cs.length=M
 sh:∀s∈ss,s.length=F/\∀f∈s,Fn Ns 1 f
 mx:∀f∈mix,Fn Nm 1 f
 pr:∀f∈ps,Fn Np B f
 co:∀f∈cs,Fn Nc B f
 pos:0<Np*Nc*Nm*Ns^M
 sz:Np*Nc*Nm*Ns^M<2^3000
 b:B<=1000000
def fX(ss:List (List Fr))(v:Nat)(c:List Nat):Rat:=wq (ss.getD v []) c
def dU(ps:List Fr)(v:Nat):Rat:=rv (ps.getD v (0,1))
def wor(F W M:Nat)(ss:List (List Fr))(mix ps cs:List Fr)(c:List Nat):Rat:=FS W F (fX ss) (dU mix) (dU ps) (dU cs) (M-c.sum) c
theorem fH{α:Type}{l:List α}{j:Nat}{a:α}(h:j<l.length):l.getD j a∈l:=by
 rw [bJ,aB h];exact List.getElem_mem h
section
variable{F W M:Nat}{ss:List (List Fr)}{mix ps cs:List Fr}{Ns Nm Np Nc B:Nat}
theorem iO.qn(I:iO F W M ss mix ps cs Ns Nm Np Nc B){v:Nat}(hv:v<W){c:List Nat}(hc:c.sum<=M):Qn (Ns^M) 1 (fX ss v c):=MY (I.sh _ (fH (by rw [I.sl];exact hv))).2 hc
theorem iO.due(I:iO F W M ss mix ps cs Ns Nm Np Nc B){v:Nat}(hv:v<W){c:List Nat}(hc:c.sum<=M):Qn (Np*Nc*Nm*Ns^M) B (dU ps v*fX ss v c):=by
 have h:=(I.pr _ (fH (a:=(0,1)) (by rw [I.pl];exact hv))).q.mul (I.qn hv hc);rw [Nat.mul_one] at h;exact h.dvd ⟨Nc*Nm,by ac_rfl⟩
theorem iO.met(I:iO F W M ss mix ps cs Ns Nm Np Nc B){v:Nat}(hv:v<W){c:List Nat}(hc:c.sum<=M):Qn (Nm*Ns^M) 1 (dU mix v*fX ss v c):=by
 have h:=(I.mx _ (fH (a:=(0,1)) (by rw [I.ml];exact hv))).q.mul (I.qn hv hc)
 rwa [Nat.mul_one] at h
theorem iO.paid(I:iO F W M ss mix ps cs Ns Nm Np Nc B){c:List Nat}(hc:c.sum<M):Qn (Np*Nc*Nm*Ns^M) (4*B) (dU cs c.sum*cN W (λv=>dU mix v*fX ss v c)):=by
 have h1:=(I.co _ (fH (a:=(0,1)) (show c.sum<cs.length by rw [I.cl];exact hc))).q;have h2:=Qn.sumR (n:=W) λv hv=>I.met hv (Nat.le_of_lt hc);have h3:=h1.mul h2;have h4:B*(W*1)<=4*B:=by
  have:=Nat.mul_le_mul_left B I.w4;rw [Nat.mul_one];omega
 exact (h3.le h4).dvd ⟨Np,by ac_rfl⟩
theorem gY{c:List Nat}{j:Nat}(h:j<c.length):(bP c j).sum=c.sum+1:=by
 unfold bP;have h1:c[j]?=some (c.getD j 0):=by rw [bJ,aB h];rfl
 have:=AT c j (c.getD j 0+1) _ h1;omega
theorem qI(c:List Nat)(j:Nat):(bP c j).length=c.length:=by unfold bP;rw [List.length_set]
theorem iO.says(I:iO F W M ss mix ps cs Ns Nm Np Nc B){c:List Nat}(hc:c.sum<=M):∀x∈lH W (λv=>dU ps v*fX ss v c),Qn (Np*Nc*Nm*Ns^M) (5*B) x:=by
 intro x hx;obtain ⟨w,hw,rfl⟩:=sU.mp hx;have h1:=Qn.sumR (n:=W) λv hv=>I.due hv hc;have h2:=h1.sub (I.due hw hc);refine h2.le ?_;have:=bO B I.w4;omega
theorem iO.worn(I:iO F W M ss mix ps cs Ns Nm Np Nc B):∀(n:Nat) (c:List Nat),c.length=F->c.sum+n=M->Qn (Np*Nc*Nm*Ns^M) (8^(n+1)*B) (FS W F (fX ss) (dU mix) (dU ps) (dU cs) n c)
 | 0,c,hl,hn=>Qn.min (λx hx=>(I.says Oo x hx).le Oo) (GL I.w1 _)
 | n+1,c,hl,hn=>by
  rw [yP];have hp:8^(n+1+1)=8*8^(n+1):=by rw [Nat.pow_succ];omega
  have h1:1<=8^(n+1):=Nat.one_le_pow _ _ Dd;have hB:B<=8^(n+1)*B:=Nat.le_mul_of_pos_left _ h1;have e8:8^(n+1+1)*B=8*(8^(n+1)*B):=by rw [hp,Nat.mul_assoc]
  refine Qn.min (λx hx=>?_) (by simp);rcases bX.mp hx with hx | hx
  ·exact (I.says Oo x hx).le Oo
  ·rw [bG.mp hx];have h2:=I.paid (c:=c) Oo;have h3:=Qn.sumR (n:=F) λj hj=>I.worn n (bP c j) (by rw [qI];exact hl) (by rw [gY Oo];omega);refine (h2.add h3).le ?_;have h4:F*(8^(n+1)*B)<=4*(8^(n+1)*B):=bO _ I.f4;omega
end
def rise(F M:Nat):List (List Nat):=(List.range (M+1)).flatMap (cta F)
theorem wA:∀{F m:Nat}{c:List Nat},1<=F->c.length=F->c.sum=m->c∈cta F m
 | 0,m,c,h,_,_=>Oo
 | 1,m,c,_,hl,hs=>by
  obtain ⟨x,rfl⟩:∃x,c=[x]:=by
   match c,hl with
   | [x],_=>exact ⟨x,rfl⟩
  have:x=m:=by simpa using hs
  subst this;simp [cta]
 | F+2,m,c,_,hl,hs=>by
  cases c with
  | nil=>simp at hl
  | cons x c =>
   rw [List.sum_cons] at hs;unfold cta;refine List.mem_flatMap.mpr ⟨x,bR.mpr Oo,aV.mpr ⟨c,wA Oo (by simpa using hl) Oo,rfl⟩⟩
theorem gT{F M:Nat}{c:List Nat}(hF:1<=F):c∈rise F M↔c.length=F/\c.sum<=M:=by
 unfold rise;rw [List.mem_flatMap];constructor
 ·rintro ⟨m,hm,hc⟩;have:=bR.mp hm;obtain ⟨h1,h2⟩:=gQ hc;exact ⟨h1,Oo⟩
 ·rintro ⟨h1,h2⟩;exact ⟨c.sum,bR.mpr Oo,wA hF h1 rfl⟩
theorem pX(F:Nat):∀M:Nat,(rise F M).Pairwise λa b=>a.sum<=b.sum
 | 0=>by
  unfold rise;rw [List.range_succ,List.range_zero,List.nil_append,List.flatMap_singleton];refine List.pairwise_iff_forall_sublist.mpr λ{a b} h=>?_;have ha:a∈cta F 0:=h.subset (by simp);have:=(gQ ha).2;omega
 | M+1=>by
  have ih:=pX F M;unfold rise at *;rw [List.range_succ,List.flatMap_append,List.flatMap_singleton];refine List.pairwise_append.mpr ⟨ih,?_,λa ha b hb=>?_⟩
  ·refine List.pairwise_iff_forall_sublist.mpr λ{a b} h=>?_;have ha:a∈cta F (M+1):=h.subset (by simp);have hb:b∈cta F (M+1):=h.subset (by simp);have h1:=(gQ ha).2;have h2:=(gQ hb).2;omega
  ·obtain ⟨m,hm,ha⟩:=List.mem_flatMap.mp ha;have:=bR.mp hm;have h1:=(gQ ha).2;have h2:=(gQ hb).2;omega
theorem vI{F M k:Nat}{c d:List Nat}(h:(rise F M)[k]?=some c)(hd:d∈rise F M)(hs:c.sum<d.sum):d∈(rise F M).drop (k+1):=by
 obtain ⟨i,hi⟩:=cV.mp hd;have hki:k<i:=by
  refine bY λq=>?_;have hk:=(aF.mp h);have hi':=(aF.mp hi);obtain ⟨lk,ek⟩:=hk;obtain ⟨li,ei⟩:=hi';rcases Nat.lt_or_eq_of_le (Nat.le_of_not_lt q) with h1 | h1
  ·have:=(List.pairwise_iff_getElem.mp (pX F M)) i k li lk h1;rw [ek,ei] at this;omega
  ·subst h1;rw [ek] at ei;subst ei;omega
 refine cV.mpr ⟨i-(k+1),?_⟩;rw [List.getElem?_drop,show k+1+(i-(k+1))=i by omega];exact hi
end Mf
namespace Mf
theorem vD(d:Nat->Rat)(s:Nat):∀W:Nat,oO (((List.range W).filter λi=>i != s).map d)=cN W λi=>if i=s then 0 else d i
 | 0=>rfl
 | W+1=>by
  rw [List.range_succ,List.filter_append,bF,pG,vD d s W,eO];by_cases e:W=s
  ·subst e;rw [if_pos rfl,show List.filter (λi=>i != W) [W]=[] by simp]
   rfl
  ·rw [if_neg e,show List.filter (λi=>i != s) [W]=[W] by simp [e]];rw [bH,List.map_nil,kH,sI];grind
theorem NS(d:Nat->Rat){s W:Nat}(h:s<W):oO (((List.range W).filter λi=>i != s).map d)=cN W d-d s:=by rw [vD,wR d h]
theorem xR:∀F:Nat,1<=F->cta F 0=[List.replicate F 0]
 | 1,_=>rfl
 | F+2,_=>by
  unfold cta;rw [List.range_succ,List.range_zero,List.nil_append,List.flatMap_singleton,Nat.sub_zero,xR (F+1) Oo]
  rfl
theorem LB(F M:Nat):rise F (M+1)=rise F M++cta F (M+1):=by
 unfold rise;rw [List.range_succ,List.flatMap_append,List.flatMap_singleton]
theorem LA(F:Nat):rise F 0=cta F 0:=by
 unfold rise;rw [List.range_succ,List.range_zero,List.nil_append,List.flatMap_singleton]
theorem tM{F m:Nat}(hF:1<=F){d:List Nat}:d∈cta F (m+1) ↔ ∃c∈cta F m,∃j,j<F/\d=bP c j:=by
 constructor
 ·intro h;obtain ⟨h1,h2⟩:=gQ h;obtain ⟨j,hj,hp⟩:∃j,j<d.length/\0<d.getD j 0:=by
   refine bY λq=>?_;have z:d=List.replicate d.length 0:=by
    refine List.eq_replicate_iff.mpr ⟨rfl,λx hx=>?_⟩;obtain ⟨j,hj⟩:=cV.mp hx;have hl:=(aF.mp hj).1;have:d.getD j 0=x:=by rw [bJ,hj];rfl
    refine bY λhx0=>q ⟨j,hl,Oo⟩
   have:d.sum=0:=by rw [z];simp
   omega
  have e1:d[j]?=some (d.getD j 0):=by rw [bJ,aB hj];rfl
  have s1:=AT d j (d.getD j 0-1) _ e1;refine ⟨d.set j (d.getD j 0-1),wA hF (by rw [List.length_set];exact h1) Oo,j,Oo,?_⟩;unfold bP;rw [bJ (l:=d.set j _),List.getElem?_set_self hj,List.set_set];show d=d.set j (d.getD j 0-1+1);rw [show d.getD j 0-1+1=d.getD j 0 by omega];refine (List.ext_getElem? λi=>?_);rw [List.getElem?_set];by_cases e:j=i
  ·subst e;rw [if_pos rfl,if_pos hj];exact e1
  ·rw [if_neg e]
 ·rintro ⟨c,hc,j,hj,rfl⟩;obtain ⟨h1,h2⟩:=gQ hc;exact wA hF (by rw [qI];exact h1) (by rw [gY Oo];omega)
theorem BF:∀F,F<=4->∀M,M<=5->(rise F M).Nodup:=Kk
def CU(f:Fr):Prop:=dA f/\0<=f.1/\f.1<=999/\f.2<=999
def dens(l:List Fr):Nat:=l.foldr (λf n=>f.2.natAbs*n) 1
theorem qH:∀{l:List Fr},(∀f∈l,CU f)->0<dens l
 | [],_=>Nat.one_pos
 | f::l,h=>mY (by have:=(h f (aU ..)).1.pos;omega) (qH λg hg=>h g (aR _ hg))
theorem JH:∀{l:List Fr},(∀f∈l,CU f)->dens l<=999^l.length
 | [],_=>aI _
 | f::l,h=>by
  have h1:=JH λg hg=>h g (aR f hg);obtain ⟨a,b,c,d⟩:=h f (aU ..);have:=a.pos;rw [bU,Nat.pow_succ,Nat.mul_comm];exact Nat.mul_le_mul (show f.2.natAbs<=999 by omega) h1
theorem ET:∀{l:List Fr}{f:Fr},f∈l->f.2.natAbs ∣ dens l
 | g::l,f,h=>by
  rcases bC.mp h with rfl | h
  ·exact Nat.dvd_mul_right _ _
  ·exact lO (ET h) (Nat.dvd_mul_left _ _)
theorem CU.fn{f:Fr}(h:CU f):Fn f.2.natAbs 999 f:=by
 obtain ⟨a,b,c,d⟩:=h;have p:=a.pos;have:=Fn.of (n:=f.1) (d:=f.2) (B:=999) p (by
  have:1<=f.2.natAbs:=Oo;have:=Nat.mul_le_mul_left 999 this;omega)
 rwa [IV a] at this
theorem BZ{l:List Fr}(h:∀f∈l,CU f):∀f∈l,Fn (dens l) 999 f:=λf hf=>(h f hf).fn.dvd (ET hf)
theorem tK{l:List Fr}(h:∀f∈l,CU f)(hl:l.length<=5):dens l<=1000000000000000:=by
 have h1:=JH h;have h2:999^l.length<=999^5:=aP Dd hl;have h3:(999:Nat)^5<=1000000000000000:=Dd;omega
end Mf
namespace Mf
abbrev fP:=List Nat × List Fr
def s0(e:fP):Rat:=dU e.2 0
def qE(F:Nat)(c d:List Nat):Rat:=cN F λf=>if bP c f=d then 1 else 0
def bZ(F:Nat)(es:List fP):List Nat->Rat:=es.foldl (λg e=>λd=>g d+g e.1*s0 e*qE F e.1 d) (λd=>if d=List.replicate F 0 then 1 else 0)
theorem qW(F:Nat)(d:List Nat):bZ F [] d=if d=List.replicate F 0 then 1 else 0:=rfl
theorem kL(F:Nat)(l:List fP)(e:fP)(d:List Nat):bZ F (l++[e]) d=bZ F l d+bZ F l e.1*s0 e*qE F e.1 d:=by unfold bZ;rw [List.foldl_append];rfl
def dW{α:Type}(l:List α)(f:α->Rat):Rat:=oO (l.map f)
theorem jA{α:Type}(f:α->Rat):dW [] f=0:=rfl
theorem fW{α:Type}(a:α)(l:List α)(f:α->Rat):dW (a::l) f=f a+dW l f:=rfl
theorem DD{α:Type}(a b:List α)(f:α->Rat):dW (a++b) f=dW a f+dW b f:=by unfold dW;rw [bF,pG]
theorem uC{α:Type}(l:List α)(a:α)(f:α->Rat):dW (l++[a]) f=dW l f+f a:=by rw [DD,fW,jA];grind
theorem fG{α:Type}{l:List α}{f g:α->Rat}(h:∀a∈l,f a=g a):dW l f=dW l g:=by unfold dW;rw [eB h]
theorem pH{α:Type}(l:List α)(f g:α->Rat):dW l (λa=>f a+g a)=dW l f+dW l g:=by
 induction l with
 | nil=>rw [jA,jA,jA];grind
 | cons a l ih=>rw [fW,fW,fW,ih];grind
theorem sJ{α:Type}(l:List α)(x:Rat)(f:α->Rat):dW l (λa=>x*f a)=x*dW l f:=by
 induction l with
 | nil=>rw [jA,jA];grind
 | cons a l ih=>rw [fW,fW,ih];grind
theorem yT{α:Type}(l:List α):dW l (λ_=>0)=0:=by
 induction l with
 | nil=>rfl
 | cons a l ih=>rw [fW,ih];grind
theorem KH{α:Type}{l:List α}{f g:α->Rat}(h:∀a∈l,f a<=g a):dW l f<=dW l g:=by
 induction l with
 | nil=>exact Rat.le_refl
 | cons a l ih =>
  have h1:=h a (aU ..);have h2:=ih λx hx=>h x (aR _ hx);rw [fW,fW];grind
theorem vW{α:Type}{l:List α}{f:α->Rat}(h:∀a∈l,0<=f a):0<=dW l f:=by
 have:=KH (l:=l) (f:=λ_=>0) (g:=f) h
 rwa [yT] at this
theorem qO{α:Type}(l:List α)(n:Nat)(f:α->Nat->Rat):dW l (λa=>cN n (f a))=cN n λi=>dW l λa=>f a i:=by
 induction l with
 | nil=>show 0=cN n (λ_=>0);rw [mD]
 | cons a l ih =>
  rw [fW,ih,<-DC];exact dC λi _=>rfl
theorem uD{es:List fP}(nd:(es.map (·.1)).Nodup){b:List Nat}(hb:b∈es.map (·.1))(Φ:List Nat->Rat):dW es (λx=>(if b=x.1 then 1 else 0)*Φ x.1)=Φ b:=by
 induction es with
 | nil=>cases hb
 | cons a es ih =>
  rw [bH,List.nodup_cons] at nd;rw [fW];by_cases e:b=a.1
  ·rw [if_pos e,e,fG (g:=λ_=>0) λx hx=>?_,yT]
   ·grind
   ·rw [if_neg λq=>nd.1 (by rw [q];exact aV.mpr ⟨x,hx,rfl⟩)];grind
  ·rw [if_neg e,ih nd.2 (by rw [bH] at hb;exact (bC.mp hb).resolve_left e)];grind
structure yK(F:Nat)(es:List fP):Prop where
 root:∃e r,es=e::r/\e.1=List.replicate F 0
 len:∀e∈es,e.1.length=F
 nd:(es.map (·.1)).Nodup
 srt:es.Pairwise λa b=>a.1.sum<=b.1.sum
 fwd:∀e∈es,s0 e≠0->∀f,f<F->bP e.1 f∈es.map (·.1)
 bwd:∀d∈es.map (·.1),d≠List.replicate F 0->∃e∈es,s0 e≠0/\∃f,f<F/\bP e.1 f=d
 nn:∀e∈es,0<=s0 e
section
variable{F:Nat}{es:List fP}
theorem EM{c d:List Nat}(hc:c.length=F)(h:d.sum≠c.sum+1):qE F c d=0:=by
 unfold qE;rw [dC (g:=λ_=>0) λf hf=>if_neg λq=>h ?_,mD];rw [<-q,gY Oo]
theorem yK.at(R:yK F es){i:Nat}{e:fP}(h:es[i]?=some e):bZ F (es.take i) e.1=bZ F es e.1:=by
 have key:∀k,i+k<=es.length->bZ F (es.take (i+k)) e.1=bZ F (es.take i) e.1:=by
  intro k
  induction k with
  | zero=>intro _;rfl
  | succ k ih =>
   intro hk;obtain ⟨x,hx⟩:∃x,es[i+k]?=some x:=⟨_,aB Oo⟩;have et:es.take (i+k+1)=es.take (i+k)++[x]:=by rw [gK,hx];rfl
   rw [<-Nat.add_assoc,et,kL,ih Oo,EM (R.len x (aG hx)) ?_]
   ·grind
   ·obtain ⟨l1,e1⟩:=aF.mp h;obtain ⟨l2,e2⟩:=aF.mp hx;have:e.1.sum<=x.1.sum:=by
     by_cases q:k=0
     ·subst q;have:e=x:=by rw [<-e1,<-e2];rfl
      rw [this];exact aI _
     ·have:=(List.pairwise_iff_getElem.mp R.srt) i (i+k) l1 l2 Oo
      rwa [e1,e2] at this
    omega
 have hi:=(aF.mp h).1;have:=key (es.length-i) Oo;rw [show i+(es.length-i)=es.length by omega,cR] at this;exact this.symm
theorem yK.cons(R:yK F es)(Φ:List Nat->Rat):∀n,n<=es.length->dW es (λx=>bZ F (es.take n) x.1*Φ x.1)=Φ (List.replicate F 0)+dW (es.take n) λe=>bZ F es e.1*s0 e*cN F λf=>Φ (bP e.1 f):=by
 intro n
 induction n with
 | zero =>
  intro _;rw [List.take_zero,jA];obtain ⟨e,r,he,hz⟩:=R.root;have:=uD R.nd (b:=List.replicate F 0) (by rw [he,<-hz];exact aU ..) Φ;rw [fG (g:=λx=>(if List.replicate F 0=x.1 then 1 else 0)*Φ x.1) λx _=>?_,this]
  ·grind
  ·rw [qW];by_cases q:x.1=List.replicate F 0
   ·rw [if_pos q,if_pos q.symm]
   ·rw [if_neg q,if_neg λz=>q z.symm]
 | succ n ih =>
  intro hn;obtain ⟨e,he⟩:∃x,es[n]?=some x:=⟨_,aB Oo⟩;have et:es.take (n+1)=es.take n++[e]:=by rw [gK,he];rfl
  have hm:=aG he;rw [et,uC,<-Rat.add_assoc,<-ih Oo];rw [fG (g:=λx=>bZ F (es.take n) x.1*Φ x.1+bZ F es e.1*s0 e*(qE F e.1 x.1*Φ x.1)) λx _=>by rw [kL,R.at he];grind];rw [pH,sJ];by_cases z:s0 e=0
  ·rw [z];grind
  ·congr 2;have:(λx:fP=>qE F e.1 x.1*Φ x.1)=λx=>cN F λf=>(if bP e.1 f=x.1 then 1 else 0)*Φ x.1:=by
    funext x
    unfold qE;rw [Rat.mul_comm,<-jV];exact dC λi _=>Rat.mul_comm _ _
   rw [this,qO];exact dC λf hf=>uD R.nd (R.fwd e hm z f hf) Φ
theorem yK.all(R:yK F es)(Φ:List Nat->Rat):dW es (λx=>bZ F es x.1*Φ x.1)=Φ (List.replicate F 0)+dW es λe=>bZ F es e.1*s0 e*cN F λf=>Φ (bP e.1 f):=by
 have:=R.cons Φ es.length (aI _)
 rwa [cR] at this
theorem QM(F:Nat)(c d:List Nat):0<=qE F c d:=TD λf _=>by split <;> grind
theorem yK.fnn(R:yK F es):∀n,n<=es.length->∀d,0<=bZ F (es.take n) d:=by
 intro n
 induction n with
 | zero=>intro _ d;rw [List.take_zero,qW];split <;> grind
 | succ n ih =>
  intro hn d;obtain ⟨e,he⟩:∃x,es[n]?=some x:=⟨_,aB Oo⟩;have et:es.take (n+1)=es.take n++[e]:=by rw [gK,he];rfl
  rw [et,kL];have h1:=ih Oo d;have h2:=ih Oo e.1;have h3:=Rat.mul_nonneg (Rat.mul_nonneg h2 (R.nn e (aG he))) (QM F e.1 d);grind
theorem yK.nnf(R:yK F es)(d:List Nat):0<=bZ F es d:=by
 have:=R.fnn es.length (aI _) d
 rwa [cR] at this
theorem yK.pos(R:yK F es):∀(k:Nat) (d:List Nat),d∈es.map (·.1)->d.sum<=k->0<bZ F es d:=by
 have eqd:∀d∈es.map (·.1),bZ F es d=(if d=List.replicate F 0 then 1 else 0)+dW es λe=>bZ F es e.1*s0 e*qE F e.1 d:=λd hd=>by
  have h:=R.all λx=>if d=x then 1 else 0
  have h1:=uD R.nd hd (bZ F es);have e1:dW es (λx=>bZ F es x.1*(if d=x.1 then 1 else 0))=bZ F es d:=by rw [<-h1];exact fG λx _=>Rat.mul_comm _ _
  rw [<-e1,h];congr 1;exact fG λe _=>by
   congr 1;unfold qE;exact dC λf _=>by
    by_cases q:d=bP e.1 f
    ·rw [if_pos q,if_pos q.symm]
    ·rw [if_neg q,if_neg λz=>q z.symm]
 have tn:∀d,∀e∈es,0<=bZ F es e.1*s0 e*qE F e.1 d:=λd e he=>Rat.mul_nonneg (Rat.mul_nonneg (R.nnf _) (R.nn e he)) (QM F e.1 d);intro k
 induction k with
 | zero =>
  intro d hd hs;have hz:d=List.replicate F 0:=by
   refine bY λq=>?_;obtain ⟨e,he,_,f,hf,rfl⟩:=R.bwd d hd q;rw [gY (by rw [R.len e he];exact hf)] at hs;omega
  rw [eqd d hd,if_pos hz];have:=vW (tn d);grind
 | succ k ih =>
  intro d hd hs;by_cases hz:d=List.replicate F 0
  ·rw [eqd d hd,if_pos hz];have:=vW (tn d);grind
  ·obtain ⟨e,he,h0,f,hf,rfl⟩:=R.bwd d hd hz;have bs:=gY (c:=e.1) (j:=f) (by rw [R.len e he];exact hf);have hA:=ih e.1 (aV.mpr ⟨e,he,rfl⟩) Oo;have hs0:0<s0 e:=by have:=R.nn e he;grind
   have hh:1<=qE F e.1 (bP e.1 f):=by
    unfold qE;have h1:=yS (n:=F) (f:=λi=>if i=f then 1 else 0) (g:=λi=>if bP e.1 i=bP e.1 f then 1 else 0) λi _=>by
     by_cases q:i=f
     ·subst q;rw [if_pos rfl,if_pos rfl];exact Rat.le_refl
     ·rw [if_neg q];split <;> grind
    have h2:=wR (n:=F) (λi=>if i=f then (1:Rat) else 0) hf;have h3:cN F (λi=>if i=f then 0 else if i=f then (1:Rat) else 0)=0:=by
     rw [dC (g:=λ_=>0) λi _=>?_,mD];by_cases q:i=f
     ·rw [if_pos q]
     ·rw [if_neg q,if_neg q]
    rw [if_pos rfl,h3] at h2;grind
   have one:0<bZ F es e.1*s0 e*qE F e.1 (bP e.1 f):=Rat.mul_pos (Rat.mul_pos hA hs0) (by grind);rw [eqd _ hd,if_neg hz];have:bZ F es e.1*s0 e*qE F e.1 (bP e.1 f)<=dW es λe'=>bZ F es e'.1*s0 e' * qE F e'.1 (bP e.1 f):=by
    obtain ⟨l1,l2,rfl⟩:=List.append_of_mem he;rw [DD,fW];have n1:=vW (l:=l1) λx hx=>tn (bP e.1 f) x (bV _ hx);have n2:=vW (l:=l2) λx hx=>tn (bP e.1 f) x (aN _ (aR _ hx));grind
   grind
theorem yK.posf(R:yK F es){e:fP}(h:e∈es):0<bZ F es e.1:=R.pos _ e.1 (aV.mpr ⟨e,h,rfl⟩) (aI _)
theorem Qn.one'(N:Nat):Qn N 1 1:=⟨N,by rw [uM];grind,by simp⟩
theorem yK.qn(R:yK F es){N:Nat}(hN:∀e∈es,Qn N 1 (s0 e))(f4:F<=4):∀n,n<=es.length->∀d,Qn (N^d.sum) (5^n) (bZ F (es.take n) d):=by
 intro n
 induction n with
 | zero =>
  intro _ d;rw [List.take_zero,qW];split
  ·exact Qn.one' _
  ·exact Qn.zero _ _
 | succ n ih =>
  intro hn d;obtain ⟨e,he⟩:∃x,es[n]?=some x:=⟨_,aB Oo⟩;have et:es.take (n+1)=es.take n++[e]:=by rw [gK,he];rfl
  rw [et,kL];have h1:=ih Oo d;have hm:=aG he;have p5:5^(n+1)=5*5^n:=by rw [Nat.pow_succ];omega
  by_cases hs:d.sum=e.1.sum+1
  ·have h2:=(ih Oo e.1).mul (hN e hm);have h3:Qn 1 4 (qE F e.1 d):=by
    have:=Qn.sumR (N:=1) (B:=1) (n:=F) (f:=λf=>if bP e.1 f=d then 1 else 0) λf _=>by
     split
     ·exact Qn.one' _
     ·exact Qn.zero _ _
    exact this.le Oo
   have h4:=h2.mul h3;have h5:N^e.1.sum*N=N^d.sum:=by rw [hs,Nat.pow_succ]
   rw [Nat.mul_one,h5] at h4;exact (h1.add h4).le Oo
  ·rw [EM (R.len e hm) hs];have:bZ F (es.take n) d+bZ F (es.take n) e.1*s0 e*0=bZ F (es.take n) d:=by grind
   rw [this];exact h1.le Oo
end
def pB(zs:List (Fr × Nat)):Rat:=zs.foldr (λz p=>rv z.1^z.2*p) 1
theorem IL:∀(zs:List (Fr × Nat)) (p:Fr),dA p->(∀z∈zs,dA z.1)->rv (zs.foldl (λp q=>iV p (uI q.1 q.2)) p)=rv p*pB zs
 | [],p,_,_=>by show rv p=rv p*1;grind
 | z::zs,p,hp,h=>by
  have hz:=h z (aU ..);have hw:=kY hz z.2;rw [List.foldl_cons,IL zs _ (gI hp hw) λy hy=>h y (aR _ hy),iB hp.pos hw.pos,GO hz];show _=rv p*(rv z.1^z.2*pB zs);grind
theorem AJ{fs:List Fr}(h:∀f∈fs,dA f)(c:List Nat):wq fs c=pB (fs.zip c):=by
 unfold wq jP;rw [IL _ _ QF λz hz=>h z.1 (List.of_mem_zip (a:=z.1) (b:=z.2) hz).1];show rv (1,1)*_=_;rw [rO];grind
theorem yY:∀(fs:List Fr) (c:List Nat) (j:Nat),j<fs.length->fs.length=c.length->pB (fs.zip (bP c j))=pB (fs.zip c)*dU fs j
 | [],c,j,h,_=>by simp at h
 | f::fs,[],j,_,h=>by simp at h
 | f::fs,n::c,0,_,_=>by
  show rv f^(n+1)*pB (fs.zip c)=(rv f^n*pB (fs.zip c))*rv f;rw [Rat.pow_succ];grind
 | f::fs,n::c,j+1,hj,hl=>by
  have ih:=yY fs c j (by simpa using hj) (by simpa using hl);have e:bP (n::c) (j+1)=n::bP c j:=by unfold bP;rw [List.set_cons_succ];rfl
  have ev:dU (f::fs) (j+1)=dU fs j:=rfl;rw [e,ev,List.zip_cons_cons,List.zip_cons_cons];show rv f^n*pB (fs.zip (bP c j))=(rv f^n*pB (fs.zip c))*dU fs j;rw [ih];grind
theorem yX:∀(fs:List Fr) (n:Nat),pB (fs.zip (List.replicate n 0))=1
 | [],n=>by rfl
 | f::fs,0=>by rfl
 | f::fs,n+1=>by
  rw [List.replicate_succ,List.zip_cons_cons];show rv f^0*pB (fs.zip (List.replicate n 0))=1;rw [yX fs n,Rat.pow_zero];grind
theorem TB(fs:List Fr):oO (fs.map rv)=cN fs.length (dU fs):=by
 unfold cN;congr 1;refine List.ext_getElem? λi=>?_;rw [aM,aM];by_cases hi:i<fs.length
 ·rw [cJ hi,aB hi];show some _=some (dU fs i);unfold dU;rw [bJ,aB hi];rfl
 ·rw [eY Oo,eY (by rw [aZ];omega)];rfl
theorem ZH{fs:List Fr}(h:∀f∈fs,dA f)(h1:oO (fs.map rv)=1){c:List Nat}(hc:c.length=fs.length):wq fs c=cN fs.length λf=>wq fs (bP c f):=by
 rw [AJ h];rw [dC (g:=λf=>pB (fs.zip c)*dU fs f) λf hf=>by rw [AJ h,yY fs c f hf hc.symm]];rw [jV,<-TB,h1];grind
theorem SO{fs:List Fr}(h:∀f∈fs,dA f)(n:Nat):wq fs (List.replicate n 0)=1:=by rw [AJ h,yX]
section
variable{F W M:Nat}{es:List fP}{q:Nat->List Nat->Rat}{mix ps cs:Nat->Rat}
def kF(F:Nat)(es:List fP)(q:List Nat->Rat)(w:Nat):Rat:=dW es λe=>bZ F es e.1*q e.1*dU e.2 (1+w)
def wS(F:Nat)(es:List fP)(q:List Nat->Rat)(cs:Nat->Rat):Rat:=dW es λe=>cs e.1.sum*(bZ F es e.1*q e.1*s0 e)
def rJ(F W:Nat)(es:List fP)(q:Nat->List Nat->Rat)(mix cs:Nat->Rat):Rat:=cN W λw=>mix w*wS F es (q w) cs
def xA(F W:Nat)(es:List fP)(q:Nat->List Nat->Rat)(mix ps cs:Nat->Rat):Rat:=rJ F W es q mix cs+cN W λw=>ps w*(1-kF F es (q w) w)
theorem yK.stops(R:yK F es){q:List Nat->Rat}(h0:q (List.replicate F 0)=1)(h1:∀c,c.length=F->q c=cN F λf=>q (bP c f)):dW es (λe=>bZ F es e.1*q e.1*(1-s0 e))=1:=by
 have h:=R.all q;rw [h0] at h;have e:dW es (λe=>bZ F es e.1*s0 e*cN F λf=>q (bP e.1 f))=dW es λe=>bZ F es e.1*q e.1*s0 e:=fG λe he=>by rw [<-h1 e.1 (R.len e he)];grind
 rw [e] at h;have e2:dW es (λe=>bZ F es e.1*q e.1*(1-s0 e))+dW es (λe=>bZ F es e.1*q e.1*s0 e)=dW es (λx=>bZ F es x.1*q x.1):=by
  rw [<-pH];exact fG λe _=>by grind
 grind
end
end Mf
namespace Mf
section
variable{F W:Nat}{es:List fP}{q:Nat->List Nat->Rat}{mix ps cs:Nat->Rat}
theorem DB{n v:Nat}{f:Nat->Rat}(hv:v<n)(h:∀i,i<n->i≠v->f i=0):cN n f=f v:=by
 have h2:=wR (n:=n) f hv;have h3:cN n (λi=>if i=v then 0 else f i)=0:=by
  rw [dC (g:=λ_=>0) λi hi=>?_,mD];by_cases e:i=v
  ·rw [if_pos e]
  ·rw [if_neg e,h i hi e]
 rw [h3] at h2;grind
def SH(F W:Nat)(q:Nat->List Nat->Rat)(mix ps cs:Nat->Rat)(V:List Nat->Rat)(e:fP):Prop :=
 (s0 e=1/\(∀v,v<W->dU e.2 (1+v)=0)/\V e.1=cs e.1.sum*cN W (λv=>mix v*q v e.1)+cN F (λf=>V (bP e.1 f))) \/
 ∃v,v<W/\s0 e=0/\dU e.2 (1+v)=1/\(∀u,u<W->u≠v->dU e.2 (1+u)=0)/\V e.1=cN W (λw=>ps w*q w e.1)-ps v*q v e.1
theorem PC(R:yK F es)(V:List Nat->Rat)(h0:∀w,w<W->q w (List.replicate F 0)=1)(h1:∀w,w<W->∀c,c.length=F->q w c=cN F λf=>q w (bP c f))
  (hb:∀e∈es,SH F W q mix ps cs V e):V (List.replicate F 0)=xA F W es q mix ps cs:=by
 have one:∀e∈es,V e.1=s0 e*(cs e.1.sum*cN W (λv=>mix v*q v e.1))+s0 e*cN F (λf=>V (bP e.1 f))+((1-s0 e)*cN W (λw=>ps w*q w e.1)-cN W λv=>dU e.2 (1+v)*(ps v*q v e.1)):=by
  intro e he;rcases hb e he with ⟨a,b,c⟩ | ⟨v,hv,a,b,d,c⟩
  ·have e0:cN W (λv=>dU e.2 (1+v)*(ps v*q v e.1))=0:=by
    rw [dC (g:=λ_=>0) λi hi=>by rw [b i hi];grind,mD]
   rw [e0,a,c];grind
  ·have e0:cN W (λv=>dU e.2 (1+v)*(ps v*q v e.1))=ps v*q v e.1:=by
    rw [DB hv λi hi hn=>by rw [d i hi hn];grind,b];grind
   rw [e0,a,c];grind
 have all:=R.all V;have sum1:dW es (λx=>bZ F es x.1*V x.1)=dW es (λe=>bZ F es e.1*(s0 e*(cs e.1.sum*cN W (λv=>mix v*q v e.1))+s0 e*cN F (λf=>V (bP e.1 f))+((1-s0 e)*cN W (λw=>ps w*q w e.1)-cN W λv=>dU e.2 (1+v)*(ps v*q v e.1)))):=fG λe he=>by rw [<-one e he]
 rw [all] at sum1;have split:dW es (λe=>bZ F es e.1*(s0 e*(cs e.1.sum*cN W (λv=>mix v*q v e.1))+s0 e*cN F (λf=>V (bP e.1 f))+((1-s0 e)*cN W (λw=>ps w*q w e.1)-cN W λv=>dU e.2 (1+v)*(ps v*q v e.1)))) =
   rJ F W es q mix cs+dW es (λe=>bZ F es e.1*s0 e*cN F λf=>V (bP e.1 f))+cN W (λw=>ps w*(1-kF F es (q w) w)):=by
  have c1:rJ F W es q mix cs=dW es λe=>bZ F es e.1*(s0 e*(cs e.1.sum*cN W (λv=>mix v*q v e.1))):=by
   unfold rJ wS;rw [dC (g:=λw=>dW es λe=>mix w*(cs e.1.sum*(bZ F es e.1*q w e.1*s0 e))) λw _=>(sJ _ _ _).symm,<-qO];refine fG λe _=>?_;rw [<-jV,<-jV,<-jV];exact dC λw _=>by grind
  have c2:cN W (λw=>ps w*(1-kF F es (q w) w))=dW es λe=>bZ F es e.1*((1-s0 e)*cN W (λw=>ps w*q w e.1)-cN W λv=>dU e.2 (1+v)*(ps v*q v e.1)):=by
   have k:∀w,w<W->ps w*(1-kF F es (q w) w)=dW es λe=>ps w*(bZ F es e.1*q w e.1*(1-s0 e)-bZ F es e.1*q w e.1*dU e.2 (1+w)):=λw hw=>by
    rw [sJ];congr 1;have h:=R.stops (h0 w hw) (h1 w hw);have h2:dW es (λe=>bZ F es e.1*q w e.1*(1-s0 e)-bZ F es e.1*q w e.1*dU e.2 (1+w))+kF F es (q w) w=dW es (λe=>bZ F es e.1*q w e.1*(1-s0 e)):=by
     unfold kF;rw [<-pH];exact fG λe _=>by grind
    grind
   rw [dC k,<-qO];refine fG λe _=>?_;have a1:(1-s0 e)*cN W (λw=>ps w*q w e.1)=cN W λw=>(1-s0 e)*(ps w*q w e.1):=(jV _ _ _).symm;have a2:cN W (λw=>(1-s0 e)*(ps w*q w e.1)-dU e.2 (1+w)*(ps w*q w e.1))+cN W (λv=>dU e.2 (1+v)*(ps v*q v e.1))=cN W λw=>(1-s0 e)*(ps w*q w e.1):=by
    rw [<-DC];exact dC λw _=>by grind
   have a3:(1-s0 e)*cN W (λw=>ps w*q w e.1)-cN W (λv=>dU e.2 (1+v)*(ps v*q v e.1))=cN W (λw=>(1-s0 e)*(ps w*q w e.1)-dU e.2 (1+w)*(ps w*q w e.1)):=by rw [a1];grind
   rw [a3,<-jV];exact dC λw _=>by grind
  rw [c1,c2,<-pH,<-pH];exact fG λe _=>by grind
 rw [split] at sum1;unfold xA;grind
end
end Mf
namespace Mf
end Mf
namespace Kw
open PySem L2 Mf
def top(i:Nat):Stmt:=PySem.Challenge.pw_earlystop_k47_best_rules.main.body.getD i (.Pass ⟨0,0,0,0⟩)
structure Cl where
 ONE:Addr
 NOUGHT:Addr
 Weighing:Addr
 tok_LOOKS_ON:Tok
structure lB(K:PySem.W.Frag)(mg:Str->Option Value)(c:Cl):Prop where
 b_list:mg "list" = none
 b_len:mg "len" = none
 b_abs:mg "abs" = none
 b_range:mg "range" = none
 b_sum:mg "sum" = none
 b_zip:mg "zip" = none
 b_reversed:mg "reversed" = none
 b_tuple:mg "tuple" = none
 b_repr:mg "repr" = none
 b_sorted:mg "sorted" = none
 b_int:mg "int" = none
 b_min:mg "min" = none
 b_isinstance:mg "isinstance" = none
 g_ONE:mg "ONE" = some (.ref c.ONE)
 g_NOUGHT:mg "NOUGHT" = some (.ref c.NOUGHT)
 g_LOOKS_ON:mg "LOOKS_ON" = some (.int 0 c.tok_LOOKS_ON)
 g_Weighing:mg "Weighing" = some (.ref c.Weighing)
 w_Weighing:Own K c.Weighing ["rising","units","weights","cost_unit","costs"]
 o_ONE:rV K c.ONE [1,1]=true
 o_NOUGHT:rV K c.NOUGHT [0,1]=true
abbrev sQ6:Stmt:=(top 38)
theorem cQ6:cA ["_law_script"] ["_law_script"] (aX sQ6):=⟨rfl,rfl,rfl,Kk,rfl,Kk,Kk⟩
abbrev sQ5:Stmt:=(top 39)
theorem cQ5:cA ["_law_feed_here","_law_many","_law_found","_law_at","_law_cells","_law_cell","_law_number"] ["_law_feed_here","_law_many"] (aX sQ5):=⟨rfl,rfl,rfl,Kk,rfl,Kk,Kk⟩
abbrev sQ7:Stmt:=(top 40)
theorem cQ7:cA ["_law_n","_law_d","_law_one","_law_other"] ["_law_n","_law_d"] (aX sQ7):=⟨rfl,rfl,rfl,Kk,rfl,Kk,Kk⟩
abbrev UP:Stmt:=(top 47)
theorem FE:cA ["_law_feed_here","_law_many","_law_whole","_law_found","_law_left","_law_k","_law_part","_law_at"] ["_law_feed_here","_law_many"] (aX UP):=⟨rfl,rfl,rfl,Kk,rfl,Kk,Kk⟩
theorem EL{b:Bool}{A B:Prop}(h:b=true)(k:A):if b=true then A else B:=by rw [h,if_pos rfl];exact k
theorem qD{b:Bool}{A B:Prop}(h:b=false)(k:B):if b=true then A else B:=by rw [h,if_neg Dd];exact k
theorem NT{K:PySem.W.Frag}{H H':Hp}{a:Addr}{xs:List V}(s:aY H H')(h:fN K H a xs):fN K H' a xs:=by
 rcases h with (h | ⟨o,h⟩) | h
 ·exact .inl (.inl (s _ _ h))
 ·exact .inl (.inr ⟨o,s _ _ h⟩)
 ·exact .inr h
theorem aW.take{H:Hp}:∀{ds:List PyData}{vs:List V}(n:Nat),aW H ds vs->aW H (ds.take n) (vs.take n)
 | [],_,n,h=>by cases (show _=[] from h);rw [List.take_nil,List.take_nil];exact aW.nil
 | d::ds,_,0,h=>aW.nil
 | d::ds,_,n+1,h=>by
  unfold aW at h;obtain ⟨x,xs,rfl,h1,h2⟩:=h;exact aW.cons h1 (aW.take n h2)
theorem aW.drop{H:Hp}:∀{ds:List PyData}{vs:List V}(n:Nat),aW H ds vs->aW H (ds.drop n) (vs.drop n)
 | [],_,n,h=>by cases (show _=[] from h);rw [List.drop_nil,List.drop_nil];exact aW.nil
 | d::ds,_,0,h=>h
 | d::ds,_,n+1,h=>by
  unfold aW at h;obtain ⟨x,xs,rfl,h1,h2⟩:=h;exact aW.drop n h2
def JW(n:Nat)(d:PyData):Prop:=PyData.canLay0 d=true/\PyData.depth d<=n
theorem JW.all{n:Nat}:∀{ds:List PyData},(∀d∈ds,JW n d)->PyData.canLayAll0 ds=true/\PyData.depthAll ds<=n
 | [],_=>⟨rfl,cE _⟩
 | d::ds,h=>by
  obtain ⟨h1,h2⟩:=h d (aU ..);obtain ⟨h3,h4⟩:=JW.all λe he=>h e (aR _ he);refine ⟨?_,?_⟩
  ·show (PyData.canLay0 d&&PyData.canLayAll0 ds)=true;rw [h1,h3];rfl
  ·show max (PyData.depth d) (PyData.depthAll ds)<=n;omega
theorem JW.lst{n:Nat}{ds:List PyData}(h:∀d∈ds,JW n d):JW (n+1) (.list ds):=⟨(JW.all h).1,by have:=(JW.all h).2;show PyData.depthAll ds+1<=n+1;omega⟩
theorem JW.int(i:Int):JW 1 (.int i):=⟨rfl,by simp [PyData.depth]⟩
theorem JW.ok{n:Nat}{d:PyData}(h:JW n d)(hn:n<=64:=by decide):SeqAt.shaped d=true:=by
 unfold SeqAt.shaped;rw [h.1,Bool.true_and];exact cO (by have:=h.2;omega)
theorem aA0{z:Int}(h:(10:Int)^Int.toNat 18<=z):0<=z:=Int.le_trans Dd h
abbrev fdD(L:Addr)(t l:Int):List (eZ × V):=[(.inr "cells",.ref L),(.inr "at",.int t),(.inr "left",.int l)]
structure dH(H:Hp)(p L:Addr)(n:Nat):Prop where
 ex:∃(ns:List Int) (t l:Int),H p=some (.dK (fdD L t l))/\H L=some (.lst (ns.map V.int))/\ns.length<=63/\0<=l/\0<=t/\t+n<=1000000000000
theorem dH.there{H:Hp}{p L:Addr}{n:Nat}(F:dH H p L n):∃o,H p=some o:=by obtain ⟨ns,t,l,h,_⟩:=F.ex;exact ⟨_,h⟩
theorem dH.ne{H:Hp}{p L q:Addr}{n:Nat}(F:dH H p L n)(hq:H q=none):q≠p:=λe=>by
 subst e;obtain ⟨o,h⟩:=F.there;rw [h] at hq;cases hq
theorem dH.neL{H:Hp}{p L q:Addr}{n:Nat}(F:dH H p L n)(hq:H q=none):q≠L:=λe=>by
 subst e;obtain ⟨ns,t,l,h,h2,_⟩:=F.ex;rw [h2] at hq;cases hq
theorem dH.same{H H':Hp}{p L:Addr}{n:Nat}(F:dH H p L n)(s:aY H H'):dH H' p L n:=by
 obtain ⟨ns,t,l,h1,h2,h3⟩:=F.ex;exact ⟨ns,t,l,s _ _ h1,s _ _ h2,h3⟩
theorem dH.but{H H':Hp}{p L D:Addr}{n:Nat}(F:dH H p L n)(s:aQ D H H')(n1:D≠p)(n2:D≠L):dH H' p L n:=by
 obtain ⟨ns,t,l,h1,h2,h3⟩:=F.ex;exact ⟨ns,t,l,s.at (Ne.symm n1) h1,s.at (Ne.symm n2) h2,h3⟩
theorem dH.less{H:Hp}{p L:Addr}{n m:Nat}(F:dH H p L n)(h:m<=n):dH H p L m:=by
 obtain ⟨ns,t,l,e,e2,e3,l0,t0,r⟩:=F.ex;exact ⟨ns,t,l,e,e2,e3,l0,t0,Oo⟩
theorem dH.t{H H':Hp}{p L:Addr}{n:Nat}(F:dH H p L n)(s:aQ p H H'):dB H H':=by
 obtain ⟨ns,t,l,h,_⟩:=F.ex;exact s.tD h
theorem dH.like{p L:Addr}(f:Nat->Nat):HV p L (λi H=>dH H p L (f i)) :=
 ⟨λ_ D H1 H2 n1 n2 s F=>F.but s n1 n2,λ_ H1 H2 s F=>F.same s,λ_ H' F=>by obtain ⟨ns,t,l,h,_⟩:=F.ex;exact ⟨_,h⟩,λ_ H' D F h=>⟨F.ne h,F.neL h⟩⟩
@[irreducible] def sP(K:PySem.W.Frag):Sp:=λvs H Q _=>∃(a:Addr) (ns:List Int),vs=[.ref a]/\fN K H a (ns.map V.int)/\ns.length<=63/\∀p L H',dH H' p L 1000000000000->aY H H'->H p=none->H L=none->Q (.ref p) H'
theorem KM{K:PySem.W.Frag}{H:Hp}{Q:VK}{E:XK}{a:Addr}{ns:List Int}(h:fN K H a (ns.map V.int))(hl:ns.length<=63)(k:∀p L H',dH H' p L 1000000000000->aY H H'->H p=none->H L=none->Q (.ref p) H'):sP K [.ref a] H Q E:=by
 unfold sP;exact ⟨a,ns,rfl,h,hl,k⟩
@[irreducible] def lG:Sp:=λvs H Q _=>∃(p L:Addr) (n:Nat) (m:Int),vs=[.ref p,.int m]/\dH H p L (n+1)/\0<m/\bits m<=64/\∀x H',0<=x->x<m->dH H' p L n->aQ p H H'->Q (.int x) H'
theorem dN(F:dH H p L (n+1))(h:0<m)(hb:bits m<=64)(k:∀x H',0<=x->x<m->dH H' p L n->aQ p H H'->Q (.int x) H'):lG [.ref p,.int m] H Q E:=by
 unfold lG;exact ⟨p,L,n,m,rfl,F,h,hb,k⟩
theorem bitsle{i:Int}{n:Nat}(h:i.natAbs<2^n):bits i<=n:=PySem.intBits_le_iff.mpr h
@[irreducible] def uE(K:PySem.W.Frag):Sp:=λvs H Q _=>∃(a:Addr) (ns:List Int),vs=[.ref a]/\fN K H a (ns.map V.int)/\ns.length<=63/\∀H',Q (.bl true) H'
theorem NW{K:PySem.W.Frag}{H:Hp}{a:Addr}{ns:List Int}(h:fN K H a (ns.map V.int))(hl:ns.length<=63):uE K [.ref a] H (λv _=>v=.bl true) (λ_ _ _=>False):=by
 unfold uE;exact ⟨a,ns,rfl,h,hl,λ_=>rfl⟩
theorem AF{H:Hp}:∀ns:List Int,aW H (ns.map PyData.int) (ns.map V.int)
 | []=>aW.nil
 | n::ns=>aW.cons (cC.int n) (AF ns)
theorem QL{ns:List Int}:PyData.eqv (.list (ns.map PyData.int)) (.list [])=decide (ns=[]):=by
 cases ns <;> simp [PyData.eqv,PyData.eqvAll]
theorem DM(ns:List Int):SeqAt.shaped (.list (ns.map PyData.int))=true:=(JW.lst (n:=1) λd hd=>by
 obtain ⟨i,_,rfl⟩:=aV.mp hd;exact JW.int i).ok
section
theorem oQ6(F:jT K "_law_feed" "_law_feed" sQ6 f fd)(T:lB K mg c):dY P w K mg base dP 1 f fd ["_law_script"] (sP K):=by
 refine F.oky cQ6 λvs H Q E h=>?_;unfold sP at h;obtain ⟨a,ns,rfl,hS,hl,k⟩:=h;refine ⟨rfl,λcdv A outer s hr=>?_⟩;refine ⟨_,(bD (cI (SW (wK hJ (nB tP (by rfl) T.b_list Kk (aJ (iZ IH (aD 0) kR (kQ aL)) aE)) (wK hJ aL (wK hJ aL SQ)))))),?_⟩;intro p hp;have s0:=aY.upd (o:=.dK []) hp;have e0:(upd H p (.dK [])) p=some (.dK []):=bM;generalize upd H p (.dK [])=H0 at s0 e0;refine ⟨_,rfl,_,rfl,a,_,rfl,NT s0 hS,λq1 h1=>?_⟩;refine ⟨q1,_,rfl,.inl (fN.of bM),λq2 h2=>?_⟩;have e1:lK (ns.map V.int) none (some 63)=ns.map V.int:=by
  unfold lK;have:HT.iU (ns.map V.int).length (ns.map V.int).length (some 63)=(ns.map V.int).length:=by
   rw [show ((63:Int))=((63:Nat):Int) from rfl,HT.BB,aA];omega
  rw [this,HT.sV,List.drop_zero,Nat.sub_zero];exact List.take_of_length_le (aI _)
 have s2:=(aY.upd (o:=.lst (lK (ns.map V.int) none (some 63))) h1).trans (aY.upd (o:=.lst (lK (ns.map V.int) none (some 63))) h2);have e2:(upd (upd H0 q1 (.lst (lK (ns.map V.int) none (some 63)))) q2 (.lst (lK (ns.map V.int) none (some 63)))) q2=some (.lst (ns.map V.int)):=by rw [bM,e1]
 have f2:H0 q2=none:=(aY.upd h1).free h2;generalize upd (upd H0 q1 (.lst (lK (ns.map V.int) none (some 63)))) q2 (.lst (lK (ns.map V.int) none (some 63)))=H2 at s2 e2;have n2:q2≠p:=λz=>by rw [z,e0] at f2;cases f2
 refine ⟨s2 _ _ e0,fdD q2 0 0,rfl,by show 3<=15;decide,?_⟩;refine k p q2 _ ⟨ns,0,0,?_,?_,hl,Dd,Dd,Dd⟩ ?_ hp (s0.free f2)
 ·rw [bM];rfl
 ·rw [L2.cX n2];exact e2
 ·intro b o h;have nb:b≠p:=λe=>by subst e;rw [hp] at h;cases h
  rw [L2.cX nb];exact s2 _ _ (s0 _ _ h)
theorem oQ5(F:jT K "_law_draw" "_law_draw" sQ5 f fd)(T:lB K mg c):dY P w K mg base dP 1 f fd ["_law_feed_here","_law_many"] lG:=by
 refine F.oky cQ5 λvs H Q E h=>?_;unfold lG at h;obtain ⟨p,L,n,m,rfl,F,hm,hb,k⟩:=h;refine ⟨rfl,λcdv A outer s hr=>?_⟩;obtain ⟨ns,t,l,hp,hL,hl,h0,h1,h2⟩:=F.ex;refine ⟨_,(aH (kE (eQ yZ (gE hr.u1 (aD 0) hJ) aL (nomark _)) (aH (bK (i:=2) cQ5.nd rfl (Or.inl rfl) (bQ mR (gE hr.u1 (aD 0) hJ) (aD 1)))
  (aH (iE hr.u1 (aD 0) hJ (bQ fO (gE hr.u1 (aD 0) hJ) (aD 1)))
  (bD (cI (aD 2))))) gC)
  (aH (bK (i:=3) cQ5.nd rfl (Or.inl rfl) (gE hr.u1 (aD 0) hJ))
  (aH (iE hr.u1 (aD 0) hJ (bQ dQ (aD 3) aL))
  (aH (bK (i:=4) cQ5.nd rfl (Or.inl rfl) (gE hr.u1 (aD 0) hJ))
  (aH (wJ (bK (i:=5) cQ5.nd rfl (Or.inl rfl) (sD (eQ (PV hr.units) (aD 4) (iI aE) (nomark _)) (bT bL (aD 4) (bQ mR (aD 3) (eG gB (by rfl) T.b_len Kk (aJ (aD 4) aE))) (λ_ _=>rfl)) (bQ dO (aD 3) (aD 3)))))
  (aH (kE (vU (FQ (AG (eQ aBW (aD 5) (bQ aAu aL aL) (nomark _)) (vT (eQ xC (aD 3) (eG gB (by rfl) T.b_len Kk (aJ (aD 4) aE)) (nomark _)))))) (aH (iE hr.u1 (aD 0) hJ (bQ fO (aD 5) (aD 1)))
  (bD (cI (bQ mR (aD 5) (aD 1))))) gC)
  (aH (bK (i:=6) cQ5.nd rfl (Or.inl rfl) (bQ mR (bQ dO (bQ dQ (bQ mR (aD 5) aL) aL) (bQ dQ aL (bQ dO aL (aD 3)))) aL))
  (bD (cI (bQ mR (bQ fO (bQ mR (bQ dQ (bQ dO (aD 6) aL) (bQ dO (bQ dO (aD 3) (aD 3)) aL)) aL) aL) (aD 1))))))))))),?_⟩
 refine ⟨_,rfl,?_⟩;refine dgS hp rfl ?_;refine ⟨_,_,rfl,rfl,_,rfl,?_⟩;refine uQ (λe0=>?_) (λe0=>?_)
 ·refine ⟨_,rfl,?_⟩;refine dgS hp rfl ?_;refine ⟨_,rfl,_,_,rfl,rfl,hm,?_⟩;refine ⟨_,rfl,?_⟩;refine dgS hp rfl ?_;refine ⟨_,rfl,_,_,rfl,rfl,⟨hm,aK hb Dd⟩,?_⟩;refine ⟨_,rfl,?_⟩;refine dpS (kvs2:=fdD L t (l/m)) hp (by show 3<=64;decide) rfl λH2 hp2 s2=>?_;have nL:L≠p:=λz=>by rw [z,hp] at hL;cases hL
  refine ⟨_,rfl,?_⟩;exact k _ H2 (Int.emod_nonneg _ Oo) (Int.emod_lt_of_pos _ hm) ⟨ns,t,l/m,hp2,s2.at nL hL,hl,Int.ediv_nonneg h0 Oo,Oo,Oo⟩ s2
 ·have nL:L≠p:=λz=>by rw [z,hp] at hL;cases hL
  refine ⟨_,rfl,?_⟩;refine dgS hp rfl ?_;refine ⟨_,rfl,_,_,rfl,rfl,_,rfl,?_⟩;refine dpS (kvs2:=fdD L (t+1) l) hp (by show 3<=64;decide) rfl λH1 hp1 s1=>?_;have hL1:=s1.at nL hL;refine ⟨_,rfl,?_⟩;refine dgS hp1 rfl ?_;have bt:bits t<=64:=PySem.intBits_le_64 Oo Oo;have bt':bits (7919:Int)<=64:=Kk;have F2:∀{H3:Hp},aY H1 H3->dH H3 p L n:=λs3=>⟨ns,t+1,l,s3 _ _ hp1,s3 _ _ hL1,hl,h0,Oo,Oo⟩;refine ⟨λσ H3=>∃cc:Int,σ=[some (.ref p),some (.int m),none,some (.int t),some (.ref L),some (.int cc),none]/\aY H1 H3,?_,?_⟩
  ·rintro σ H3 ⟨cc,rfl,s3⟩;have e3p:=s3 _ _ hp1;have e3L:=s3 _ _ hL1;refine ⟨λb H4=>H4=H3/\(b=true->0<=cc),?_,?_⟩
   ·refine ⟨_,rfl,_,_,rfl,rfl,⟨Dd,Dd,Dd⟩,_,_,rfl,rfl,_,rfl,?_⟩;refine uQ (λe1=>?_) (λe1=>?_)
    ·refine ⟨_,rfl,_,rfl,?_⟩;refine OP e3L ?_;exact ⟨_,_,rfl,rfl,_,rfl,rfl,λ_=>aA0 e1⟩
    ·exact ⟨rfl,λh=>by cases h⟩
   ·rintro b H4 ⟨rfl,hcc⟩;cases b with
    | true =>
     have hcc:=hcc rfl;refine LP ?_;refine ⟨_,rfl,_,rfl,_,_,rfl,rfl,⟨hm,aK hb Dd⟩,?_⟩;refine ⟨_,rfl,?_⟩;refine dpS (kvs2:=fdD L (t+1) (cc/m)) e3p (by show 3<=64;decide) rfl λH5 hp5 s5=>?_;refine ⟨_,rfl,_,rfl,_,_,rfl,rfl,hm,?_⟩;exact k _ H5 (Int.emod_nonneg _ Oo) (Int.emod_lt_of_pos _ hm) ⟨ns,t+1,cc/m,hp5,s5.at nL e3L,hl,Int.ediv_nonneg hcc Oo,Oo,Oo⟩ ((s1.trans s3.but).trans s5)
    | false =>
     refine HE ?_;have c0:=Int.emod_nonneg cc (b:=2147483629) Dd;have c1:=Int.emod_lt_of_pos cc (b:=2147483629) Dd;refine ⟨_,rfl,_,_,rfl,rfl,(by show (0:Int)<2147483629;decide),_,_,rfl,rfl,_,rfl,_,_,rfl,rfl,IntMulOk.of_left bt',_,_,rfl,rfl,_,_,rfl,rfl,IntMulOk.of_left (PySem.intBits_le_64 Oo Oo),_,_,rfl,rfl,(by show (0:Int)<2147483647;decide),?_⟩;generalize (cc % 2147483629+1)*(48271+7919*t) % 2147483647=z;refine ⟨_,rfl,_,_,rfl,rfl,IntMulOk.of_right Kk,_,rfl,_,rfl,_,_,rfl,rfl,IntMulOk.of_left bt,_,_,rfl,rfl,IntMulOk.of_right Kk,_,_,rfl,rfl,_,_,rfl,rfl,(by show (0:Int)<2147483399;decide),_,_,rfl,rfl,⟨Dd,Kk⟩,_,rfl,_,_,rfl,rfl,hm,?_⟩;exact k _ H4 (Int.emod_nonneg _ Oo) (Int.emod_lt_of_pos _ hm) (F2 s3) (s1.trans s3.but)
  ·refine ⟨_,rfl,?_⟩;refine DY (by show 0<=64;decide) λq2 H2 hq2 e2 s2=>?_;refine reD (d:=.list (ns.map PyData.int)) (d':=.list []) (cC.lst (s2 _ _ hL1) (AF ns)) (cC.lst e2 aW.nil) (DM ns) rfl ?_;rw [QL];refine ⟨_,rfl,?_⟩;by_cases ens:ns=[]
   ·refine qD (by rw [cO ens];rfl) ?_;refine ⟨_,rfl,_,rfl,_,_,rfl,rfl,IntMulOk.of_left bt,?_⟩;exact ⟨_,rfl,s2⟩
   ·refine EL (by rw [cH ens];rfl) ?_;have lp:0<ns.length:=List.length_pos_iff.mpr ens;refine ⟨_,rfl,_,rfl,_,rfl,?_⟩;refine OP (s2 _ _ hL1) ?_;rw [aA];refine ⟨_,_,rfl,rfl,Oo,?_⟩;have g0:=Int.emod_nonneg t (b:=(ns.length:Int)) Oo;have g1:=Int.emod_lt_of_pos t (b:=(ns.length:Int)) Oo;have hj:∃z,ns[(t % (ns.length:Int)).toNat]?=some z:=⟨_,aB Oo⟩;obtain ⟨z,hz⟩:=hj;have hat:yI (ns.map V.int) (t % (ns.length:Int))=some (.int z):=by
     have:=cT (xs:=ns.map V.int) (j:=(t % (ns.length:Int)).toNat) (v:=V.int z) (by rw [aM,hz];rfl)
     rwa [Int.toNat_of_nonneg g0] at this
    refine FO (s2 _ _ hL1) hat ?_;exact ⟨_,rfl,s2⟩
end
abbrev fY(f:Fr):PyData:=.tuple [.int f.1,.int f.2]
theorem aAM{H:Hp}{f:Fr}{v:V}(h:cC H (fY f) v):∃a,v=.ref a/\H a=some (.tup [.int f.1,.int f.2]):=by
 unfold cC aW aW aW at h;obtain ⟨a,_,rfl,h1,x,_,rfl,r1,y,_,rfl,r2,rfl⟩:=h;cases (show x=V.int f.1 from r1);cases (show y=V.int f.2 from r2);exact ⟨a,rfl,h1⟩
theorem dE{H:Hp}{f:Fr}{a:Addr}(h:H a=some (.tup [.int f.1,.int f.2])):cC H (fY f) (.ref a):=cC.tup h (aW.cons (cC.int _) (aW.cons (cC.int _) aW.nil))
theorem cQ(f:Fr):fV (fY f)=true:=rfl
def gR(K:PySem.W.Frag)(H:Hp)(f:Fr)(x:V):Prop:=∃a,x=.ref a/\jH K H a [.int f.1,.int f.2]
theorem gR.of{K:PySem.W.Frag}{H:Hp}{f:Fr}{x:V}(h:cC H (fY f) x):gR K H f x:=by
 obtain ⟨a,e,h⟩:=aAM h;exact ⟨a,e,jH.of h⟩
theorem gR.new{K:PySem.W.Frag}{H:Hp}{f:Fr}{a:Addr}(h:H a=some (.tup [.int f.1,.int f.2])):gR K H f (.ref a):=⟨a,rfl,jH.of h⟩
theorem gR.same{K:PySem.W.Frag}{H H':Hp}{f:Fr}{x:V}(s:aY H H')(h:gR K H f x):gR K H' f x:=by
 obtain ⟨a,e,h⟩:=h;exact ⟨a,e,h.keep s⟩
def mZ(k:Nat)(f:Fr):Prop:=f.1.natAbs<2^k/\f.2.natAbs<2^k
@[irreducible] def wV:Sp:=λvs H Q _=>∃n d:Int,vs=[.int n,.int d]/\0<d/\Q (.int (Int.gcd n d)) H
theorem sR(h:0<d)(q:Q (.int (Int.gcd n d)) H):wV [.int n,.int d] H Q E:=by unfold wV;exact ⟨n,d,rfl,h,q⟩
def tX(H:Hp)(Q:VK)(f:Fr):Prop:=∀q H',H q=none->H' q=some (.tup [.int f.1,.int f.2])->aY H H'->Q (.ref q) H'
@[irreducible] def sK(K:PySem.W.Frag):Sp:=λvs H Q _=>∃x y f g,vs=[x,y]/\gR K H f x/\gR K H g y/\dA f/\dA g/\mZ 4000 f/\mZ 4000 g/\tX H Q (qJ f g)
theorem KJ{K:PySem.W.Frag}(h1:gR K H f x)(h2:gR K H g y)(l1:dA f)(l2:dA g)(z1:mZ 4000 f)(z2:mZ 4000 g)(q:tX H Q (qJ f g)):sK K [x,y] H Q E:=by unfold sK;exact ⟨x,y,f,g,rfl,h1,h2,l1,l2,z1,z2,q⟩
@[irreducible] def sM(K:PySem.W.Frag):Sp:=λvs H Q _=>∃x y f g,vs=[x,y]/\gR K H f x/\gR K H g y/\mZ 4000 f/\mZ 4000 g/\Q (.bl (decide (f.1*g.2<g.1*f.2))) H
theorem KK{K:PySem.W.Frag}(h1:gR K H f x)(h2:gR K H g y)(z1:mZ 4000 f)(z2:mZ 4000 g)(q:Q (.bl (decide (f.1*g.2<g.1*f.2))) H):sM K [x,y] H Q E:=by unfold sM;exact ⟨x,y,f,g,rfl,h1,h2,z1,z2,q⟩
theorem aAI{n d:Int}(h:0<d):(Int.gcd n d:Int)<=d:=Int.le_of_dvd h (Int.gcd_dvd_right n d)
theorem xN{n d:Int}{k:Nat}(h:0<d)(z:d.natAbs<2^k):(Int.gcd n d:Int).natAbs<2^k:=by
 have:=aAI (n:=n) h;have:=jM (n:=n) h;omega
theorem qG{n d:Int}(h:0<d)(z:d.natAbs<2^9000):SG n d:=⟨h,CF z⟩
theorem jK{i:Int}{n m:Nat}(h:i.natAbs<2^n)(k:n<=m:=by decide):i.natAbs<2^m:=aO h (aP Dd k)
theorem oN{i j:Int}{n:Nat}(h:i.natAbs<2^n)(hj:0<j):(i/j).natAbs<2^n:=bA (by
 have:=Int.natAbs_ediv_le_natAbs i j;exact this) h
theorem wQ{i j:Int}{n m:Nat}(h1:i.natAbs<2^n)(h2:j.natAbs<2^m):(i*j).natAbs<2^(n+m):=by
 rw [fA,Nat.pow_add];exact Nat.mul_lt_mul'' h1 h2
abbrev pE(fs:List Fr):PyData:=.tuple (fs.map fY)
theorem kZ:∀fs:List Fr,gU (fs.map fY)=true
 | []=>rfl
 | f::fs=>by show (fV (fY f)&&gU (fs.map fY))=true;rw [kZ fs];rfl
theorem jW(fs:List Fr):fV (pE fs)=true:=kZ fs
@[irreducible] def jC:Sp:=λvs H Q _=>∃n d:Int,vs=[.int n,.int d]/\0<d/\d.natAbs<2^9000/\tX H Q (lw n d)
theorem iL(h:0<d)(z:d.natAbs<2^9000)(q:tX H Q (lw n d)):jC [.int n,.int d] H Q E:=by unfold jC;exact ⟨n,d,rfl,h,z,q⟩
section
theorem oQ7(F:jT K "_law_frac" "_law_frac" sQ7 f fd)(T:lB K mg c):dY P w K mg base dP 1 f fd ["_law_n","_law_d"] jC:=by
 refine F.oky cQ7 λvs H Q E h=>?_;unfold jC at h;obtain ⟨n,d,rfl,hd,hz,q⟩:=h;refine ⟨rfl,λcdv A outer s hr=>?_⟩;refine ⟨_,(aH (bK (i:=2) cQ7.nd rfl (Or.inl rfl) (eG aAT (by rfl) T.b_abs Kk (aJ (aD 0) aE)))
  (aH (bK (i:=3) cQ7.nd rfl (Or.inl rfl) (aD 1))
  (aH (rZ PassesOwn.never (eQ yZ (aD 3) aL (nomark _)) (bD (ZG (i:=2) (j:=3) rfl cQ7.nd rfl rfl Dd rfl rfl (aJ (aD 3) (aJ (bQ mR (aD 2) (aD 3)) aE)) rfl)))
  (bD (cI (dS (aJ (bQ fO (aD 0) (aD 2)) (aJ (bQ fO (aD 1) (aD 2)) aE)))))))),?_⟩
 refine ⟨_,rfl,?_⟩;refine raI ?_;refine ⟨_,rfl,?_⟩;refine vV (λm σ H'=>∃(u v:Int),σ=[some (.int n),some (.int d),some (.int u),some (.int v)]/\0<=v/\Int.gcd u v=Int.gcd n d/\(v=0->0<u)/\H'=H/\m=v.toNat)
  (λσ H'=>σ=[some (.int n),some (.int d),some (.int (Int.gcd n d)),some (.int 0)]/\H'=H)
  _ ⟨(n.natAbs:Int),d,rfl,Oo,by rw [Int.gcd_eq_natAbs_gcd_natAbs,Int.gcd_eq_natAbs_gcd_natAbs,Int.natAbs_natCast],Oo,rfl,rfl⟩ ?_ ?_
 ·rintro m σ H2 ⟨u,v,rfl,hb,hg,h0,rfl,rfl⟩;refine ⟨_,rfl,_,_,rfl,rfl,_,rfl,?_⟩;refine uQ (λe=>?_) (λe=>?_)
  ·refine ⟨_,rfl,_,rfl,_,rfl,_,_,rfl,rfl,e,_,_,rfl,?_⟩;have e1:=Int.emod_lt_of_pos u e;have e2:=Int.emod_nonneg u (b:=v) Oo;exact ⟨_,Oo,v,u % v,rfl,e2,by rw [EN,hg],λ_=>e,rfl,rfl⟩
  ·have hb0:v=0:=Oo;subst hb0;have hu:=h0 rfl;have e1:=JB hu;rw [hg] at e1;rw [e1];exact ⟨rfl,rfl⟩
 ·rintro σ H2 ⟨rfl,rfl⟩;have hg:=jM (n:=n) hd;have zg:SG n (Int.gcd n d:Int):=qG hg (xN hd hz);refine ⟨_,rfl,_,rfl,_,_,rfl,rfl,zg,?_⟩;refine ⟨_,rfl,_,rfl,_,_,rfl,rfl,zg,?_⟩;refine pY (by show 2<=64;decide) λp H3 hp e3 s3=>?_;exact q p H3 hp e3 s3
end
def hV:Nat:=2512440
structure CO(m:Nat)(fs:List Fr):Prop where
 ex:∃(ps:List Int) (W:Int),ps.length=m/\(∀x∈ps,0<=x/\x<=W)/\ps.sum=W/\0<W/\W<=997/\W.natAbs ∣ hV/\fs=ps.map λx=>lw x W
theorem CO.len{m:Nat}{fs:List Fr}(h:CO m fs):fs.length=m:=by
 obtain ⟨ps,W,h1,_,_,_,_,_,rfl⟩:=h.ex;rw [aA,h1]
theorem CO.at{m:Nat}{fs:List Fr}(h:CO m fs):∀f∈fs,Fn hV 1 f/\0<=f.1:=by
 obtain ⟨ps,W,h1,h2,_,h4,h5,h6,rfl⟩:=h.ex;intro f hf;obtain ⟨x,hx,rfl⟩:=aV.mp hf;have:=h2 x hx;exact ⟨(Fn.of h4 Oo).dvd h6,Int.ediv_nonneg this.1 (Int.natCast_nonneg _)⟩
theorem CO.bits{m:Nat}{fs:List Fr}(h:CO m fs):∀f∈fs,f.1.natAbs<=997/\f.2.natAbs<=997:=by
 obtain ⟨ps,W,h1,h2,_,h4,h5,h6,rfl⟩:=h.ex;intro f hf;obtain ⟨x,hx,rfl⟩:=aV.mp hf;have:=h2 x hx;have q:=IW (n:=x) h4;have p:=(iW (n:=x) h4).pos;omega
theorem TM:∀x:Nat,1<=x->x<=10->x ∣ hV:=by
 intro x h1 h2;have:∀x,x<=10->1<=x->x ∣ hV:=by unfold hV;decide
 exact this x h2 h1
theorem KQ{W:Int}(h:(1<=W/\W<=10)\/W=997):W.natAbs ∣ hV:=by
 rcases h with h | rfl
 ·exact TM _ Oo Oo
 ·show 997 ∣ 2512440;decide
@[irreducible] def lU:Sp:=λvs H Q _=>∃(p L:Addr) (n m:Nat),vs=[.ref p,.int (m:Int)]/\dH H p L (n+12)/\0<m/\m<=5/\∀v fs H',dH H' p L n->aQ p H H'->cC H' (pE fs) v->CO m fs->Q v H'
theorem vH(F:dH H p L (n+12))(m0:0<m)(m5:m<=5)(k:∀v fs H',dH H' p L n->aQ p H H'->cC H' (pE fs) v->CO m fs->Q v H'):lU [.ref p,.int (m:Int)] H Q E:=by
 unfold lU;exact ⟨p,L,n,m,rfl,F,m0,m5,k⟩
theorem UW(l:List Int)(a:Nat):(l.drop a++l.take a).sum=l.sum:=by
 rw [List.sum_append,Int.add_comm,<-List.sum_append,List.take_append_drop]
section
theorem aDk(F:jT K "_law_shares" "_law_shares" UP f fd)(T:lB K mg c)
  (FQ5:gM dP P w K mg base 1 "_law_draw" ["_law_feed_here","_law_many"] lG) (FQ7:gM dP P w K mg base 1 "_law_frac" ["_law_n","_law_d"] jC):dY P w K mg base dP 2 f fd ["_law_feed_here","_law_many"] lU:=by
 refine F.oky FE λvs H Q E h=>?_;unfold lU at h;obtain ⟨p,L,n,m,rfl,F,m0,m5,k⟩:=h;refine ⟨rfl,λcdv A outer s hr=>?_⟩;refine ⟨_,(aH (bK (i:=2) FE.nd rfl (Or.inl rfl) (bT bL (iI (aJ (bQ dQ aL (bS FQ5 (hr.mono Dd) (aJ (aD 0) (aJ aL aE)))) (aJ (bQ dQ aL (bS FQ5 (hr.mono Dd) (aJ (aD 0) (aJ aL aE)))) (aJ (bQ dQ aL (bS FQ5 (hr.mono Dd) (aJ (aD 0) (aJ aL aE)))) (aJ aL aE))))) (bS FQ5 (hr.mono Dd) (aJ (aD 0) (aJ aL aE))) (λ_ _=>rfl)))
  (aH (bK (i:=3) FE.nd rfl (Or.inl rfl) (iI aE))
  (aH (bK (i:=4) FE.nd rfl (Or.inl rfl) (aD 2))
  (aH (fF PassesOwn.never rfl (cP rfl T.b_range (aJ (bQ rT (aD 1) aL) aE)) (dF (i:=5) FE.nd rfl (Or.inl rfl)) (aH (bK (i:=6) FE.nd rfl (Or.inl rfl) (bS FQ5 (hr.mono Dd) (aJ (aD 0) (aJ (bQ dQ (aD 4) aL) aE))))
  (aH (jU (pA PySem.F.plainAttrs_list PySem.F.slot_list_append PySem.F.type_list_append qB (aD 3) (aJ (bS FQ7 (hr.mono Dd) (aJ (aD 6) (aJ (aD 2) aE))) aE)))
  (bD (bK (i:=4) FE.nd rfl (Or.inl rfl) (bQ rT (aD 4) (aD 6)))))))
  (aH (jU (pA PySem.F.plainAttrs_list PySem.F.slot_list_append PySem.F.type_list_append qB (aD 3) (aJ (bS FQ7 (hr.mono Dd) (aJ (aD 4) (aJ (aD 2) aE))) aE)))
  (aH (bK (i:=7) FE.nd rfl (Or.inl rfl) (bS FQ5 (hr.mono Dd) (aJ (aD 0) (aJ (aD 1) aE))))
  (bD (cI (nB eV (by rfl) T.b_tuple Kk (aJ (bQ xD (iZ (pV K) (aD 3) (kQ (aD 7)) kR) (iZ (pV K) (aD 3) kR (kQ (aD 7)))) aE)))))))))),?_⟩
 refine ⟨_,rfl,?_⟩;refine dN (n:=n+11) F Dd Kk λx1 H1 a1 b1 F1 s1=>?_;refine ⟨_,_,rfl,rfl,_,rfl,?_⟩;refine dN (n:=n+10) F1 Dd Kk λx2 H2 a2 b2 F2 s2=>?_;refine ⟨_,_,rfl,rfl,_,rfl,?_⟩;refine dN (n:=n+9) F2 Dd Kk λx3 H3 a3 b3 F3 s3=>?_;refine ⟨_,_,rfl,rfl,?_⟩;refine DY (by show 4<=64;decide) λq4 H4 hq4 e4 s4=>?_;refine ⟨_,rfl,?_⟩;refine dN (n:=n+8) (F3.same s4) Dd Kk λx5 H5 a5 b5 F5 s5=>?_;have hW:∃W:Int,yI [V.int (1+x1),V.int (2+x2),V.int (2+x3),V.int 997] x5=some (.int W)/\((1<=W/\W<=10)\/W=997):=by
  have:x5=0\/x5=1\/x5=2\/x5=3:=Oo;rcases this with rfl | rfl | rfl | rfl
  ·exact ⟨_,rfl,.inl Oo⟩
  ·exact ⟨_,rfl,.inl Oo⟩
  ·exact ⟨_,rfl,.inl Oo⟩
  ·exact ⟨_,rfl,.inr rfl⟩
 obtain ⟨W,hat,hW⟩:=hW;refine FO (s5.at (F3.ne hq4) e4) hat ?_;have W0:0<W/\W<=997:=Oo;have b5:aQ p H H5:=((((s1.trans s2).trans s3).trans s4.but).trans s5);clear s1 s2 s3 s4 s5 e4 hat F1 F2 F3;refine DY (by show 0<=64;decide) λD H6 hD e6 s6=>?_;have F6:=F5.same s6;have nD:=F5.ne hD;have nDL:=F5.neL hD;have hD0:H D=none:=aQ.free b5 F5.there hD;refine ⟨_,rfl,_,rfl,_,_,rfl,rfl,((m-1:Nat):Int),by show [V.int ((m:Int)-1)]=_;rw [show ((m:Int)-1)=((m-1:Nat):Int) by omega],Oo,Oo,?_⟩;rw [Int.toNat_natCast];have wz:W.natAbs<2^9000:=aO (show W.natAbs<2^10 by show W.natAbs<1024;omega) (aP Dd Dd);refine fZ (λi σ H'=>∃(o5 o6 o7:Option V) (ps:List Int) (vs:List V) (left:Int),σ=[some (.ref p),some (.int (m:Int)),some (.int W),some (.ref D),some (.int left),o5,o6,o7]/\dH H' p L (n+8-i)/\aQ p H H'/\H' D=some (.lst vs)/\aW H' ((ps.map λx=>lw x W).map fY) vs/\ps.length=i/\(∀x∈ps,0<=x/\x<=W)/\ps.sum+left=W/\0<=left/\left<=W)
  ⟨_,_,_,[],[],W,rfl,F6,b5.trans s6.but,e6,aW.nil,rfl,(λx h=>by cases h),by simp,Oo,Oo⟩ ?_ ?_
 ·rintro i σ H7 hi ⟨o5,o6,o7,ps,vs,left,rfl,F7,b7,e7,r7,l7,hp7,hs7,l0,l1⟩;refine ⟨_,rfl,_,rfl,_,_,rfl,rfl,?_⟩;refine dN (n:=n+8-(i+1)) (F7.less Oo) Oo (bitsle (bA (show (left+1).natAbs<=998 by omega) Dd)) λx8 H8 a8 b8 F8 s8=>?_;have e8:=s8.at nD e7;refine ⟨_,rfl,MP e8,_,rfl,_,rfl,?_⟩;refine iL W0.1 wz ?_;intro q9 H9 hq9 e9 s9;have e9D:=s9 _ _ e8;have lv:vs.length=i:=by rw [r7.len,aA,aA,l7]
  refine FK e9D Oo λH10 e10 b10=>?_;refine ⟨_,rfl,_,rfl,_,_,rfl,rfl,?_⟩;have t78:=F7.t s8;have t10:=b10.t e9D;refine ⟨_,_,_,ps++[x8],vs++[.ref q9],left-x8,rfl,(F8.same s9).but b10 nD nDL,aQ.thru hD0 ((b7.trans s8).trans s9.but) b10,e10,?_,by rw [bE,l7];rfl,?_,?_,Oo,Oo⟩
  ·rw [bF,bF];exact aW.snoc (r7.flat ((t78.trans s9.t).trans t10) (kZ _)) (cC.flat t10 (cQ _) (dE e9))
  ·intro x hx;rcases bX.mp hx with hx | hx
   ·exact hp7 x hx
   ·rw [bG.mp hx];omega
  ·rw [List.sum_append,List.sum_singleton];omega
 ·rintro σ H7 ⟨o5,o6,o7,ps,vs,left,rfl,F7,b7,e7,r7,l7,hp7,hs7,l0,l1⟩;refine ⟨_,rfl,MP e7,_,rfl,_,rfl,?_⟩;refine iL W0.1 wz ?_;intro q9 H9 hq9 e9 s9;have e9D:=s9 _ _ e7;have lv:vs.length=m-1:=by rw [r7.len,aA,aA,l7]
  refine FK e9D Oo λH10 e10 b10=>?_;have t10:=b10.t e9D;have F10:=(F7.same s9).but b10 nD nDL;have B10:aQ p H H10:=aQ.thru hD0 (b7.trans s9.but) b10;have r10:aW H10 (((ps++[left]).map λx=>lw x W).map fY) (vs++[.ref q9]):=by
   rw [bF,bF];exact aW.snoc (r7.flat (s9.t.trans t10) (kZ _)) (cC.flat t10 (cQ _) (dE e9))
  have hps:(ps++[left]).length=m/\(∀x∈ps++[left],0<=x/\x<=W)/\(ps++[left]).sum=W:=by
   refine ⟨by rw [bE,l7];show m-1+1=m;omega,λx hx=>?_,by rw [List.sum_append,List.sum_singleton];omega⟩;rcases bX.mp hx with hx | hx
   ·exact hp7 x hx
   ·rw [bG.mp hx];omega
  generalize ps++[left]=qs at r10 hps;generalize vs++[V.ref q9]=us at r10 e10;clear r7 hp7 hs7 l0 l1 l7 e7 e9 e9D b10 t10 F7 b7 s9;have lu:us.length=m:=by rw [r10.len,aA,aA,hps.1]
  refine ⟨_,rfl,_,rfl,?_⟩;refine dN (n:=n) (F10.less Oo) Oo (bitsle (bA (show ((m:Int)).natAbs<=5 by omega) Dd)) λx H11 a11 b11 F11 s11=>?_;obtain ⟨a,rfl⟩:∃a:Nat,x=(a:Int):=⟨x.toNat,Oo⟩;have e11:=s11.at nD e10;have r11:=r10.flat (F10.t s11) (kZ _);refine ⟨_,rfl,_,rfl,_,rfl,?_⟩;refine slL e11 (ys:=us.drop a) (CB _ _) λq12 H12 hq12 e12 s12=>?_;refine ⟨_,rfl,_,rfl,_,rfl,?_⟩;refine slL (s12 _ _ e11) (ys:=us.take a) (CC _ _) λq13 H13 hq13 e13 s13=>?_;refine RK (s13 _ _ e12) e13 (by rw [List.length_drop,cL];omega) λq14 H14 hq14 e14 s14=>?_;refine ⟨q14,_,rfl,.inl ⟨fN.of e14,λl hl=>?_⟩⟩;have s15:=aY.upd (o:=.tup (us.drop a++us.take a)) hl;have e15:(upd H14 l (.tup (us.drop a++us.take a))) l=some (.tup (us.drop a++us.take a)):=bM;generalize upd H14 l (.tup (us.drop a++us.take a))=H15 at s15 e15;have S:=((s12.trans s13).trans s14).trans s15;refine k _ ((qs.drop a++qs.take a).map λx=>lw x W) H15 (F11.same S) ((B10.trans s11).trans S.but) (cC.tup e15 ?_) ⟨qs.drop a++qs.take a,W,?_,?_,?_,W0.1,W0.2,KQ hW,rfl⟩
  ·have r:=r11.same S;rw [bF,bF];refine aW.append ?_ ?_
   ·rw [List.map_take,List.map_take];exact aW.take a r
   ·rw [List.map_drop,List.map_drop];exact aW.drop a r
  ·rw [bE,List.length_drop,cL];omega
  ·intro x hx;rcases bX.mp hx with hx | hx
   ·exact hps.2.1 x (List.mem_of_mem_drop hx)
   ·exact hps.2.1 x (List.mem_of_mem_take hx)
  ·rw [UW];exact hps.2.2
end
abbrev KW:Stmt:=(top 48)
theorem RT:cA ["_law_feed_here","_law_faces","_law_ways","_law_names","_law_start","_law_told"] ["_law_feed_here","_law_faces","_law_ways"] (aX KW):=⟨rfl,rfl,rfl,Kk,rfl,Kk,Kk⟩
abbrev UO:Stmt:=(top 49)
theorem aCf:cA ["_law_feed_here","_law_way"] ["_law_feed_here"] (aX UO):=⟨rfl,rfl,rfl,Kk,rfl,Kk,Kk⟩
abbrev sQ3:Stmt:=(top 50)
theorem cQ3:cA ["_law_feed_here","_law_whole","_law_part"] ["_law_feed_here"] (aX sQ3):=⟨rfl,rfl,rfl,Kk,rfl,Kk,Kk⟩
abbrev sQ1:Stmt:=(top 51)
theorem cQ1:cA ["_law_feed_here","_law_ways","_law_most","_law_bounds","_law_mix"] ["_law_feed_here","_law_ways","_law_most"] (aX sQ1):=⟨rfl,rfl,rfl,Kk,rfl,Kk,Kk⟩
theorem mP{H:Hp}{fs:List Fr}{v:V}(h:cC H (pE fs) v):∃a xs,v=.ref a/\H a=some (.tup xs)/\aW H (fs.map fY) xs:=by
 unfold cC at h;exact h
abbrev wD(w:Str × List Fr):PyData:=.tuple [.str w.1,pE w.2]
abbrev qN(fs:List Str)(ws:List (Str × List Fr)):PyData:=.tuple [.tuple (fs.map .str),.tuple (ws.map wD)]
theorem yU:∀fs:List Str,gU (fs.map PyData.str)=true
 | []=>rfl
 | f::fs=>by show (fV (.str f)&&gU (fs.map PyData.str))=true;rw [yU fs];rfl
theorem IC(w:Str × List Fr):fV (wD w)=true:=by
 show (fV (.str w.1)&&(fV (pE w.2)&&true))=true;rw [jW];rfl
theorem HY:∀ws:List (Str × List Fr),gU (ws.map wD)=true
 | []=>rfl
 | w::ws=>by show (fV (wD w)&&gU (ws.map wD))=true;rw [IC w,HY ws];rfl
theorem nR(fs:List Str)(ws:List (Str × List Fr)):fV (qN fs ws)=true:=by
 show (fV (.tuple (fs.map .str))&&(fV (.tuple (ws.map wD))&&true))=true;rw [show fV (.tuple (fs.map PyData.str))=gU (fs.map PyData.str) from rfl,yU,show fV (.tuple (ws.map wD))=gU (ws.map wD) from rfl,HY];rfl
theorem AD{H:Hp}:∀fs:List Str,aW H (fs.map PyData.str) (fs.map V.str)
 | []=>aW.nil
 | f::fs=>aW.cons (cC.str f) (AD fs)
theorem nI{H:Hp}{ds:List PyData}{v:V}(h:cC H (.tuple ds) v):∃a xs,v=.ref a/\H a=some (.tup xs)/\aW H ds xs:=by unfold cC at h;exact h
theorem xZ{H:Hp}{d e:PyData}{xs:List V}(h:aW H [d,e] xs):∃x y,xs=[x,y]/\cC H d x/\cC H e y:=by
 unfold aW aW aW at h;obtain ⟨x,_,rfl,h1,y,_,rfl,h2,rfl⟩:=h;exact ⟨x,y,rfl,h1,h2⟩
theorem eW{α:Type}{H:Hp}{g:α->PyData}{fs:List α}{vs:List V}(h:aW H (fs.map g) vs){i:Nat}{v:V}(e:vs[i]?=some v):∃f,fs[i]?=some f/\cC H (g f) v:=by
 obtain ⟨d,h1,h2⟩:=h.get e;rw [aM] at h1;cases q:fs[i]? with
 | none=>rw [q] at h1;cases h1
 | some f=>rw [q] at h1;cases h1;exact ⟨f,rfl,h2⟩
theorem eI{α:Type}{H:Hp}{g:α->PyData}{fs:List α}{vs:List V}(h:aW H (fs.map g) vs){i:Nat}{f:α}(e:fs[i]?=some f):∃v,vs[i]?=some v/\cC H (g f) v :=
 h.get' (by rw [aM,e];rfl)
theorem eJ{α:Type}{H:Hp}{g:α->PyData}{fs:List α}{vs:List V}(h:aW H (fs.map g) vs):vs.length=fs.length:=by rw [h.len,aA]
theorem eN{α:Type}{l:List α}{i:Nat}{x:α}(h:l[i]?=some x):l.take (i+1)=l.take i++[x]:=by
 rw [gK,h];rfl
structure TrC(F W:Nat)(fs:List Str)(ws:List (Str × List Fr)):Prop where
 f:fs.length=F
 w:ws.length=W
 sh:∀x∈ws,CO F x.2
 nf:∀s∈fs,(reprText s).length<=20
 nw:∀x∈ws,(reprText x.1).length<=20
theorem WI:∀s∈(["a","ab","b","abc","faced","ways","z","bb"]:List Str),(reprText s).length<=20:=Kk
@[irreducible] def nV:Sp:=λvs H Q _=>∃(p L:Addr) (n F W:Nat),vs=[.ref p,.int (F:Int),.int (W:Int)]/\dH H p L (n+64)/\2<=F/\F<=4/\2<=W/\W<=4/\∀v fs ws H',dH H' p L n->aQ p H H'->cC H' (qN fs ws) v->TrC F W fs ws->Q v H'
theorem DG(T:dH H p L (n+64))(h1:2<=F)(h2:F<=4)(h3:2<=W)(h4:W<=4)(k:∀v fs ws H',dH H' p L n->aQ p H H'->cC H' (qN fs ws) v->TrC F W fs ws->Q v H'):nV [.ref p,.int (F:Int),.int (W:Int)] H Q E:=by
 unfold nV;exact ⟨p,L,n,F,W,rfl,T,h1,h2,h3,h4,k⟩
theorem XR{α:Type}{xs:List α}{x:Int}(h:xs.length=8):∃v,yI xs (x % 8)=some v/\v∈xs:=by
 obtain ⟨v,h1,h2,_⟩:=XS (xs:=xs) (x:=x % 8) (Int.emod_nonneg _ Dd) (by have:=Int.emod_lt_of_pos x (b:=8) Dd;omega);exact ⟨v,h1,h2⟩
theorem TH{P:Str->Prop}{ys:List V}(h:∀(i:Nat) (y:V),ys[i]?=some y->∃s,y=.str s/\P s):∃ts:List Str,ys=ts.map V.str/\∀t∈ts,P t:=by
 induction ys with
 | nil=>exact ⟨[],rfl,λt h=>by cases h⟩
 | cons y ys ih =>
  obtain ⟨s,rfl,hs⟩:=h 0 y rfl;obtain ⟨ts,rfl,hts⟩:=ih λi z hz=>h (i+1) z (by simpa using hz);refine ⟨s::ts,rfl,λt ht=>?_⟩;rcases bC.mp ht with rfl | ht
  ·exact hs
  ·exact hts t ht
section
theorem aDf(F:jT K "_law_trial" "_law_trial" KW f fd)(T:lB K mg c)
  (FQ5:gM dP P w K mg base 1 "_law_draw" ["_law_feed_here","_law_many"] lG) (FQ15:gM dP P w K mg base 2 "_law_shares" ["_law_feed_here","_law_many"] lU):dY P w K mg base dP 3 f fd ["_law_feed_here","_law_faces","_law_ways"] nV:=by
 refine F.oky RT λvs H Q E h=>?_;unfold nV at h;obtain ⟨p,L,n,F,W,rfl,T0,f2,f4,w2,w4,k⟩:=h;refine ⟨rfl,λcdv A outer s hr=>?_⟩;refine ⟨_,(aH (bK (i:=3) RT.nd rfl (Or.inr rfl) (iI (aJ hJ (aJ hJ (aJ hJ (aJ hJ (aJ hJ (aJ hJ (aJ hJ (aJ hJ aE))))))))))
  (aH (bK (i:=4) RT.nd rfl (Or.inr rfl) (bS FQ5 (hr.mono Dd) (aJ (aD 0) (aJ aL aE))))
  (aH (bK (i:=5) RT.nd rfl (Or.inl rfl) (nB eV (by rfl) T.b_tuple Kk (aJ (fR (dI.of (psc:=aX KW) (N:=["_law_feed_here","_law_faces","_law_ways","_law_names","_law_start","_law_told"]) (N':=["_law_k","_law_names","_law_start"]) (js:=[3,4]) Kk rfl rfl rfl) (cP rfl T.b_range (aJ (aD 1) aE)) (λ_ _ _ _=>dR) (λ_ _ _ _=>(bT (iS K) (aD 1) (bQ mR (bQ dQ (aD 2) (bQ dO aL (aD 0))) aL) (λ_ _=>rfl)))) aE)))
  (aH (bK (i:=4) RT.nd rfl (Or.inr rfl) (bS FQ5 (hr.mono Dd) (aJ (aD 0) (aJ aL aE))))
  (bD (cI (dS (aJ (aD 5) (aJ (nB eV (by rfl) T.b_tuple Kk (aJ (fR (dI.of (psc:=aX KW) (N:=["_law_feed_here","_law_faces","_law_ways","_law_names","_law_start","_law_told"]) (N':=["_law_k","_law_feed_here","_law_faces","_law_names","_law_start"]) (js:=[0,1,3,4]) Kk rfl rfl rfl) (cP rfl T.b_range (aJ (aD 2) aE)) (λ_ _ _ _=>dR) (λ_ _ _ _=>(dS (aJ (bT (iS K) (aD 3) (bQ mR (bQ dQ (aD 4) (bQ dO aL (aD 0))) aL) (λ_ _=>rfl)) (aJ (bS FQ15 (hr.mono Dd) (aJ (aD 1) (aJ (aD 2) aE))) aE))))) aE)) aE))))))))),?_⟩
 refine DY (by show 8<=64;decide) λN1 H1 hN e1 s1=>?_;have e1':H1 N1=some (.lst ((["a","ab","b","abc","faced","ways","z","bb"]:List Str).map V.str)):=e1;have nN:N1≠p:=T0.ne hN;refine ⟨_,rfl,?_⟩;refine dN (n:=n+63) (T0.same s1) Dd Kk λx2 H2 a2 b2 T2 s2=>?_;have e2:=s2.at nN e1';have hpick:∀x:Int,∃t:Str,(reprText t).length<=20/\yI ((["a","ab","b","abc","faced","ways","z","bb"]:List Str).map V.str) (x % 8)=some (V.str t):=λx=>by
  obtain ⟨v,h1,h2⟩:=XR (xs:=(["a","ab","b","abc","faced","ways","z","bb"]:List Str).map V.str) (x:=x) rfl;obtain ⟨t,ht,rfl⟩:=aV.mp h2;exact ⟨t,WI t (by assumption),h1⟩
 refine ⟨_,rfl,_,rfl,Oo,Oo,?_⟩;refine gW (λi y H'=>∃s,y=.str s/\(reprText s).length<=20) (λ_ _ _ _ _ h=>h) Oo (λi H' Q' hi s' k'=>?_) (λD ys H3 hD hD3 s3 hy hr3=>?_)
 ·refine ⟨_,rfl,_,rfl,_,rfl,_,_,rfl,rfl,IntMulOk.of_left Kk,_,_,rfl,rfl,_,_,rfl,rfl,(by show (0:Int)<8;decide),?_⟩;obtain ⟨t,ht20,ht⟩:=hpick (x2+3*(0+(i:Nat)));refine FO (s' _ _ e2) ht ?_;exact k' _ H' (aY.refl _) ⟨t,rfl,ht20⟩
 ·obtain ⟨ts,rfl,hts⟩:=TH hr3;rw [aA] at hy;refine ⟨D,_,rfl,.inl ⟨fN.of hD3,λl hl=>?_⟩⟩;have s4:=aY.upd (o:=.tup (ts.map V.str)) hl;have e4:(upd H3 l (.tup (ts.map V.str))) l=some (.tup (ts.map V.str)):=bM;generalize upd H3 l (.tup (ts.map V.str))=H4 at s4 e4;have S4:=s3.trans s4;have T4:=T2.same S4;have B4:aQ p H H4:=(s1.but.trans s2).trans S4.but;refine ⟨_,rfl,?_⟩;refine dN (n:=n+62) T4 Dd Kk λx5 H5 a5 b5 T5 s5=>?_;have e5:=s5.at nN (S4 _ _ e2);have el5:=T4.t s5 _ _ e4;have B5:=B4.trans s5;refine ⟨_,rfl,_,rfl,_,rfl,Oo,Oo,?_⟩;refine tN (dH.like (p:=p) (L:=L) λi=>n+62-12*i) T5 (λi y H'=>∃x:Str × List Fr,cC H' (wD x) y/\CO F x.2/\(reprText x.1).length<=20) (λi y Ha Hb s ⟨x,h1,h2⟩=>⟨x,h1.flat s (IC x),h2⟩) Oo (λi H' Q' hi F' s' k'=>?_) (λD6 zs H6 hD6 e6 T6 s6 hz hr6=>?_)
  ·refine ⟨_,rfl,_,rfl,_,rfl,_,_,rfl,rfl,IntMulOk.of_left Kk,_,_,rfl,rfl,_,_,rfl,rfl,(by show (0:Int)<8;decide),?_⟩;obtain ⟨t,ht20,ht⟩:=hpick (x5+5*(0+(i:Nat)));refine FO (s'.at nN e5) ht ?_;refine ⟨_,rfl,_,rfl,?_⟩;refine vH (n:=n+62-12*(i+1)) (F'.less Oo) Oo Oo λv fs H7 T7 s7 r7 sh7=>?_;refine pY (by show 2<=64;decide) λq8 H8 hq8 e8 s8=>?_;exact k' _ H8 (T7.same s8) (s7.trans s8.but) ⟨(t,fs),cC.tup e8 (aW.cons (cC.str _) (aW.cons (r7.same s8) aW.nil)),sh7,ht20⟩
  ·obtain ⟨ws,lw6,r6,sh6⟩:∃ws:List (Str × List Fr),ws.length=zs.length/\aW H6 (ws.map wD) zs/\∀x∈ws,CO F x.2/\(reprText x.1).length<=20:=by
    clear e6 hz
    induction zs with
    | nil=>exact ⟨[],rfl,aW.nil,λx h=>by cases h⟩
    | cons z zs ih =>
     obtain ⟨x,h1,h2⟩:=hr6 0 z rfl;obtain ⟨ws,g1,g2,g3⟩:=ih λi y hy=>hr6 (i+1) y (by simpa using hy);refine ⟨x::ws,by rw [bU,bU,g1],aW.cons h1 g2,λy hy=>?_⟩;rcases bC.mp hy with rfl | hy
     ·exact h2
     ·exact g3 y hy
   refine ⟨D6,_,rfl,.inl ⟨fN.of e6,λl7 hl7=>?_⟩⟩;have s7:=aY.upd (o:=.tup zs) hl7;have e7:(upd H6 l7 (.tup zs)) l7=some (.tup zs):=bM;generalize upd H6 l7 (.tup zs)=H7 at s7 e7;refine pY (by show 2<=64;decide) λq8 H8 hq8 e8 s8=>?_;have el8:=s8 _ _ (s7 _ _ (T5.t s6 _ _ el5));refine k _ ts ws H8 (((T6.same s7).same s8).less Oo) ((B5.trans s6).trans (s7.trans s8).but) ?_ ⟨Oo,Oo,λx hx=>(sh6 x hx).1,hts,λx hx=>(sh6 x hx).2⟩;refine cC.tup e8 (aW.cons (cC.tup el8 (AD ts)) (aW.cons (cC.tup (s8 _ _ e7) ((r6.same s7).same s8)) aW.nil))
end
abbrev lM(M:Nat)(bs mix cs:List Fr):PyData:=.tuple [.int (M:Int),pE bs,pE mix,pE cs]
theorem uX(M:Nat)(bs mix cs:List Fr):fV (lM M bs mix cs)=true:=by
 show (fV (.int (M:Int))&&(fV (pE bs)&&(fV (pE mix)&&(fV (pE cs)&&true))))=true;rw [jW,jW,jW];rfl
def FnP(N B:Nat)(f:Fr):Prop:=Fn N B f/\0<=f.1
@[irreducible] def pT:Sp:=λvs H Q _=>∃(p L:Addr) (n:Nat),vs=[.ref p]/\dH H p L (n+4)/\∀v f H',dH H' p L n->aQ p H H'->cC H' (fY f) v->FnP 27720 1 f->Q v H'
theorem GH(F:dH H p L (n+4))(k:∀v f H',dH H' p L n->aQ p H H'->cC H' (fY f) v->FnP 27720 1 f->Q v H'):pT [.ref p] H Q E:=by
 unfold pT;exact ⟨p,L,n,rfl,F,k⟩
theorem YR{n d:Int}(h:0<=n):0<=(lw n d).1:=Int.ediv_nonneg h (Int.natCast_nonneg _)
theorem smallz{d:Int}(h:d.natAbs<1024):d.natAbs<2^9000:=aO (show d.natAbs<2^10 from h) (aP Dd Dd)
section
theorem oQ3(F:jT K "_law_bound" "_law_bound" sQ3 f fd)(T:lB K mg c)
  (FQ5:gM dP P w K mg base 1 "_law_draw" ["_law_feed_here","_law_many"] lG) (FQ7:gM dP P w K mg base 1 "_law_frac" ["_law_n","_law_d"] jC):dY P w K mg base dP 2 f fd ["_law_feed_here"] pT:=by
 refine F.oky cQ3 λvs H Q E h=>?_;unfold pT at h;obtain ⟨p,L,n,rfl,F,k⟩:=h;refine ⟨rfl,λcdv A outer s hr=>?_⟩;refine ⟨_,(aH (bK (i:=1) cQ3.nd rfl (Or.inl rfl) (bQ dQ aL (bS FQ5 (hr.mono Dd) (aJ (aD 0) (aJ aL aE)))))
  (aH (bK (i:=2) cQ3.nd rfl (Or.inl rfl) (bT bL (iI (aJ (bS FQ5 (hr.mono Dd) (aJ (aD 0) (aJ (bQ dQ (aD 1) aL) aE))) (aJ (bQ fO (bS FQ5 (hr.mono Dd) (aJ (aD 0) (aJ (bQ dQ (aD 1) aL) aE))) aL) (aJ aL aE)))) (bS FQ5 (hr.mono Dd) (aJ (aD 0) (aJ aL aE))) (λ_ _=>rfl)))
  (bD (cI (bS FQ7 (hr.mono Dd) (aJ (aD 2) (aJ (aD 1) aE))))))),?_⟩
 refine ⟨_,rfl,?_⟩;refine dN (n:=n+3) F Dd Kk λx1 H1 a1 b1 F1 s1=>?_;refine ⟨_,_,rfl,rfl,?_⟩;have bW:bits (1+x1+1)<=64:=bitsle (bA (show (1+x1+1).natAbs<=13 by omega) Dd);refine ⟨_,rfl,_,rfl,_,_,rfl,rfl,?_⟩;refine dN (n:=n+2) F1 Oo bW λx2 H2 a2 b2 F2 s2=>?_;refine ⟨_,rfl,_,rfl,_,_,rfl,rfl,?_⟩;refine dN (n:=n+1) F2 Oo bW λx3 H3 a3 b3 F3 s3=>?_;refine ⟨_,_,rfl,rfl,⟨Dd,Kk⟩,?_⟩;refine DY (by show 3<=64;decide) λq4 H4 hq4 e4 s4=>?_;refine ⟨_,rfl,?_⟩;refine dN (n:=n) (F3.same s4) Dd Kk λx5 H5 a5 b5 F5 s5=>?_;have hW:∃y:Int,yI [V.int x2,V.int (x3/2),V.int 0] x5=some (.int y)/\0<=y/\y<=1+x1:=by
  have:x5=0\/x5=1\/x5=2:=Oo;rcases this with rfl | rfl | rfl
  ·exact ⟨_,rfl,Oo,Oo⟩
  ·exact ⟨_,rfl,Oo,Oo⟩
  ·exact ⟨_,rfl,Oo,Oo⟩
 obtain ⟨y,hat,y0,y1⟩:=hW;refine FO (s5.at (F3.ne hq4) e4) hat ?_;refine ⟨_,rfl,_,rfl,?_⟩;refine iL Oo (smallz Oo) ?_;intro q6 H6 hq6 e6 s6;have hd:(1+x1).natAbs ∣ 27720:=by
  have:∀z:Nat,z<=12->1<=z->z ∣ 27720:=Dd;exact this _ Oo Oo
 exact k _ _ H6 (F5.same s6) (((((s1.trans s2).trans s3).trans s4.but).trans s5).trans s6.but) (dE e6) ⟨(Fn.of Oo Oo).dvd hd,YR y0⟩
end
theorem BV{H:Hp}{P:Fr->Prop}:∀{ys:List V},(∀(i:Nat) (y:V),ys[i]?=some y->∃f,cC H (fY f) y/\P f)->∃fs:List Fr,fs.length=ys.length/\aW H (fs.map fY) ys/\∀f∈fs,P f
 | [],_=>⟨[],rfl,aW.nil,λf h=>by cases h⟩
 | y::ys,h=>by
  obtain ⟨f,h1,h2⟩:=h 0 y rfl;obtain ⟨fs,g1,g2,g3⟩:=BV (ys:=ys) λi z hz=>h (i+1) z (by simpa using hz);refine ⟨f::fs,by rw [bU,bU,g1],aW.cons h1 g2,λy hy=>?_⟩;rcases bC.mp hy with rfl | hy
  ·exact h2
  ·exact g3 y hy
@[irreducible] def qS:Sp:=λvs H Q _=>∃(p L:Addr) (n:Nat),vs=[.ref p]/\dH H p L (n+3)/\∀v f H',dH H' p L n->aQ p H H'->cC H' (fY f) v->CU f->Q v H'
theorem yV(F:dH H p L (n+3))(k:∀v f H',dH H' p L n->aQ p H H'->cC H' (fY f) v->CU f->Q v H'):qS [.ref p] H Q E:=by
 unfold qS;exact ⟨p,L,n,rfl,F,k⟩
theorem QD{n d:Int}(n0:0<=n)(n1:n<=999)(d0:0<d)(d1:d<=999):CU (lw n d):=by
 have h:=iW (n:=n) d0;have q:=IW (n:=n) d0;have a:=YR (n:=n) (d:=d) n0;exact ⟨h,a,Oo,Oo⟩
@[irreducible] def sN:Sp:=λvs H Q _=>∃(p L:Addr) (n W M:Nat),vs=[.ref p,.int (W:Int),.int (M:Int)]/\dH H p L (n+64)/\1<=W/\W<=4/\M<=6/\∀v bs mix cs H',dH H' p L n->aQ p H H'->cC H' (lM M bs mix cs) v->bs.length=W->(∀f∈bs,FnP 27720 1 f)->CO W mix->cs.length=M->(∀f∈cs,CU f)->Q v H'
theorem KL(T:dH H p L (n+64))(h1:1<=W)(h2:W<=4)(h3:M<=6)(k:∀v bs mix cs H',dH H' p L n->aQ p H H'->cC H' (lM M bs mix cs) v->bs.length=W->(∀f∈bs,FnP 27720 1 f)->CO W mix->cs.length=M->(∀f∈cs,CU f)->Q v H'):sN [.ref p,.int (W:Int),.int (M:Int)] H Q E:=by
 unfold sN;exact ⟨p,L,n,W,M,rfl,T,h1,h2,h3,k⟩
section
theorem aDj(F:jT K "_law_some" "_law_some" UO f fd)(T:lB K mg c)
  (FQ5:gM dP P w K mg base 1 "_law_draw" ["_law_feed_here","_law_many"] lG) (FQ7:gM dP P w K mg base 1 "_law_frac" ["_law_n","_law_d"] jC):dY P w K mg base dP 2 f fd ["_law_feed_here"] qS:=by
 refine F.oky aCf λvs H Q E h=>?_;unfold qS at h;obtain ⟨p,L,n,rfl,F,k⟩:=h;refine ⟨rfl,λcdv A outer s hr=>?_⟩;refine ⟨_,(aH (bK (i:=1) aCf.nd rfl (Or.inl rfl) (bS FQ5 (hr.mono Dd) (aJ (aD 0) (aJ aL aE))))
  (aH (kE (eQ vJ (aD 1) aL (nomark _)) (bD (cI (dS (aJ aL (aJ aL aE))))) gC)
  (aH (kE (eQ vJ (aD 1) aL (nomark _)) (bD (cI (bS FQ7 (hr.mono Dd) (aJ (bQ dQ aL (bS FQ5 (hr.mono Dd) (aJ (aD 0) (aJ aL aE)))) (aJ (bQ dQ aL (bS FQ5 (hr.mono Dd) (aJ (aD 0) (aJ aL aE)))) aE))))) gC)
  (bD (cI (bS FQ7 (hr.mono Dd) (aJ (bQ dQ aL (bS FQ5 (hr.mono Dd) (aJ (aD 0) (aJ aL aE)))) (aJ (bQ dQ aL (bS FQ5 (hr.mono Dd) (aJ (aD 0) (aJ aL aE)))) aE)))))))),?_⟩
 refine ⟨_,rfl,?_⟩;refine dN (n:=n+2) F Dd Kk λx1 H1 a1 b1 F1 s1=>?_;refine ⟨_,rfl,rfl,_,rfl,?_⟩;refine uQ (λe=>?_) (λe=>?_)
 ·refine pY (by show 2<=64;decide) λq2 H2 hq2 e2 s2=>?_;exact k _ (0,1) H2 ((F1.same s2).less Oo) (s1.trans s2.but) (dE e2) ⟨WL,Dd,Dd,Dd⟩
 refine ⟨_,rfl,rfl,_,rfl,?_⟩;refine uQ (λe=>?_) (λe=>?_)
 ·refine ⟨_,rfl,?_⟩;refine dN (n:=n+1) F1 Dd Kk λx2 H2 a2 b2 F2 s2=>?_;refine ⟨_,_,rfl,rfl,_,rfl,?_⟩;refine dN (n:=n) F2 Dd Kk λx3 H3 a3 b3 F3 s3=>?_;refine ⟨_,_,rfl,rfl,?_⟩;refine iL Oo (smallz Oo) ?_;intro q4 H4 hq4 e4 s4;exact k _ _ H4 (F3.same s4) (((s1.trans s2).trans s3).trans s4.but) (dE e4) (QD Oo Oo Oo Oo)
 ·refine ⟨_,rfl,?_⟩;refine dN (n:=n+1) F1 Dd Kk λx2 H2 a2 b2 F2 s2=>?_;refine ⟨_,_,rfl,rfl,_,rfl,?_⟩;refine dN (n:=n) F2 Dd Kk λx3 H3 a3 b3 F3 s3=>?_;refine ⟨_,_,rfl,rfl,?_⟩;refine iL Oo (smallz Oo) ?_;intro q4 H4 hq4 e4 s4;exact k _ _ H4 (F3.same s4) (((s1.trans s2).trans s3).trans s4.but) (dE e4) (QD Oo Oo Oo Oo)
theorem oQ1(F:jT K "_law_aim" "_law_aim" sQ1 f fd)(T:lB K mg c)
  (FQ3:gM dP P w K mg base 2 "_law_bound" ["_law_feed_here"] pT) (FQ15:gM dP P w K mg base 2 "_law_shares" ["_law_feed_here","_law_many"] lU) (FQ16:gM dP P w K mg base 2 "_law_some" ["_law_feed_here"] qS):dY P w K mg base dP 3 f fd ["_law_feed_here","_law_ways","_law_most"] sN:=by
 refine F.oky cQ1 λvs H Q E h=>?_;unfold sN at h;obtain ⟨p,L,n,W,M,rfl,T0,w1,w4,m6,k⟩:=h;refine ⟨rfl,λcdv A outer s hr=>?_⟩;refine ⟨_,(aH (bK (i:=3) cQ1.nd rfl (Or.inl rfl) (nB eV (by rfl) T.b_tuple Kk (aJ (fR (dI.of (psc:=aX sQ1) (N:=["_law_feed_here","_law_ways","_law_most","_law_bounds","_law_mix"]) (N':=["_law_k","_law_feed_here"]) (js:=[0]) Kk rfl rfl rfl) (cP rfl T.b_range (aJ (aD 1) aE)) (λ_ _ _ _=>dR) (λ_ _ _ _=>(bS FQ3 (hr.mono Dd) (aJ (aD 1) aE)))) aE)))
  (aH (bK (i:=4) cQ1.nd rfl (Or.inl rfl) (bS FQ15 (hr.mono Dd) (aJ (aD 0) (aJ (aD 1) aE))))
  (bD (cI (dS (aJ (aD 2) (aJ (aD 3) (aJ (aD 4) (aJ (nB eV (by rfl) T.b_tuple Kk (aJ (fR (dI.of (psc:=aX sQ1) (N:=["_law_feed_here","_law_ways","_law_most","_law_bounds","_law_mix"]) (N':=["_law_k","_law_feed_here"]) (js:=[0]) Kk rfl rfl rfl) (cP rfl T.b_range (aJ (aD 2) aE)) (λ_ _ _ _=>dR) (λ_ _ _ _=>(bS FQ16 (hr.mono Dd) (aJ (aD 1) aE)))) aE)) aE))))))))),?_⟩
 refine ⟨_,rfl,_,rfl,Oo,Oo,?_⟩;refine tN (dH.like (p:=p) (L:=L) λi=>n+64-4*i) T0 (λi y H'=>∃f:Fr,cC H' (fY f) y/\FnP 27720 1 f) (λi y Ha Hb s ⟨x,h1,h2⟩=>⟨x,h1.flat s (cQ x),h2⟩) Oo (λi H' Q' hi F' s' k'=>?_) (λD ys H1 hD e1 T1 s1 hy hr1=>?_)
 ·refine ⟨_,rfl,?_⟩;refine GH (n:=n+64-4*(i+1)) (F'.less Oo) λv f H2 T2 s2 r2 f2=>?_;exact k' _ H2 T2 s2 ⟨f,r2,f2⟩
 ·obtain ⟨bs,lb,rb,fb⟩:=BV hr1;refine ⟨D,_,rfl,.inl ⟨fN.of e1,λl hl=>?_⟩⟩;have s2:=aY.upd (o:=.tup ys) hl;have e2:(upd H1 l (.tup ys)) l=some (.tup ys):=bM;generalize upd H1 l (.tup ys)=H2 at s2 e2;have T2:=T1.same s2;have r2:cC H2 (pE bs) (.ref l):=cC.tup e2 (rb.same s2);refine ⟨_,rfl,_,rfl,?_⟩;refine vH (n:=n+30) (T2.less Oo) Oo Oo λv3 mix H3 T3 s3 r3 sh3=>?_;have r2':=r2.flat (T2.t s3) (jW _);have B3:aQ p H H3:=(s1.trans s2.but).trans s3;have lb':bs.length=W:=Oo;clear e1 hr1 rb hy s1 s2 e2 T1 r2;refine ⟨_,rfl,_,rfl,_,rfl,_,rfl,_,rfl,Oo,Oo,?_⟩;refine tN (dH.like (p:=p) (L:=L) λi=>n+30-3*i) T3 (λi y H'=>∃f:Fr,cC H' (fY f) y/\CU f) (λi y Ha Hb s ⟨x,h1,h2⟩=>⟨x,h1.flat s (cQ x),h2⟩) Oo (λi H' Q' hi F' s' k'=>?_) (λD zs H4 hD e4 T4 s4 hz hr4=>?_)
  ·refine ⟨_,rfl,?_⟩;refine yV (n:=n+30-3*(i+1)) (F'.less Oo) λv f H2 T2 s2 r2 f2=>?_;exact k' _ H2 T2 s2 ⟨f,r2,f2⟩
  ·obtain ⟨cs,lc,rc,fc⟩:=BV hr4;refine ⟨D,_,rfl,.inl ⟨fN.of e4,λl5 hl5=>?_⟩⟩;have s5:=aY.upd (o:=.tup zs) hl5;have e5:(upd H4 l5 (.tup zs)) l5=some (.tup zs):=bM;generalize upd H4 l5 (.tup zs)=H5 at s5 e5;refine pY (by show 4<=64;decide) λq6 H6 hq6 e6 s6=>?_;have S:=s5.trans s6;have t:=T3.t s4;refine k _ bs mix cs H6 ((T4.same S).less Oo) ((B3.trans s4).trans S.but) ?_ lb' fb sh3 Oo fc;exact cC.tup e6 (aW.cons (cC.int _) (aW.cons ((r2'.flat t (jW _)).same S) (aW.cons ((r3.flat t (jW _)).same S) (aW.cons (cC.tup (s6 _ _ e5) (rc.same S)) aW.nil))))
end
abbrev UI:Stmt:=(top 1)
theorem MF:cA ["number","above_nought","divided","divisor","rest"] ["number","above_nought"] (aX UI):=⟨rfl,rfl,rfl,Kk,rfl,Kk,Kk⟩
abbrev UA:Stmt:=(top 3)
theorem ME:cA ["one","other","common","one_part","other_part","upper","left"] ["one","other"] (aX UA):=⟨rfl,rfl,rfl,Kk,rfl,Kk,Kk⟩
abbrev TY:Stmt:=(top 4)
theorem aAU:cA ["one","other","first","second"] ["one","other"] (aX TY):=⟨rfl,rfl,rfl,Kk,rfl,Kk,Kk⟩
abbrev TW:Stmt:=(top 5)
theorem XE:cA ["some","whole","one"] ["some"] (aX TW):=⟨rfl,rfl,rfl,Kk,rfl,Kk,Kk⟩
abbrev UE:Stmt:=(top 9)
theorem aDG:cA ["trial"] ["trial"] (aX UE):=⟨rfl,rfl,rfl,Kk,rfl,Kk,Kk⟩
abbrev TU:Stmt:=(top 10)
theorem aDy:cA ["trial"] ["trial"] (aX TU):=⟨rfl,rfl,rfl,Kk,rfl,Kk,Kk⟩
abbrev TV:Stmt:=(top 11)
theorem aDz:cA ["trial","way"] ["trial","way"] (aX TV):=⟨rfl,rfl,rfl,Kk,rfl,Kk,Kk⟩
abbrev TR:Stmt:=(top 13)
theorem RP:cA ["trial","way","counts","product","share","count"] ["trial","way","counts"] (aX TR):=⟨rfl,rfl,rfl,Kk,rfl,Kk,Kk⟩
abbrev TZ:Stmt:=(top 14)
theorem MD:cA ["share","count","upper","lower","step"] ["share","count"] (aX TZ):=⟨rfl,rfl,rfl,Kk,rfl,Kk,Kk⟩
abbrev UJ:Stmt:=(top 15)
theorem aAV:cA ["faces","most","found","many"] ["faces","most"] (aX UJ):=⟨rfl,rfl,rfl,Kk,rfl,Kk,Kk⟩
abbrev KS:Stmt:=(top 16)
theorem XI:cA ["faces","many","found","first"] ["faces","many"] (aX KS):=⟨rfl,rfl,rfl,Kk,rfl,Kk,Kk⟩
abbrev UB:Stmt:=(top 18)
theorem aDD:cA ["counts","face"] ["counts","face"] (aX UB):=⟨rfl,rfl,rfl,Kk,rfl,Kk,Kk⟩
abbrev OG:Stmt:=(top 19)
theorem aDC:cA ["counts"] ["counts"] (aX OG):=⟨rfl,rfl,rfl,Kk,rfl,Kk,Kk⟩
@[irreducible] def mE(K:PySem.W.Frag):Sp:=λvs H Q _=>∃x y f g,vs=[x,y]/\gR K H f x/\gR K H g y/\dA f/\dA g/\mZ 4000 f/\mZ 4000 g/\tX H Q (iV f g)
theorem oP{K:PySem.W.Frag}(h1:gR K H f x)(h2:gR K H g y)(l1:dA f)(l2:dA g)(z1:mZ 4000 f)(z2:mZ 4000 g)(q:tX H Q (iV f g)):mE K [x,y] H Q E:=by unfold mE;exact ⟨x,y,f,g,rfl,h1,h2,l1,l2,z1,z2,q⟩
def GW(f:Fr):Fr:=(-f.1,f.2)
theorem EA{f:Fr}(h:dA f):dA (GW f):=⟨h.pos,by show Int.gcd (-f.1) f.2=1;rw [Int.neg_gcd];exact h.low⟩
@[irreducible] def pO(K:PySem.W.Frag):Sp:=λvs H Q _=>∃x y f g,vs=[x,y]/\gR K H f x/\gR K H g y/\dA f/\dA g/\mZ 4000 f/\mZ 4000 g/\tX H Q (qJ f (GW g))
theorem GD{K:PySem.W.Frag}(h1:gR K H f x)(h2:gR K H g y)(l1:dA f)(l2:dA g)(z1:mZ 4000 f)(z2:mZ 4000 g)(q:tX H Q (qJ f (GW g))):pO K [x,y] H Q E:=by unfold pO;exact ⟨x,y,f,g,rfl,h1,h2,l1,l2,z1,z2,q⟩
section
theorem aC9(F:jT K "common_divisor" "common_divisor" UI f fd)(T:lB K mg c):dY P w K mg base dP 1 f fd ["number","above_nought"] wV:=by
 refine F.oky MF λvs H Q E h=>?_;unfold wV at h;obtain ⟨n,d,rfl,hd,q⟩:=h;refine ⟨rfl,λcdv A outer s hr=>?_⟩;refine ⟨_,(aH (bK (i:=2) MF.nd rfl (Or.inl rfl) (aD 0))
  (aH (bK (i:=3) MF.nd rfl (Or.inl rfl) (aD 1))
  (aH (rZ PassesOwn.never (eQ DX (aD 3) aL (nomark _)) (aH (bK (i:=4) MF.nd rfl (Or.inl rfl) (bQ mR (aD 2) (aD 3)))
  (aH (bK (i:=2) MF.nd rfl (Or.inl rfl) (aD 3))
  (bD (bK (i:=3) MF.nd rfl (Or.inl rfl) (aD 4))))))
  (bD (cI (aD 2)))))),?_⟩
 refine ⟨_,rfl,_,rfl,?_⟩;refine vV (λm σ H'=>∃(a b:Int) (c:Option V),σ=[some (.int n),some (.int d),some (.int a),some (.int b),c]/\0<=b/\Int.gcd a b=Int.gcd n d/\(b=0->0<a)/\H'=H/\m=b.toNat)
  (λσ H'=>∃(c:Option V),σ=[some (.int n),some (.int d),some (.int (Int.gcd n d)),some (.int 0),c]/\H'=H)
  _ ⟨n,d,none,rfl,Oo,rfl,Oo,rfl,rfl⟩ ?_ ?_
 ·rintro m σ H2 ⟨a,b,c,rfl,hb,hg,h0,rfl,rfl⟩;refine ⟨_,rfl,rfl,_,rfl,?_⟩;refine aB3 (λe=>?_) (λe=>?_)
  ·have hb':0<b:=by
    rcases Int.lt_or_eq_of_le hb with h | h
    ·exact h
    ·exact absurd (congrArg V.int h.symm) e
   refine ⟨_,rfl,_,rfl,_,_,rfl,rfl,hb',_,rfl,_,rfl,?_⟩;have e1:=Int.emod_lt_of_pos a hb';have e2:=Int.emod_nonneg a (b:=b) Oo;exact ⟨_,Oo,b,a % b,_,rfl,e2,by rw [EN,hg],λ_=>hb',rfl,rfl⟩
  ·have hb0:b=0:=by injection e
   subst hb0;have ha:=h0 rfl;have e1:=JB ha;rw [hg] at e1;rw [e1];exact ⟨c,rfl,rfl⟩
 ·rintro σ H2 ⟨c,rfl,rfl⟩;exact ⟨_,rfl,q⟩
theorem aCV(F:jT K "plus" "plus" UA f fd)(T:lB K mg c)
  (FQ26:gM dP P w K mg base 1 "common_divisor" ["number","above_nought"] wV):dY P w K mg base dP 2 f fd ["one","other"] (sK K):=by
 refine F.oky ME λvs H Q E h=>?_;unfold sK at h;obtain ⟨x,y,⟨a,b⟩,⟨c,d⟩,rfl,h1,h2,l1,l2,z1,z2,q⟩:=h;refine ⟨rfl,λcdv A outer s hr=>?_⟩;obtain ⟨p1,rfl,e1⟩:=h1;obtain ⟨p2,rfl,e2⟩:=h2;have pb:0<b:=l1.pos;have pd:0<d:=l2.pos;obtain ⟨za,zb⟩:=z1;obtain ⟨zc,zd⟩:=z2;dsimp only at za zb zc zd e1 e2;have hG:=jM (n:=b) pd;have zG:=xN (n:=b) pd zd;have zb':=oN zb hG;have zd':=oN zd hG;have u1:=wQ za zd';have u2:=wQ zc zb';have hL:=jM (n:=a*(d/(Int.gcd b d:Int))+c*(b/(Int.gcd b d:Int))) hG;have zL:=xN (n:=a*(d/(Int.gcd b d:Int))+c*(b/(Int.gcd b d:Int))) hG zG;have eq:qJ (a,b) (c,d)=_:=VR l1 l2;refine ⟨_,(aH (bK (i:=2) ME.nd rfl (Or.inl rfl) (bS FQ26 (hr.mono Dd) (aJ (bT bL (aD 0) aL (λ_ _=>rfl)) (aJ (bT bL (aD 1) aL (λ_ _=>rfl)) aE))))
  (aH (bK (i:=3) ME.nd rfl (Or.inl rfl) (bQ fO (bT bL (aD 0) aL (λ_ _=>rfl)) (aD 2)))
  (aH (bK (i:=4) ME.nd rfl (Or.inl rfl) (bQ fO (bT bL (aD 1) aL (λ_ _=>rfl)) (aD 2)))
  (aH (bK (i:=5) ME.nd rfl (Or.inl rfl) (bQ dQ (bQ dO (bT bL (aD 0) aL (λ_ _=>rfl)) (aD 4)) (bQ dO (bT bL (aD 1) aL (λ_ _=>rfl)) (aD 3))))
  (aH (bK (i:=6) ME.nd rfl (Or.inl rfl) (bS FQ26 (hr.mono Dd) (aJ (aD 5) (aJ (aD 2) aE))))
  (bD (cI (dS (aJ (bQ fO (aD 5) (aD 6)) (aJ (bQ dO (aD 3) (bQ fO (bT bL (aD 1) aL (λ_ _=>rfl)) (aD 6))) aE)))))))))),?_⟩
 refine ⟨_,rfl,?_⟩;refine nG e1 rfl ?_;refine ⟨_,rfl,?_⟩;refine nG e2 rfl ?_;refine sR pd ?_;refine ⟨_,rfl,?_⟩;refine nG e1 rfl ?_;refine ⟨_,rfl,_,_,rfl,rfl,qG hG (jK zG),?_⟩;refine ⟨_,rfl,?_⟩;refine nG e2 rfl ?_;refine ⟨_,rfl,_,_,rfl,rfl,qG hG (jK zG),?_⟩;refine ⟨_,rfl,?_⟩;refine nG e1 rfl ?_;refine ⟨_,rfl,_,_,rfl,rfl,nJ za zd',?_⟩;refine ⟨_,rfl,?_⟩;refine nG e2 rfl ?_;refine ⟨_,rfl,_,_,rfl,rfl,nJ zc zb',_,_,rfl,rfl,?_⟩;refine ⟨_,rfl,_,rfl,?_⟩;refine sR hG ?_;refine ⟨_,rfl,_,rfl,_,_,rfl,rfl,qG hL (jK zL),?_⟩;refine ⟨_,rfl,_,rfl,?_⟩;refine nG e2 rfl ?_;refine ⟨_,rfl,_,_,rfl,rfl,qG hL (jK zL),_,_,rfl,rfl,nJ zb' (oN zd hL),?_⟩;refine pY (by show 2<=64;decide) λp H3 hp e3 s3=>?_;refine q p H3 hp ?_ s3;rw [eq];exact e3
theorem aCS(F:jT K "times" "times" TY f fd)(T:lB K mg c)
  (FQ26:gM dP P w K mg base 1 "common_divisor" ["number","above_nought"] wV):dY P w K mg base dP 2 f fd ["one","other"] (mE K):=by
 refine F.oky aAU λvs H Q E h=>?_;unfold mE at h;obtain ⟨x,y,⟨a,b⟩,⟨m,d⟩,rfl,h1,h2,l1,l2,⟨za,zb⟩,⟨zc,zd⟩,q⟩:=h;refine ⟨rfl,λcdv A outer s hr=>?_⟩;obtain ⟨p1,rfl,e1⟩:=h1;obtain ⟨p2,rfl,e2⟩:=h2;have pb:0<b:=l1.pos;have pd:0<d:=l2.pos;dsimp only at za zb zc zd e1 e2;have g1:=jM (n:=a) pd;have g2:=jM (n:=m) pb;have y1:=xN (n:=a) pd zd;have y2:=xN (n:=m) pb zb;have eq:iV (a,b) (m,d)=_:=NK l1 l2;refine ⟨_,(aH (bK (i:=2) aAU.nd rfl (Or.inl rfl) (bS FQ26 (hr.mono Dd) (aJ (bT bL (aD 0) aL (λ_ _=>rfl)) (aJ (bT bL (aD 1) aL (λ_ _=>rfl)) aE))))
  (aH (bK (i:=3) aAU.nd rfl (Or.inl rfl) (bS FQ26 (hr.mono Dd) (aJ (bT bL (aD 1) aL (λ_ _=>rfl)) (aJ (bT bL (aD 0) aL (λ_ _=>rfl)) aE))))
  (bD (cI (dS (aJ (bQ dO (bQ fO (bT bL (aD 0) aL (λ_ _=>rfl)) (aD 2)) (bQ fO (bT bL (aD 1) aL (λ_ _=>rfl)) (aD 3))) (aJ (bQ dO (bQ fO (bT bL (aD 0) aL (λ_ _=>rfl)) (aD 3)) (bQ fO (bT bL (aD 1) aL (λ_ _=>rfl)) (aD 2))) aE))))))),?_⟩
 refine ⟨_,rfl,?_⟩;refine nG e1 rfl ?_;refine ⟨_,rfl,?_⟩;refine nG e2 rfl ?_;refine sR pd ?_;refine ⟨_,rfl,?_⟩;refine nG e2 rfl ?_;refine ⟨_,rfl,?_⟩;refine nG e1 rfl ?_;refine sR pb ?_;refine ⟨_,rfl,?_⟩;refine nG e1 rfl ?_;refine ⟨_,rfl,_,_,rfl,rfl,qG g1 (jK y1),?_⟩;refine ⟨_,rfl,?_⟩;refine nG e2 rfl ?_;refine ⟨_,rfl,_,_,rfl,rfl,qG g2 (jK y2),_,_,rfl,rfl,nJ (oN za g1) (oN zc g2),?_⟩;refine ⟨_,rfl,?_⟩;refine nG e1 rfl ?_;refine ⟨_,rfl,_,_,rfl,rfl,qG g2 (jK y2),?_⟩;refine ⟨_,rfl,?_⟩;refine nG e2 rfl ?_;refine ⟨_,rfl,_,_,rfl,rfl,qG g1 (jK y1),_,_,rfl,rfl,nJ (oN zb g2) (oN zd g1),?_⟩;refine pY (by show 2<=64;decide) λp H3 hp e3 s3=>?_;refine q p H3 hp ?_ s3;rw [eq];exact e3
end
theorem qL{N B:Nat}{f:Fr}(h:Fn N B f)(hN:0<N)(hz:N<2^3000)(hB:B<=2^500):mZ 4000 f:=by
 obtain ⟨h1,h2⟩:=h.num hN;refine ⟨?_,bA h2 (aO hz (aP Dd Dd))⟩;have h3:B*N<=2^500*2^3000:=Nat.mul_le_mul hB (Nat.le_of_lt hz);have h4:(2:Nat)^500*2^3000<2^4000:=by rw [<-Nat.pow_add];exact Nat.pow_lt_pow_right Dd Dd
 omega
structure AC(fs:List Fr):Prop where
 low:∀f∈fs,dA f
 sz:∀f∈fs,mZ 4000 f
 part:∀i,dA (kW (fs.take i))/\mZ 4000 (kW (fs.take i))
theorem yB{N B:Nat}{fs:List Fr}(h:∀f∈fs,Fn N B f)(hN:0<N)(hz:N<2^3000)(hl:fs.length<=64)(hB:B<=2^490):AC fs:=by
 have h5:(2:Nat)^490<=2^500:=aP Dd Dd;have h6:64*(2:Nat)^490<=2^500:=by rw [show (64:Nat)=2^6 from rfl,<-Nat.pow_add];exact aP Dd Dd
 refine ⟨λf hf=>(h f hf).low,λf hf=>qL (h f hf) hN hz (aK hB h5),λi=>?_⟩;have t:=Fn.tot (fs.take i) λf hf=>h f (List.mem_of_mem_take hf);have l:(fs.take i).length<=64:=by rw [cL];omega
 have:(fs.take i).length*B<=64*2^490:=Nat.mul_le_mul l hB;exact ⟨t.low,qL t hN hz (aK this h6)⟩
structure rX(K:PySem.W.Frag)(H:Hp)(fs:List Fr)(xs:List V):Prop where
 len:xs.length=fs.length
 at_:∀(i:Nat) (x:V),xs[i]?=some x->∃f,fs[i]?=some f/\gR K H f x
theorem rX.of{K:PySem.W.Frag}{H:Hp}{fs:List Fr}{xs:List V}(r:aW H (fs.map fY) xs):rX K H fs xs:=⟨eJ r,λi x e=>by
 obtain ⟨f,h1,h2⟩:=eW r e;exact ⟨f,h1,gR.of h2⟩⟩
@[irreducible] def pJ(K:PySem.W.Frag):Sp:=λvs H Q _=>∃a xs fs,vs=[.ref a]/\H a=some (.lst xs)/\rX K H fs xs/\AC fs/\∀v H',aY H H'->cC H' (fY (kW fs)) v->Q v H'
theorem FZ{K:PySem.W.Frag}{H:Hp}{Q:VK}{E:XK}{a:Addr}{xs:List V}{fs:List Fr}(h:H a=some (.lst xs))(r:rX K H fs xs)(ok:AC fs)(q:∀v H',aY H H'->cC H' (fY (kW fs)) v->Q v H'):pJ K [.ref a] H Q E:=by unfold pJ;exact ⟨a,xs,fs,rfl,h,r,ok,q⟩
section
theorem aCQ(F:jT K "total" "total" TW f fd)(T:lB K mg c)
  (FQ40:gM dP P w K mg base 2 "plus" ["one","other"] (sK K)):dY P w K mg base dP 3 f fd ["some"] (pJ K):=by
 refine F.oky XE λvs H Q E h=>?_;unfold pJ at h;obtain ⟨a,vs,fs,rfl,ha,hv,ok,q⟩:=h;refine ⟨rfl,λcdv A outer s hr=>?_⟩;have hlen:=hv.len;refine ⟨_,(aH (bK (i:=1) XE.nd rfl (Or.inl rfl) (dS (aJ aL (aJ aL aE))))
  (aH (fF PassesOwn.never rfl (fD (aD 0)) (dF (i:=2) XE.nd rfl (Or.inl rfl)) (bD (bK (i:=1) XE.nd rfl (Or.inl rfl) (bS FQ40 (hr.mono Dd) (aJ (aD 1) (aJ (aD 2) aE))))))
  (bD (cI (aD 1))))),?_⟩
 refine pY (by show 2<=64;decide) λp0 H0 hp0 e0 s0=>?_;refine ⟨_,rfl,a,rfl,⟨_,fN.of (s0 _ _ ha)⟩,?_⟩;refine jY (xs:=vs) (λi σ H'=>∃w o2,σ=[some (.ref a),some w,o2]/\aY H H'/\cC H' (fY (kW (fs.take i))) w) ⟨_,_,rfl,s0,dE e0⟩ (λi σ H' _ p=>?_) ?_ ?_
 ·obtain ⟨w,o2,rfl,s1,_⟩:=p;exact fN.of (s1 _ _ ha)
 ·rintro i x σ H1 hx ⟨w,o2,rfl,s1,r1⟩;obtain ⟨g,hg,rg⟩:=hv.at_ i x hx;have hm:=aG hg;obtain ⟨t1,t2⟩:=ok.part i;refine ⟨_,rfl,_,rfl,?_⟩;refine KJ (gR.of r1) (gR.same s1 rg) t1 (ok.low _ hm) t2 (ok.sz _ hm) ?_;intro p2 H2 hp2 e2 s2;refine ⟨_,_,rfl,s1.trans s2,?_⟩;rw [eN hg,nS];exact dE e2
 ·rintro σ H1 ⟨w,o2,rfl,s1,r1⟩;refine ⟨_,rfl,?_⟩;rw [hlen,cR] at r1;exact q _ H1 s1 r1
end
abbrev kC(cs:List Nat):PyData:=.tuple (cs.map λ(n:Nat)=>PyData.int (n:Int))
theorem EW:∀cs:List Nat,gU (cs.map λ(n:Nat)=>PyData.int (n:Int))=true
 | []=>rfl
 | f::fs=>by show (fV (.int f)&&gU (fs.map λ(n:Nat)=>PyData.int (n:Int)))=true;rw [EW fs];rfl
theorem jZ(cs:List Nat):fV (kC cs)=true:=EW cs
def yM(K:PySem.W.Frag)(H:Hp)(f:Fr)(x:V):Prop:=cC H (fY f) x\/∃a,x=.ref a/\rV K a [f.1,f.2]=true
theorem yM.v{K:PySem.W.Frag}{H:Hp}{f:Fr}{x:V}(h:yM K H f x):gR K H f x:=by
 rcases h with h | ⟨a,e,h⟩
 ·exact gR.of h
 ·exact ⟨a,e,DE h⟩
theorem yM.t{K:PySem.W.Frag}{H H':Hp}{f:Fr}{x:V}(s:dB H H')(h:yM K H f x):yM K H' f x:=by
 rcases h with h | h
 ·exact .inl (h.flat s (cQ f))
 ·exact .inr h
theorem yM.same{K:PySem.W.Frag}{H H':Hp}{f:Fr}{x:V}(s:aY H H')(h:yM K H f x):yM K H' f x:=h.t s.t
theorem wO{H:Hp}{fs:List Str}{ws:List (Str × List Fr)}{v:V}(h:cC H (qN fs ws) v):∃a af aw xf xw,v=.ref a/\H a=some (.tup [.ref af,.ref aw])/\H af=some (.tup xf)/\H aw=some (.tup xw)/\aW H (fs.map .str) xf/\aW H (ws.map wD) xw:=by
 obtain ⟨a,xs,rfl,ha,hr⟩:=nI h;obtain ⟨x,y,rfl,hx,hy⟩:=xZ hr;obtain ⟨af,xf,rfl,h1,h2⟩:=nI hx;obtain ⟨aw,xw,rfl,h3,h4⟩:=nI hy;exact ⟨a,af,aw,xf,xw,rfl,ha,h1,h3,h2,h4⟩
@[irreducible] def lS:Sp:=λvs H Q _=>∃v fs ws,vs=[v]/\cC H (qN fs ws) v/\Q (.int (ws.length:Nat)) H
theorem vF(h:cC H (qN fs ws) v)(q:Q (.int (ws.length:Nat)) H):lS [v] H Q E:=by unfold lS;exact ⟨v,fs,ws,rfl,h,q⟩
@[irreducible] def wT:Sp:=λvs H Q _=>∃v fs ws w,∃i:Nat,vs=[v,.int (i:Int)]/\cC H (qN fs ws) v/\ws[i]?=some w/\∀x,cC H (pE w.2) x->Q x H
theorem NU{H:Hp}{Q:VK}{E:XK}{v:V}{fs:List Str}{ws:List (Str × List Fr)}{w:Str × List Fr}{i:Nat}(h:cC H (qN fs ws) v)(hw:ws[i]?=some w)(q:∀x,cC H (pE w.2) x->Q x H):wT [v,.int (i:Int)] H Q E:=by unfold wT;exact ⟨v,fs,ws,w,i,rfl,h,hw,q⟩
structure BOk(B:Nat)(fs:List Fr):Prop where
 low:∀f∈fs,dA f
 up:∀f∈fs,f.1.natAbs<=2^B
 dn:∀f∈fs,f.2.natAbs<=2^B
@[irreducible] def pK(K:PySem.W.Frag):Sp:=λvs H Q _=>∃x f,∃c B:Nat,vs=[x,.int (c:Int)]/\gR K H f x/\f.1.natAbs<=2^B/\f.2.natAbs<=2^B/\B<=4000/\c<=4000/\B*c<=4000/\tX H Q (uI f c)
theorem GA{K:PySem.W.Frag}(h:gR K H f x)(h1:f.1.natAbs<=2^B)(h2:f.2.natAbs<=2^B)(h3:B<=4000)(h5:c<=4000)(h4:B*c<=4000)(q:tX H Q (uI f c)):pK K [x,.int (c:Int)] H Q E:=by unfold pK;exact ⟨x,f,c,B,rfl,h,h1,h2,h3,h5,h4,q⟩
theorem BP{x:Int}{n:Nat}(h:x.natAbs<=2^n)(hn:n<=4000):x.natAbs<2^4001:=bA h (Nat.pow_lt_pow_right Dd Oo)
theorem NQ{f:Fr}{n:Nat}(h1:f.1.natAbs<=2^n)(h2:f.2.natAbs<=2^n){k:Nat}(hk:n<k):mZ k f:=⟨bA h1 (Nat.pow_lt_pow_right Dd hk),bA h2 (Nat.pow_lt_pow_right Dd hk)⟩
@[irreducible] def lQ(K:PySem.W.Frag):Sp:=λvs H Q _=>∃v cv fs ws w cs,∃i:Nat,vs=[v,.int (i:Int),cv]/\cC H (qN fs ws) v/\ws[i]?=some w/\cC H (kC cs) cv/\BOk 10 w.2/\cs.sum<=390/\∀x H',aY H H'->yM K H' (jP (w.2.zip cs)) x->Q x H'
theorem vE{K:PySem.W.Frag}{H:Hp}{Q:VK}{E:XK}{v cv:V}{fs:List Str}{ws:List (Str × List Fr)}{w:Str × List Fr}{cs:List Nat}{i:Nat}(h:cC H (qN fs ws) v)(hw:ws[i]?=some w)(hc:cC H (kC cs) cv)(ok:BOk 10 w.2)(hs:cs.sum<=390)(q:∀x H',aY H H'->yM K H' (jP (w.2.zip cs)) x->Q x H'):lQ K [v,.int (i:Int),cv] H Q E:=by unfold lQ;exact ⟨v,cv,fs,ws,w,cs,i,rfl,h,hw,hc,ok,hs,q⟩
theorem HW{α β:Type}{l:List α}{m:List β}{i:Nat}{a:α}{b:β}(h1:l[i]?=some a)(h2:m[i]?=some b):(l.zip m)[i]?=some (a,b):=by rw [List.getElem?_zip_eq_some];exact ⟨h1,h2⟩
theorem SN{α:Type}(l:List α)(m:List Nat)(i:Nat):(((l.zip m).take i).map (·.2)).sum<=m.sum:=by
 induction l generalizing m i with
 | nil=>simp
 | cons a l ih =>
  cases m with
  | nil=>simp
  | cons b m =>
   cases i with
   | zero=>simp
   | succ i =>
    have:=ih m i;simp only [List.zip_cons_cons,List.take_succ_cons,bH,List.sum_cons];omega
theorem lI{α β:Type}{l:List α}{m:List β}{i:Nat}{z:α × β}(h:z∈(l.zip m).take i):z.1∈l:=(List.of_mem_zip (a:=z.1) (b:=z.2) (List.mem_of_mem_take h)).1
theorem IF{m:List Nat}{i c:Nat}(h:m[i]?=some c):c<=m.sum:=by
 induction m generalizing i with
 | nil=>simp at h
 | cons a m ih =>
  rw [List.sum_cons];cases i with
  | zero=>cases (show a=c by simpa using h);omega
  | succ i=>have:=ih (i:=i) (by simpa using h);omega
section
theorem aCO(F:jT K "ways_of" "ways_of" TU f fd)(T:lB K mg c):dY P w K mg base dP 1 f fd ["trial"] lS:=by
 refine F.oky aDy λvs H Q E h=>?_;unfold lS at h;obtain ⟨v,fs,ws,rfl,h,q⟩:=h;refine ⟨rfl,λcdv A outer s hr=>?_⟩;obtain ⟨a,af,aw,xf,xw,rfl,ha,hf,hw,rf,rw'⟩:=wO h;refine ⟨_,(bD (cI (eG gB (by rfl) T.b_len Kk (aJ (bT bL (aD 0) aL (λ_ _=>rfl)) aE)))),?_⟩;refine ⟨_,rfl,?_⟩;refine lA ha rfl ?_;refine KZ hw ?_;rw [eJ rw'];exact q
theorem aCP(F:jT K "way_shares" "way_shares" TV f fd)(T:lB K mg c):dY P w K mg base dP 1 f fd ["trial","way"] wT:=by
 refine F.oky aDz λvs H Q E h=>?_;unfold wT at h;obtain ⟨v,fs,ws,w,i,rfl,h,hw',q⟩:=h;refine ⟨rfl,λcdv A outer s hr=>?_⟩;obtain ⟨a,af,aw,xf,xw,rfl,ha,hf,hw,rf,rw'⟩:=wO h;obtain ⟨u,hu,ru⟩:=eI rw' hw';obtain ⟨b,xs,rfl,hb,hr'⟩:=nI ru;obtain ⟨y,z,rfl,hy,hz⟩:=xZ hr';refine ⟨_,(bD (cI (bT bL (bT bL (bT bL (aD 0) aL (λ_ _=>rfl)) (aD 1) (λ_ _=>rfl)) aL (λ_ _=>rfl)))),?_⟩;refine ⟨_,rfl,?_⟩;refine lA ha rfl ?_;refine ⟨_,rfl,?_⟩;refine lA hw (cT (j:=i) hu) ?_;refine lA hb rfl ?_;exact q _ hz
theorem aCU(F:jT K "power" "power" TZ f fd)(T:lB K mg c):dY P w K mg base dP 1 f fd ["share","count"] (pK K):=by
 refine F.oky MD λvs H Q E h=>?_;unfold pK at h;obtain ⟨x,f,n,B,rfl,⟨a,rfl,ha⟩,h1,h2,h3,h5,h4,q⟩:=h;refine ⟨rfl,λcdv A outer s hr=>?_⟩;refine ⟨_,(aH (bK (i:=2) MD.nd rfl (Or.inl rfl) aL)
  (aH (bK (i:=3) MD.nd rfl (Or.inl rfl) aL)
  (aH (fF PassesOwn.never rfl (cP rfl T.b_range (aJ (aD 1) aE)) (dF (i:=4) MD.nd rfl (Or.inl rfl)) (aH (bK (i:=2) MD.nd rfl (Or.inl rfl) (bQ dO (aD 2) (bT bL (aD 0) aL (λ_ _=>rfl))))
  (bD (bK (i:=3) MD.nd rfl (Or.inl rfl) (bQ dO (aD 3) (bT bL (aD 0) aL (λ_ _=>rfl)))))))
  (bD (cI (dS (aJ (aD 2) (aJ (aD 3) aE)))))))),?_⟩
 refine ⟨_,rfl,_,rfl,Oo,Oo,?_⟩;refine fZ (λi σ H'=>∃o4,σ=[some (.ref a),some (.int (n:Int)),some (.int (f.1^i)),some (.int (f.2^i)),o4]/\H'=H) ⟨_,by rw [Int.pow_zero,Int.pow_zero];rfl,rfl⟩ ?_ ?_
 ·rintro i σ H1 hi ⟨o4,rfl,rfl⟩;have hB:B*i<=4000:=aK (Nat.mul_le_mul_left _ Oo) h4;refine ⟨_,rfl,_,rfl,?_⟩;refine nG ha rfl ?_;refine ⟨_,_,rfl,rfl,nJ (BP (uH h1 i) hB) (BP h1 h3),?_⟩;refine ⟨_,rfl,_,rfl,?_⟩;refine nG ha rfl ?_;refine ⟨_,_,rfl,rfl,nJ (BP (uH h2 i) hB) (BP h2 h3),?_⟩;exact ⟨_,by rw [Int.pow_succ,Int.pow_succ];rfl,rfl⟩
 ·rintro σ H1 ⟨o4,rfl,rfl⟩;refine ⟨_,rfl,_,rfl,?_⟩;refine pY (by show 2<=64;decide) λq3 H3 hq3 e3 s3=>?_;exact q q3 H3 hq3 (by rw [e3];rfl) s3
theorem aCN(F:jT K "weight" "weight" TR f fd)(T:lB K mg c)
  (FQ46:gM dP P w K mg base 1 "way_shares" ["trial","way"] wT) (FQ43:gM dP P w K mg base 2 "times" ["one","other"] (mE K)) (FQ41:gM dP P w K mg base 1 "power" ["share","count"] (pK K)):dY P w K mg base dP 3 f fd ["trial","way","counts"] (lQ K):=by
 refine F.oky RP λvs H Q E h=>?_;unfold lQ at h;obtain ⟨v,cv,fs,ws,w,cs,j,rfl,h,hw,hc,ok,hs,q⟩:=h;refine ⟨rfl,λcdv A outer s hr=>?_⟩;refine ⟨_,(aH (bK (i:=3) RP.nd rfl (Or.inl rfl) (sE (v:=.ref c.ONE) rfl T.g_ONE rfl))
  (aH (fF PassesOwn.never rfl (AK true true rfl T.b_zip (aJ (bS FQ46 (hr.mono Dd) (aJ (aD 0) (aJ (aD 1) aE))) (aJ (aD 2) aE))) (wM rfl (iY (dF (i:=4) RP.nd rfl (Or.inl rfl)) (iY (dF (i:=5) RP.nd rfl (Or.inl rfl)) sC))) (bD (bK (i:=3) RP.nd rfl (Or.inl rfl) (bS FQ43 (hr.mono Dd) (aJ (aD 3) (aJ (bS FQ41 (hr.mono Dd) (aJ (aD 4) (aJ (aD 5) aE))) aE))))))
  (bD (cI (aD 3))))),?_⟩
 refine ⟨_,rfl,_,rfl,?_⟩;refine NU h hw λx rx=>?_;obtain ⟨l1,xs,rfl,h1,r1⟩:=nI rx;obtain ⟨l2,ys,rfl,h2,r2⟩:=nI hc;refine ⟨_,rfl,l1,l2,xs,ys,rfl,h1,h2,?_⟩;have hl1:=eJ r1;have hl2:=eJ r2;have zl:∀i,∀z∈(w.2.zip cs).take i,dA z.1:=λi z hz=>ok.low _ (lI hz);have zb:∀i,∀z∈(w.2.zip cs).take i,z.1.1.natAbs<=2^10/\z.1.2.natAbs<=2^10:=λi z hz=>⟨ok.up _ (lI hz),ok.dn _ (lI hz)⟩;refine JD (λi σ H'=>∃x o4 o5,σ=[some v,some (.int (j:Int)),some (.ref l2),some x,o4,o5]/\aY H H'/\yM K H' (jP ((w.2.zip cs).take i)) x) ⟨_,_,_,rfl,aY.refl _,.inr ⟨_,rfl,T.o_ONE⟩⟩ (λi σ H' ⟨x,o4,o5,_,s',_⟩=>⟨s' _ _ h1,s' _ _ h2⟩) ?_ ?_
 ·rintro i y z q3 σ H1 H2 hy hz ⟨x,o4,o5,rfl,s1,r⟩ hq3 e3 s3;obtain ⟨g,hg,rg⟩:=eW r1 hy;obtain ⟨n,hn,rn⟩:=eW r2 hz;cases (show z=V.int (n:Int) from rn);have gm:=aG hg;have nn:=IF hn;refine ⟨q3,_,rfl,jH.of e3,rfl,_,_,rfl,_,_,rfl,rfl,?_⟩;refine ⟨_,rfl,_,rfl,_,rfl,?_⟩;refine GA (B:=10) (gR.of (rg.same (s1.trans s3))) (ok.up _ gm) (ok.dn _ gm) Dd Oo Oo ?_;intro q4 H4 hq4 e4 s4;obtain ⟨b1,b2⟩:=SS ((w.2.zip cs).take i) (zl i) (zb i);have zs:=SN w.2 cs i;have c1:=uH (ok.up _ gm) n;have c2:=uH (ok.dn _ gm) n;refine oP (gR.same (s3.trans s4) r.v) (gR.new (f:=uI g n) e4) (nQ _ (zl i)) (kY (ok.low _ gm) n) (NQ b1 b2 Oo) (NQ c1 c2 Oo) ?_;intro q5 H5 hq5 e5 s5;refine ⟨_,_,_,rfl,((s1.trans s3).trans s4).trans s5,?_⟩;rw [eN (HW hg hn),qM];exact .inl (dE e5)
 ·rintro σ H1 ⟨x,o4,o5,rfl,s1,r⟩;refine ⟨_,rfl,?_⟩;refine q _ H1 s1 ?_;have e:(w.2.zip cs).take (min xs.length ys.length)=w.2.zip cs:=List.take_of_length_le (by rw [List.length_zip];omega)
  rwa [e] at r
end
@[irreducible] def kJ:Sp:=λvs H Q _=>∃v fs ws,vs=[v]/\cC H (qN fs ws) v/\Q (.int (fs.length:Nat)) H
theorem sQ(h:cC H (qN fs ws) v)(q:Q (.int (fs.length:Nat)) H):kJ [v] H Q E:=by unfold kJ;exact ⟨v,fs,ws,rfl,h,q⟩
section
theorem aC4(F:jT K "faces_of" "faces_of" UE f fd)(T:lB K mg c):dY P w K mg base dP 1 f fd ["trial"] kJ:=by
 refine F.oky aDG λvs H Q E h=>?_;unfold kJ at h;obtain ⟨v,fs,ws,rfl,h,q⟩:=h;refine ⟨rfl,λcdv A outer s hr=>?_⟩;obtain ⟨a,af,aw,xf,xw,rfl,ha,hf,hw,rf,rw'⟩:=wO h;refine ⟨_,(bD (cI (eG gB (by rfl) T.b_len Kk (aJ (bT bL (aD 0) aL (λ_ _=>rfl)) aE)))),?_⟩;refine ⟨_,rfl,?_⟩;refine lA ha rfl ?_;refine KZ hf ?_;rw [eJ rf];exact q
end
def iD(H:Hp)(a:Addr)(cs:List (List Nat)):Prop:=∃vs,H a=some (.lst vs)/\aW H (cs.map kC) vs
theorem jN:∀cs:List (List Nat),gU (cs.map kC)=true
 | []=>rfl
 | c::cs=>by show (fV (kC c)&&gU (cs.map kC))=true;rw [jN cs,jZ];rfl
theorem iD.same{H H':Hp}{a:Addr}{cs:List (List Nat)}(h:iD H a cs)(s:aY H H'):iD H' a cs:=by
 obtain ⟨vs,h1,h2⟩:=h;exact ⟨vs,s _ _ h1,h2.same s⟩
theorem iD.len{H:Hp}{a:Addr}{cs:List (List Nat)}(h:iD H a cs):∃vs,H a=some (.lst vs)/\aW H (cs.map kC) vs/\vs.length=cs.length:=by
 obtain ⟨vs,h1,h2⟩:=h;exact ⟨vs,h1,h2,eJ h2⟩
theorem aW.app{H:Hp}:∀{ds es:List PyData}{xs ys:List V},aW H ds xs->aW H es ys->aW H (ds++es) (xs++ys)
 | [],es,xs,ys,h1,h2=>by
  have:xs=[]:=h1;subst this;exact h2
 | d::ds,es,xs,ys,h1,h2=>by
  unfold aW at h1;obtain ⟨x,xs',rfl,hx,hr⟩:=(show ∃x xs',xs=x::xs'/\cC H d x/\aW H ds xs' from h1);exact aW.cons hx (aW.app hr h2)
theorem oE{α:Type}(g:Nat->List α)(i:Nat):(List.range (i+1)).flatMap g=(List.range i).flatMap g++g i:=by
 rw [List.range_succ,List.flatMap_append];simp
@[irreducible] def mO(n:Nat):Sp:=λvs H Q _=>∃F m:Nat,vs=[.int (F:Int),.int (m:Int)]/\1<=F/\F<=n/\F<=4/\m<=5/\∀a H',aY H H'->H a=none->iD H' a (cta F m)->Q (.ref a) H'
theorem NX(h1:1<=F)(h2:F<=n)(h4:F<=4)(h3:m<=5)(q:∀a H',aY H H'->H a=none->iD H' a (cta F m)->Q (.ref a) H'):mO n [.int (F:Int),.int (m:Int)] H Q E:=by unfold mO;exact ⟨F,m,rfl,h1,h2,h4,h3,q⟩
theorem DK{n:Nat}{H:Hp}{Q:VK}{E:XK}{F m:Nat}{x y:Int}(ex:x=(F:Int))(ey:y=(m:Int))(h1:1<=F)(h2:F<=n)(h4:F<=4)(h3:m<=5)(q:∀a H',aY H H'->H a=none->iD H' a (cta F m)->Q (.ref a) H'):mO n [.int x,.int y] H Q E:=by
 subst ex ey;exact NX h1 h2 h4 h3 q
@[irreducible] def sS:Sp:=λvs H Q _=>∃F m:Nat,vs=[.int (F:Int),.int (m:Int)]/\1<=F/\F<=4/\m<=5/\∀a H',aY H H'->H a=none->iD H' a ((List.range (m+1)).flatMap (cta F))->Q (.ref a) H'
theorem KN(h1:1<=F)(h4:F<=4)(h3:m<=5)(q:∀a H',aY H H'->H a=none->iD H' a ((List.range (m+1)).flatMap (cta F))->Q (.ref a) H'):sS [.int (F:Int),.int (m:Int)] H Q E:=by unfold sS;exact ⟨F,m,rfl,h1,h4,h3,q⟩
theorem oF:∀F,F<=4->∀m,m<=5->(cta F m).length<=56:=Kk
theorem GT:∀F,F<=3->∀m,m<=5->∀i,i<=6->((List.range i).flatMap λk=>(cta F (m-k)).map λc=>k::c).length<=400:=Kk
theorem rA:∀F,F<=4->∀i,i<=6->((List.range i).flatMap (cta F)).length<=400:=Kk
theorem RC{F m:Nat}{c:List Nat}(h:c∈cta F m):c.length=F:=(gQ h).1
section
theorem aCF(F:jT K "counts_that_are" "counts_that_are" KS f fd)(T:lB K mg c):dY P w K mg base dP 1 f fd ["faces","many"] (mO 0):=by
 refine F.okw XI (λvs H Q E h=>?_) (λcdv A outer s H vs Q E hr h=>?_)
 ·unfold mO at h;obtain ⟨F,m,_,h1,h2,_⟩:=h;omega
 ·unfold mO at h;obtain ⟨F,m,_,h1,h2,_⟩:=h;omega
theorem aC5(n:Nat)(F:jT K "counts_that_are" "counts_that_are" KS f fd)(T:lB K mg c)(FQ30:gM dP P w K mg base (1+n) "counts_that_are" ["faces","many"] (mO n)) :
  dY P w K mg base dP (1+n+1) f fd ["faces","many"] (mO (n+1)):=by
 refine F.oky XI λvs H Q E h=>?_;unfold mO at h;obtain ⟨F,m,rfl,h1,h2,h4,hm,q⟩:=h;refine ⟨rfl,λcdv A outer s hr=>?_⟩;refine ⟨_,(aH (kE (eQ vJ (aD 0) aL (nomark _)) (bD (cI (iI (aJ (dS (aJ (aD 1) aE)) aE)))) gC)
  (aH (bK (i:=2) XI.nd rfl (Or.inl rfl) (iI aE))
  (aH (fF PassesOwn.never rfl (cP rfl T.b_range (aJ (bQ dQ (aD 1) aL) aE)) (dF (i:=3) XI.nd rfl (Or.inr rfl)) (bD (jU (pA PySem.F.plainAttrs_list PySem.F.slot_list_extend PySem.F.type_list_extend GX (aD 2) (aJ (fR (dI.of (psc:=aX KS) (N:=["faces","many","found","first"]) (N':=["rest","first"]) (js:=[3]) Kk rfl rfl rfl) (fD (bS FQ30 (hr.mono Oo) (aJ (bQ rT (aD 0) aL) (aJ (bQ rT (aD 1) (aD 3)) aE)))) (λ_ _ _ _=>dR) (λ_ _ _ _=>(bQ (sY K) (dS (aJ (aD 1) aE)) (aD 0)))) aE)))))
  (bD (cI (aD 2)))))),?_⟩
 refine ⟨_,rfl,rfl,_,rfl,?_⟩;refine uQ (λe=>?_) (λe=>?_)
 ·have eF:F=1:=by injection e with e;omega
  subst eF;refine ⟨_,rfl,?_⟩;refine pY (by show 1<=64;decide) λp0 H0 hp0 e0 s0=>?_;refine DY (by show 1<=64;decide) λp1 H1 hp1 e1 s1=>?_;refine q p1 H1 (s0.trans s1) (s0.free hp1) ⟨_,e1,?_⟩;exact aW.cons (cC.tup (s1 _ _ e0) (aW.cons (cC.int _) aW.nil)) aW.nil
 ·have eF:F≠1:=λz=>e (by rw [z];rfl);obtain ⟨G,rfl⟩:∃G,F=G+2:=⟨F-2,Oo⟩;refine DY (by show 0<=64;decide) λL H1 hL e1 s1=>?_;refine ⟨_,rfl,_,_,rfl,rfl,_,rfl,Oo,Oo,?_⟩;rw [show ((m:Int)+1).toNat=m+1 by omega];refine fZ (λi σ H'=>∃o3,σ=[some (.int ((G+2:Nat):Int)),some (.int (m:Int)),some (.ref L),o3]/\aY H H'/\iD H' L ((List.range i).flatMap λk=>(cta (G+1) (m-k)).map λc=>k::c)) ⟨_,rfl,s1,[],e1,aW.nil⟩ ?_ ?_
  ·rintro i σ H2 hi ⟨o3,rfl,s2,vs,e2,r2⟩;have lv:=eJ r2;have sml:=GT (G+1) Oo m hm i Oo;refine ⟨_,rfl,MP e2,?_⟩;refine ⟨_,rfl,_,_,rfl,rfl,?_⟩;refine ⟨_,rfl,_,rfl,_,_,rfl,rfl,?_⟩;refine DK (F:=G+1) (m:=m-i) Oo Oo Oo Oo Oo Oo λb H3 s3 hb l3=>?_;obtain ⟨ws,e3,r3,lw3⟩:=l3.len;have sm2:=oF (G+1) Oo (m-i) Oo;refine ⟨b,rfl,⟨_,fN.of e3⟩,?_⟩;refine gX (λj y H'=>∃c,(cta (G+1) (m-i))[j]?=some c/\cC H' (kC (i::c)) y) (λj y H1 H2 s ⟨c,h1,h2⟩=>⟨c,h1,h2.flat s (jZ _)⟩) Oo e3 (λj x H' Q' hx s' k'=>?_) (λD ys H4 hD hD4 s4 hy hr4=>?_)
   ·obtain ⟨c,hc,rc⟩:=eW r3 hx;obtain ⟨ac,xc,rfl,hac,rxc⟩:=nI (rc.same s');have lc:=eJ rxc;have lc2:=RC (aG hc);refine ⟨_,rfl,?_⟩;refine pY (by show 1<=64;decide) λp4 H5 hp4 e4 s5=>?_;refine ⟨_,rfl,?_⟩;refine RJ e4 (s5 _ _ hac) (by simp only [bU,List.length_nil];omega) λp5 H6 s6 e6=>?_;refine k' _ H6 (s5.trans s6) ⟨c,hc,cC.tup e6 ?_⟩;rw [show (0:Int)+(i:Int)=(i:Int) by omega];exact aW.cons (cC.int _) (rxc.same (s5.trans s6))
   ·have S4:=s3.trans s4;have nLD:D≠L:=λz=>by subst z;rw [s3 _ _ e2] at hD;cases hD
    refine aAN (S4 _ _ e2) hD4 Oo λH5 e5 s5=>?_;have t5:=s5.t (S4 _ _ e2);refine ⟨_,rfl,aY.thru hL (s2.trans S4) s5,vs++ys,e5,?_⟩;rw [oE,bF];refine aW.app (aW.flat t5 (jN _) (r2.same S4)) (aW.flat t5 (jN _) ?_);refine aW.ofIdx (by rw [hy,aA,aA];omega) λj y hj=>?_;obtain ⟨c,hc,rc⟩:=hr4 j y hj;exact ⟨_,by rw [aM,aM,hc];rfl,rc⟩
  ·rintro σ H2 ⟨o3,rfl,s2,l2⟩;refine ⟨_,rfl,?_⟩;exact q L H2 s2 hL l2
theorem aDc(F:jT K "all_counts" "all_counts" UJ f fd)(T:lB K mg c)(FQ30:gM dP P w K mg base 5 "counts_that_are" ["faces","many"] (mO 4)) :
  dY P w K mg base dP 6 f fd ["faces","most"] sS:=by
 refine F.oky aAV λvs H Q E h=>?_;unfold sS at h;obtain ⟨F,m,rfl,h1,h4,hm,q⟩:=h;refine ⟨rfl,λcdv A outer s hr=>?_⟩;refine ⟨_,(aH (bK (i:=2) aAV.nd rfl (Or.inl rfl) (iI aE))
  (aH (fF PassesOwn.never rfl (cP rfl T.b_range (aJ (bQ dQ (aD 1) aL) aE)) (dF (i:=3) aAV.nd rfl (Or.inl rfl)) (bD (jU (pA PySem.F.plainAttrs_list PySem.F.slot_list_extend PySem.F.type_list_extend GX (aD 2) (aJ (bS FQ30 (hr.mono Dd) (aJ (aD 0) (aJ (aD 3) aE))) aE)))))
  (bD (cI (aD 2))))),?_⟩
 refine DY (by show 0<=64;decide) λL H1 hL e1 s1=>?_;refine ⟨_,rfl,_,_,rfl,rfl,_,rfl,Oo,Oo,?_⟩;rw [show ((m:Int)+1).toNat=m+1 by omega];refine fZ (λi σ H'=>∃o3,σ=[some (.int (F:Int)),some (.int (m:Int)),some (.ref L),o3]/\aY H H'/\iD H' L ((List.range i).flatMap (cta F))) ⟨_,rfl,s1,[],e1,aW.nil⟩ ?_ ?_
 ·rintro i σ H2 hi ⟨o3,rfl,s2,vs,e2,r2⟩;have lv:=eJ r2;have sml:=rA F h4 i Oo;refine ⟨_,rfl,MP e2,?_⟩;refine ⟨_,rfl,_,rfl,?_⟩;refine DK (F:=F) (m:=i) rfl Oo h1 h4 h4 Oo λb H3 s3 hb l3=>?_;obtain ⟨ws,e3,r3,lw3⟩:=l3.len;have sm2:=oF F h4 i Oo;refine aAN (s3 _ _ e2) e3 Oo λH5 e5 s5=>?_;have t5:=s5.t (s3 _ _ e2);refine ⟨_,rfl,aY.thru hL (s2.trans s3) s5,vs++ws,e5,?_⟩;rw [oE,bF];exact aW.app (aW.flat t5 (jN _) (r2.same s3)) (aW.flat t5 (jN _) r3)
 ·rintro σ H2 ⟨o3,rfl,s2,l2⟩;refine ⟨_,rfl,?_⟩;exact q L H2 s2 hL l2
end
abbrev zU(n:Nat):V:=.int (n:Int)
theorem FA{H:Hp}:∀cs:List Nat,aW H (cs.map λ(n:Nat)=>PyData.int (n:Int)) (cs.map zU)
 | []=>aW.nil
 | n::cs=>aW.cons (cC.int _) (FA cs)
theorem AE{H:Hp}:∀{cs:List Nat}{xs:List V},aW H (cs.map λ(n:Nat)=>PyData.int (n:Int)) xs->xs=cs.map zU
 | [],xs,h=>h
 | n::cs,xs,h=>by
  unfold aW at h;obtain ⟨x,xs',rfl,hx,hr⟩:=(show ∃x xs',xs=x::xs'/\cC H (PyData.int (n:Int)) x/\aW H (cs.map λ(n:Nat)=>PyData.int (n:Int)) xs' from h);rw [AE hr];cases (show x=V.int (n:Int) from hx)
  rfl
theorem gG{H:Hp}{cs:List Nat}{v:V}(h:cC H (kC cs) v):∃a,v=.ref a/\H a=some (.tup (cs.map zU)):=by
 obtain ⟨a,xs,rfl,ha,hr⟩:=nI h;rw [AE hr] at ha;exact ⟨a,rfl,ha⟩
theorem nM{H:Hp}{cs:List Nat}{a:Addr}(h:H a=some (.tup (cs.map zU))):cC H (kC cs) (.ref a):=cC.tup h (FA cs)
theorem FF{cs:List Nat}{i:Nat}(h:i<cs.length):bP cs i=cs.take i++[cs.getD i 0+1]++cs.drop (i+1):=by
 unfold bP;rw [List.set_eq_take_append_cons_drop,if_pos h,List.append_assoc]
 rfl
theorem II{K:PySem.W.Frag}{H:Hp}{a:Addr}{xs:List V}{k:Nat}{z:Int}{Q:VK}(hz:z=(k:Int))(h:H a=some (.tup xs))(q:∀c H',aY H H'->H' c=some (.tup (xs.drop k))->Q (.ref c) H'):GQ K (.ref a) (some z) none H Q:=by
 subst hz;exact ZR h q
@[irreducible] def fI:Sp:=λvs H Q _=>∃(x:V) (cs:List Nat) (i:Nat),vs=[x,.int (i:Int)]/\cC H (kC cs) x/\i<cs.length/\cs.length<=64/\∀v H',aY H H'->cC H' (kC (bP cs i)) v->Q v H'
theorem jB(h1:cC H (kC cs) x)(h2:i<cs.length)(h3:cs.length<=64)(k:∀v H',aY H H'->cC H' (kC (bP cs i)) v->Q v H'):fI [x,.int (i:Int)] H Q E:=by
 unfold fI;exact ⟨x,cs,i,rfl,h1,h2,h3,k⟩
@[irreducible] def iQ:Sp:=λvs H Q _=>∃(x:V) (cs:List Nat),vs=[x]/\cC H (kC cs) x/\cs.length<=64/\∀D ys H',H D=none->H' D=some (.lst ys)->aW H' (((List.range cs.length).map (bP cs)).map kC) ys->aY H H'->Q (.ref D) H'
theorem pL(h1:cC H (kC cs) x)(h3:cs.length<=64)(k:∀D ys H',H D=none->H' D=some (.lst ys)->aW H' (((List.range cs.length).map (bP cs)).map kC) ys->aY H H'->Q (.ref D) H'):iQ [x] H Q E:=by
 unfold iQ;exact ⟨x,cs,rfl,h1,h3,k⟩
section
theorem aCY(F:jT K "one_more" "one_more" UB f fd)(T:lB K mg c):dY P w K mg base dP 1 f fd ["counts","face"] fI:=by
 refine F.oky aDD λvs H Q E h=>?_;unfold fI at h;obtain ⟨x,cs,i,rfl,rx,hi,hl,k⟩:=h;refine ⟨rfl,λcdv A outer s hr=>?_⟩;obtain ⟨a,rfl,ha⟩:=gG rx;refine ⟨_,(bD (cI (bQ (sY K) (bQ (sY K) (iZ (vX K) (aD 0) kR (kQ (aD 1))) (dS (aJ (bQ dQ (bT bL (aD 0) (aD 1) (λ_ _=>rfl)) aL) aE))) (iZ (vX K) (aD 0) (kQ (bQ dQ (aD 1) aL)) kR)))),?_⟩;refine ⟨_,rfl,_,rfl,_,rfl,?_⟩;refine OB ha λc2 H2 s2 e2=>?_;refine ⟨_,rfl,_,rfl,?_⟩;have hat:yI (cs.map zU) (i:Int)=some (zU (cs.getD i 0)):=cT (by rw [aM,bJ,aB hi];rfl);refine lA (s2 _ _ ha) hat ?_;refine ⟨_,_,rfl,rfl,?_⟩;refine pY (by show 1<=64;decide) λc3 H3 hc3 e3 s3=>?_;refine RJ (s3 _ _ e2) e3 (by rw [cL,aA];show min i cs.length+1<=1000;omega) λc4 H4 s4 e4=>?_;refine ⟨_,rfl,_,rfl,_,_,rfl,rfl,?_⟩;refine ⟨_,rfl,?_⟩;refine II (k:=i+1) Oo (s4 _ _ (s3 _ _ (s2 _ _ ha))) λc5 H5 s5 e5=>?_;refine RJ (s5 _ _ e4) e5 (by rw [bE,cL,List.length_drop,aA];show min i cs.length+1+(cs.length-(i+1))<=1000;omega) λc6 H6 s6 e6=>?_;refine k _ H6 ((((s2.trans s3).trans s4).trans s5).trans s6) (nM ?_);rw [e6,FF hi,bF,bF,List.map_take,List.map_drop]
 rfl
theorem aCX(F:jT K "ones_more" "ones_more" OG f fd)(T:lB K mg c)(FQ37:gM dP P w K mg base 1 "one_more" ["counts","face"] fI):dY P w K mg base dP 2 f fd ["counts"] iQ:=by
 refine F.oky aDC λvs H Q E h=>?_;unfold iQ at h;obtain ⟨x,cs,rfl,rx,hl,k⟩:=h;refine ⟨rfl,λcdv A outer s hr=>?_⟩;obtain ⟨a,rfl,ha⟩:=gG rx;refine ⟨_,(bD (cI (fR (dI.of (psc:=aX OG) (N:=["counts"]) (N':=["face","counts"]) (js:=[0]) Kk rfl rfl rfl) (cP rfl T.b_range (aJ (eG gB (by rfl) T.b_len Kk (aJ (aD 0) aE)) aE)) (λ_ _ _ _=>dR) (λ_ _ _ _=>(bS FQ37 (hr.mono Dd) (aJ (aD 1) (aJ (aD 0) aE))))))),?_⟩;refine ⟨_,rfl,?_⟩;refine KZ ha ?_;rw [aA];refine ⟨_,rfl,Oo,Oo,?_⟩;refine gW (λi y H'=>i<cs.length/\cC H' (kC (bP cs i)) y) (λi y H1 H2 s ⟨h1,h2⟩=>⟨h1,h2.flat s (jZ _)⟩) Oo (λi H' Q' hi s' k'=>?_) (λD ys H4 hD hD4 s4 hy4 hr4=>?_)
 ·rw [Int.zero_add];refine ⟨_,rfl,_,rfl,?_⟩;refine jB (rx.same s') Oo hl λv H5 s5 r5=>?_;exact k' _ H5 s5 ⟨Oo,r5⟩
 ·refine k D ys H4 hD hD4 ?_ s4;refine aW.ofIdx (by rw [hy4,aA,aA,aZ];omega) λi y hi=>?_;obtain ⟨h1,h2⟩:=hr4 i y hi;exact ⟨kC (bP cs i),by rw [aM,aM,cJ h1];rfl,h2⟩
end
abbrev UH:Stmt:=(top 28)
theorem XM:cA ["some","lower","one"] ["some"] (aX UH):=⟨rfl,rfl,rfl,Kk,rfl,Kk,Kk⟩
abbrev TX:Stmt:=(top 29)
theorem aDA:cA ["one","unit"] ["one","unit"] (aX TX):=⟨rfl,rfl,rfl,Kk,rfl,Kk,Kk⟩
@[irreducible] def lW(K:PySem.W.Frag):Sp:=λvs H Q _=>∃(a:Addr) (xs:List V) (fs:List Fr) (N:Nat),vs=[.ref a]/\H a=some (.lst xs)/\rX K H fs xs/\0<N/\N<2^3000/\(∀f∈fs,dA f/\f.2.natAbs ∣ N)/\∀L:Nat,0<L->L ∣ N->(∀f∈fs,f.2.natAbs ∣ L)->Q (.int (L:Int)) H
theorem pQ{K:PySem.W.Frag}(h1:H a=some (.lst xs))(h2:rX K H fs xs)(h3:0<N)(h4:N<2^3000)(h5:∀f∈fs,dA f/\f.2.natAbs ∣ N)(k:∀L:Nat,0<L->L ∣ N->(∀f∈fs,f.2.natAbs ∣ L)->Q (.int (L:Int)) H):lW K [.ref a] H Q E:=by
 unfold lW;exact ⟨a,xs,fs,N,rfl,h1,h2,h3,h4,h5,k⟩
section
theorem aC8(F:jT K "common_lower" "common_lower" UH f fd)(T:lB K mg c)(FQ26:gM dP P w K mg base 1 "common_divisor" ["number","above_nought"] wV):dY P w K mg base dP 2 f fd ["some"] (lW K):=by
 refine F.oky XM λvs H Q E h=>?_;unfold lW at h;obtain ⟨a,xs,fs,N,rfl,ha,rx,n0,nz,hf,k⟩:=h;refine ⟨rfl,λcdv A outer s hr=>?_⟩;refine ⟨_,(aH (bK (i:=1) XM.nd rfl (Or.inl rfl) aL)
  (aH (fF PassesOwn.never rfl (fD (aD 0)) (dF (i:=2) XM.nd rfl (Or.inl rfl)) (bD (bK (i:=1) XM.nd rfl (Or.inl rfl) (bQ dO (aD 1) (bQ fO (bT bL (aD 2) aL (λ_ _=>rfl)) (bS FQ26 (hr.mono Dd) (aJ (aD 1) (aJ (bT bL (aD 2) aL (λ_ _=>rfl)) aE))))))))
  (bD (cI (aD 1))))),?_⟩
 refine ⟨_,rfl,a,rfl,⟨_,fN.of ha⟩,?_⟩;refine jY (xs:=xs) (λi σ H'=>∃(L:Nat) (o2:Option V),σ=[some (.ref a),some (.int (L:Int)),o2]/\H'=H/\0<L/\L ∣ N/\∀f∈fs.take i,f.2.natAbs ∣ L) ⟨1,_,rfl,rfl,Dd,Nat.one_dvd _,λf hf=>by simp at hf⟩ (λi σ H' _ q=>?_) ?_ ?_
 ·obtain ⟨_,_,_,rfl,_⟩:=q;exact fN.of ha
 ·rintro i x σ H2 hx ⟨L,o2,rfl,rfl,l0,lN,lf⟩;obtain ⟨g,hg,p1,rfl,e1⟩:=rx.at_ i x hx;obtain ⟨lg,gN⟩:=hf g (aG hg);have gp:=lg.pos;obtain ⟨d,hd⟩:∃d:Nat,g.2=(d:Int):=⟨g.2.toNat,Oo⟩;have hd':g.2.natAbs=d:=Oo;have d0:0<d:=Oo;rw [hd'] at gN;have lZ:L<2^3000:=bA (jS n0 lN) nz;have dZ:d<2^3000:=bA (jS n0 gN) nz;have eg:Int.gcd (L:Int) g.2=Nat.gcd L d:=by rw [hd];rfl
  have g0:0<Nat.gcd L d:=Nat.gcd_pos_of_pos_left _ l0;have gl:Nat.gcd L d<=d:=Nat.gcd_le_right _ d0;refine ⟨_,rfl,_,rfl,?_⟩;refine nG e1 rfl ?_;refine ⟨_,rfl,_,rfl,?_⟩;refine nG e1 rfl ?_;refine sR gp ?_;rw [eg];have z3:(2:Nat)^3000<=2^4000:=aP Dd Dd;have z9:(2:Nat)^3000<=2^9000:=aP Dd Dd;have zq:(g.2/((Nat.gcd L d:Nat):Int)).natAbs<2^4000:=oN (by rw [hd'];exact aO dZ z3) Oo;refine ⟨_,_,rfl,rfl,qG Oo (by show (Nat.gcd L d)<_;exact bA gl (aO dZ z9)),_,_,rfl,rfl,nJ (show (L:Int).natAbs<2^4000 from aO lZ z3) zq,?_⟩;have el:(L:Int)*(g.2/((Nat.gcd L d:Nat):Int))=((Nat.lcm L d:Nat):Int):=by
   rw [hd,<-Int.natCast_ediv,<-Int.natCast_mul];congr 1;unfold Nat.lcm;rw [Nat.mul_div_assoc _ (Nat.gcd_dvd_right L d)]
  refine ⟨Nat.lcm L d,_,by rw [<-el];rfl,rfl,Nat.lcm_pos l0 d0,Nat.lcm_dvd lN gN,λf' hf'=>?_⟩;rw [eN hg] at hf';rcases bX.mp hf' with h | h
  ·exact lO (lf f' h) (Nat.dvd_lcm_left _ _)
  ·rw [bG.mp h,hd'];exact Nat.dvd_lcm_right _ _
 ·rintro σ H2 ⟨L,o2,rfl,rfl,l0,lN,lf⟩;have lx:xs.length=fs.length:=rx.len;rw [lx,cR] at lf;exact ⟨_,rfl,k L l0 lN lf⟩
end
@[irreducible] def lT(K:PySem.W.Frag):Sp:=λvs H Q _=>∃(x:V) (f:Fr) (U:Nat),vs=[x,.int (U:Int)]/\gR K H f x/\dA f/\mZ 4000 f/\U<2^3000/\f.2.natAbs ∣ U/\∀n:Int,(n:Rat)=rv f*(U:Rat)->Q (.int n) H
theorem vG{K:PySem.W.Frag}(h1:gR K H f x)(h2:dA f)(h3:mZ 4000 f)(h4:U<2^3000)(h5:f.2.natAbs ∣ U)(k:∀n:Int,(n:Rat)=rv f*(U:Rat)->Q (.int n) H):lT K [x,.int (U:Int)] H Q E:=by
 unfold lT;exact ⟨x,f,U,rfl,h1,h2,h3,h4,h5,k⟩
section
theorem aCR(F:jT K "times_whole" "times_whole" TX f fd)(T:lB K mg c):dY P w K mg base dP 1 f fd ["one","unit"] (lT K):=by
 refine F.oky aDA λvs H Q E h=>?_;unfold lT at h;obtain ⟨x,f,U,rfl,⟨p1,rfl,e1⟩,lf,zf,uz,hd,k⟩:=h;refine ⟨rfl,λcdv A outer s hr=>?_⟩;have fp:=lf.pos;obtain ⟨r,hr'⟩:=hd;have z3:(2:Nat)^3000<=2^4000:=aP Dd Dd;have eU:(U:Int)=f.2*(r:Int):=by
  rw [hr',Int.natCast_mul];congr 1;omega
 refine ⟨_,(bD (cI (bQ dO (bT bL (aD 0) aL (λ_ _=>rfl)) (bQ fO (aD 1) (bT bL (aD 0) aL (λ_ _=>rfl)))))),?_⟩;refine ⟨_,rfl,?_⟩;refine nG e1 rfl ?_;refine ⟨_,rfl,_,rfl,?_⟩;refine nG e1 rfl ?_;refine ⟨_,_,rfl,rfl,qG fp (jK zf.2),_,_,rfl,rfl,nJ zf.1 (oN (show (U:Int).natAbs<2^4000 from aO uz z3) fp),?_⟩;refine k _ ?_;rw [eU,Int.mul_ediv_cancel_left _ Oo];have h1:=sW fp;have h2:=kG fp;have h3:(U:Rat)=(f.2:Rat)*((r:Int):Rat):=by
  rw [<-Rat.intCast_mul,<-eU];rfl
 rw [h3,Rat.intCast_mul];grind
end
abbrev UD:Stmt:=(top 30)
theorem XH:cA ["rising","some","unit","table","counts","one"] ["rising","some","unit"] (aX UD):=⟨rfl,rfl,rfl,Kk,rfl,Kk,Kk⟩
abbrev eP(ws:List (Str × List Fr)):List (List Fr):=ws.map λx=>x.2
def ci(c:List Nat):List Int:=c.map λ(n:Nat)=>(n:Int)
theorem eE(c:List Nat):(ci c).map V.int=c.map zU:=by unfold ci;rw [List.map_map];rfl
theorem uU(c:List Nat):(ci c).sum=(c.sum:Nat):=by
 induction c with
 | nil=>rfl
 | cons a c ih =>
  have e:ci (a::c)=(a:Int)::ci c:=rfl;rw [e,List.sum_cons,List.sum_cons,ih];omega
theorem kM:∀{a b:List Nat},ci a=ci b->a=b
 | [],[],_=>rfl
 | [],b::bs,h=>by cases h
 | a::as,[],h=>by cases h
 | a::as,b::bs,h=>by
  have h:(a:Int)::ci as=(b:Int)::ci bs:=h;injection h with h1 h2;rw [kM h2,show a=b by omega]
structure DW(H:Hp)(kvs:List (List eZ × V))(S:List (List Nat))(val:List Nat->Fr):Prop where
 yes:∀c∈S,∃v,fM kvs (kT (ci c))=some v/\cC H (fY (val c)) v
 len:kvs.length<=S.length
theorem aQ.tT{H H':Hp}{p:Addr}(s:aQ p H H'){kvs:List (List eZ × V)}(hp:H p=some (.dT kvs)):dB H H':=λb ys h=>s.at (pC h hp (by intro z;cases z)) h
def smQ(W F:Nat)(q:Nat->List Nat->Rat)(mix ps cs:Nat->Rat):Nat->List Nat->List Rat
 | 0,c=>lH W λv=>ps v*q v c
 | n+1,c=>lH W (λv=>ps v*q v c)++[cs c.sum*cN W (λv=>mix v*q v c)+cN F (λj=>FS W F q mix ps cs n (bP c j))]
theorem NA{W F:Nat}{q:Nat->List Nat->Rat}{mix ps cs:Nat->Rat}(n:Nat)(c:List Nat):FS W F q mix ps cs n c=kK (smQ W F q mix ps cs n c):=by cases n <;> rfl
abbrev lP(M Ns Nm Np Nc:Nat):Nat:=Np*Nc*Nm*Ns^M
section
variable{F W M:Nat}{ss:List (List Fr)}{mix ps cs:List Fr}{Ns Nm Np Nc B:Nat}
theorem iF(I:iO F W M ss mix ps cs Ns Nm Np Nc B){C:Nat}{f:Fr}(h:Fn (lP M Ns Nm Np Nc) C f)(hC:C<=2^490):mZ 4000 f:=qL h I.pos I.sz (aK hC (aP Dd Dd))
theorem xX(I:iO F W M ss mix ps cs Ns Nm Np Nc B){C:Nat}{fs:List Fr}(h:∀f∈fs,Fn (lP M Ns Nm Np Nc) C f)(hl:fs.length<=64)(hC:C<=2^490):AC fs:=yB h I.pos I.sz hl hC
theorem kN:1000000000000<=2^490:=aK (show 1000000000000<=2^40 by decide) (aP Dd Dd)
theorem JU(I:iO F W M ss mix ps cs Ns Nm Np Nc B){n:Nat}(hn:n<=5):8^(n+1)*B<=1000000000000:=by
 have h1:8^(n+1)<=8^6:=aP Dd Oo;have:=Nat.mul_le_mul h1 I.b;have e:8^6*1000000=262144000000:=Dd;omega
def kD(ss:List (List Fr))(ps:List Fr)(c:List Nat)(i:Nat):Fr:=iV (ps.getD i (0,1)) (jP ((ss.getD i []).zip c))
theorem rB(I:iO F W M ss mix ps cs Ns Nm Np Nc B){i:Nat}(hi:i<W)(c:List Nat):dA (jP ((ss.getD i []).zip c)) :=
 nQ _ λz hz=>((I.sh _ (fH (by rw [I.sl];exact hi))).2 z.1 (List.of_mem_zip (a:=z.1) (b:=z.2) hz).1).low
theorem wI(I:iO F W M ss mix ps cs Ns Nm Np Nc B){i:Nat}(hi:i<W){c:List Nat}(hc:c.sum<=M):Fn (lP M Ns Nm Np Nc) 1 (jP ((ss.getD i []).zip c)) :=
 Qn.f (rB I hi c) ((I.qn hi hc).dvd ⟨Np*Nc*Nm,by unfold lP;ac_rfl⟩)
theorem CL(I:iO F W M ss mix ps cs Ns Nm Np Nc B){i:Nat}(hi:i<W):Fn (lP M Ns Nm Np Nc) B (ps.getD i (0,1)) :=
 (I.pr _ (fH (by rw [I.pl];exact hi))).dvd ⟨Nc*Nm*Ns^M,by unfold lP;ac_rfl⟩
theorem CM(I:iO F W M ss mix ps cs Ns Nm Np Nc B){i:Nat}(hi:i<W):Fn (lP M Ns Nm Np Nc) 1 (mix.getD i (0,1)) :=
 (I.mx _ (fH (by rw [I.ml];exact hi))).dvd ⟨Np*Nc*Ns^M,by unfold lP;ac_rfl⟩
theorem JT(I:iO F W M ss mix ps cs Ns Nm Np Nc B){i:Nat}(hi:i<M):Fn (lP M Ns Nm Np Nc) B (cs.getD i (0,1)) :=
 (I.co _ (fH (by rw [I.cl];exact hi))).dvd ⟨Np*Nm*Ns^M,by unfold lP;ac_rfl⟩
theorem tV(I:iO F W M ss mix ps cs Ns Nm Np Nc B){i:Nat}(hi:i<W)(c:List Nat):dA (kD ss ps c i)/\rv (kD ss ps c i)=dU ps i*fX ss i c:=by
 have h1:=(CL I hi).low;have h2:=rB I hi c;exact ⟨gI h1 h2,iB h1.pos h2.pos⟩
theorem XT(I:iO F W M ss mix ps cs Ns Nm Np Nc B){i:Nat}(hi:i<W){c:List Nat}(hc:c.sum<=M):Fn (lP M Ns Nm Np Nc) B (kD ss ps c i) :=
 Qn.f (tV I hi c).1 (by rw [(tV I hi c).2];exact I.due hi hc)
theorem oI(I:iO F W M ss mix ps cs Ns Nm Np Nc B){i:Nat}(hi:i<W)(c:List Nat):dA (kD ss mix c i)/\rv (kD ss mix c i)=dU mix i*fX ss i c:=by
 have h1:=(CM I hi).low;have h2:=rB I hi c;exact ⟨gI h1 h2,iB h1.pos h2.pos⟩
theorem FL(I:iO F W M ss mix ps cs Ns Nm Np Nc B){i:Nat}(hi:i<W){c:List Nat}(hc:c.sum<=M):Fn (lP M Ns Nm Np Nc) 1 (kD ss mix c i) :=
 Qn.f (oI I hi c).1 (by rw [(oI I hi c).2];exact (I.met hi hc).dvd ⟨Np*Nc,by unfold lP;ac_rfl⟩)
end
theorem IK{n:Nat}{g:Nat->Fr}(h:∀i,i<n->dA (g i)):dA (kW ((List.range n).map g))/\rv (kW ((List.range n).map g))=cN n λi=>rv (g i):=by
 have hl:∀f∈(List.range n).map g,dA f:=λf hf=>by
  obtain ⟨i,hi,rfl⟩:=aV.mp hf;exact h i (bR.mp hi)
 refine ⟨sG _ hl,?_⟩;rw [BC _ hl,List.map_map];rfl
abbrev yO(F W M:Nat)(ss:List (List Fr))(mix ps cs:List Fr)(c:List Nat):Fr:=iC (wor F W M ss mix ps cs c)
structure aA5(N:Nat)(qs:List Rat)(gs:List Fr):Prop where
 v:gs.map rv=qs
 n:∀g∈gs,Fn N 1000000000000 g
 l0:0<gs.length
 l1:gs.length<=5
theorem aW.ofRange{H:Hp}{n:Nat}{g:Nat->Fr}{ys:List V}(hl:ys.length=n)(h:∀(i:Nat) (y:V),ys[i]?=some y->i<n/\cC H (fY (g i)) y):aW H (((List.range n).map g).map fY) ys:=by
 refine aW.ofIdx (by rw [aA,aA,aZ,hl]) λi y hi=>?_;obtain ⟨h1,h2⟩:=h i y hi;exact ⟨_,by rw [aM,aM,cJ h1];rfl,h2⟩
theorem uW{H:Hp}{M:Nat}{bs mix cs:List Fr}{v:V}(h:cC H (lM M bs mix cs) v):∃a x1 x2 x3,v=.ref a/\H a=some (.tup [.int (M:Int),x1,x2,x3])/\cC H (pE bs) x1/\cC H (pE mix) x2/\cC H (pE cs) x3:=by
 obtain ⟨a,xs,rfl,ha,hr⟩:=nI h;unfold aW aW aW aW aW at hr;obtain ⟨x0,_,rfl,r0,x1,_,rfl,r1,x2,_,rfl,r2,x3,_,rfl,r3,rfl⟩:=hr;cases (show x0=V.int (M:Int) from r0);exact ⟨a,x1,x2,x3,rfl,ha,r1,r2,r3⟩
theorem gF{α:Type}{l:List α}{i:Nat}{a d:α}(h:l[i]?=some a):l.getD i d=a:=by rw [bJ,h];rfl
structure rE(K:PySem.W.Frag)(H:Hp)(fs:List Fr)(xs:List V):Prop where
 len:xs.length=fs.length
 at_:∀(i:Nat) (x:V),xs[i]?=some x->∃f,fs[i]?=some f/\yM K H f x
theorem rE.t{K:PySem.W.Frag}{H H':Hp}{fs:List Fr}{xs:List V}(s:dB H H')(h:rE K H fs xs):rE K H' fs xs:=⟨h.len,λi x e=>by
 obtain ⟨f,h1,h2⟩:=h.at_ i x e;exact ⟨f,h1,h2.t s⟩⟩
theorem rE.v{K:PySem.W.Frag}{H:Hp}{fs:List Fr}{xs:List V}(h:rE K H fs xs):rX K H fs xs:=⟨h.len,λi x e=>by
 obtain ⟨f,h1,h2⟩:=h.at_ i x e;exact ⟨f,h1,h2.v⟩⟩
structure DI(kvs:List (List eZ × V))(rs:List (List Nat))(h:List Nat->Rat):Prop where
 yes:∀c∈rs,∃n:Int,fM kvs (kT (ci c))=some (.int n)/\(n:Rat)=h c
 no:∀c,c ∉ rs->fM kvs (kT (ci c))=none
 len:kvs.length<=rs.length
theorem DI.put{kvs:List (List eZ × V)}{rs:List (List Nat)}{h:List Nat->Rat}(D:DI kvs rs h){c:List Nat}{n:Int}(e:(n:Rat)=h c):DI (iR kvs (kT (ci c)) (.int n)) (rs++[c]) h:=by
 refine ⟨λd hd=>?_,λd hd=>?_,?_⟩
 ·rw [hZ];by_cases q:d=c
  ·subst q;rw [if_pos rfl];exact ⟨n,rfl,e⟩
  ·rw [if_neg λz=>q (kM (mV z))];rcases bX.mp hd with hd | hd
   ·exact D.yes d hd
   ·exact absurd (bG.mp hd) q
 ·rw [hZ,if_neg λz=>hd (aN _ (bG.mpr (kM (mV z))))];exact D.no d λz=>hd (bV _ z)
 ·have:=eX kvs (kT (ci c)) (V.int n);have:=D.len;rw [bE,List.length_singleton];omega
@[irreducible] def mN(K:PySem.W.Frag):Sp:=λvs H Q _=>∃(a b:Addr) (rs:List (List Nat)) (ys:List V) (g:List Nat->Fr) (U:Nat),vs=[.ref a,.ref b,.int (U:Int)]/\iD H a rs/\H b=some (.lst ys)/\rE K H (rs.map g) ys/\rs.length<=400/\U<2^3000/\(∀c∈rs,dA (g c)/\mZ 4000 (g c)/\(g c).2.natAbs ∣ U)/\∀p kvs H',aY H H'->H p=none->H' p=some (.dT kvs)->DI kvs rs (λc=>rv (g c)*(U:Rat))->Q (.ref p) H'
theorem sO{K:PySem.W.Frag}{H:Hp}{Q:VK}{E:XK}{a b:Addr}{rs:List (List Nat)}{ys:List V}{g:List Nat->Fr}{U:Nat}(h1:iD H a rs)(h2:H b=some (.lst ys))(h3:rE K H (rs.map g) ys)(h4:rs.length<=400)(h5:U<2^3000)(h6:∀c∈rs,dA (g c)/\mZ 4000 (g c)/\(g c).2.natAbs ∣ U)
  (k:∀p kvs H',aY H H'->H p=none->H' p=some (.dT kvs)->DI kvs rs (λc=>rv (g c)*(U:Rat))->Q (.ref p) H'):mN K [.ref a,.ref b,.int (U:Int)] H Q E:=by
 unfold mN;exact ⟨a,b,rs,ys,g,U,rfl,h1,h2,h3,h4,h5,h6,k⟩
section
theorem aC3(F:jT K "in_units" "in_units" UD f fd)(T:lB K mg c)(FQ44:gM dP P w K mg base 1 "times_whole" ["one","unit"] (lT K)):dY P w K mg base dP 2 f fd ["rising","some","unit"] (mN K):=by
 refine F.oky XH λvs H Q E h=>?_;unfold mN at h;obtain ⟨a,b,rs,ys,g,U,rfl,LS,hb,rb,l4,uz,hg,k⟩:=h;refine ⟨rfl,λcdv A outer s hr=>?_⟩;obtain ⟨xs,ha,rx,lx⟩:=LS.len;refine ⟨_,(aH (bK (i:=3) XH.nd rfl (Or.inl rfl) mC)
  (aH (fF PassesOwn.never rfl (AK false false rfl T.b_zip (aJ (aD 0) (aJ (aD 1) aE))) (wM rfl (iY (dF (i:=4) XH.nd rfl (Or.inl rfl)) (iY (dF (i:=5) XH.nd rfl (Or.inl rfl)) sC))) (bD (iE hr.u1 (aD 3) (aD 4) (bS FQ44 (hr.mono Dd) (aJ (aD 5) (aJ (aD 2) aE))))))
  (bD (cI (aD 3))))),?_⟩
 intro p hp;have s1:=aY.upd (o:=.dT []) hp;have e1:(upd H p (.dT [])) p=some (.dT []):=bM;generalize upd H p (.dT [])=H1 at s1 e1;have nap:a≠p:=λz=>by rw [z,hp] at ha;cases ha
 have nbp:b≠p:=λz=>by rw [z,hp] at hb;cases hb
 refine ⟨_,rfl,_,rfl,?_⟩;refine ⟨a,b,xs,ys,rfl,s1 _ _ ha,s1 _ _ hb,?_⟩;refine JD (xs:=xs) (ys:=ys) (λi σ H'=>∃(o4 o5:Option V) (kvs:List (List eZ × V)),σ=[some (.ref a),some (.ref b),some (.int (U:Int)),some (.ref p),o4,o5]/\aQ p H1 H'/\H' p=some (.dT kvs)/\DI kvs (rs.take i) (λc=>rv (g c)*(U:Rat))) ⟨_,_,[],rfl,(aY.refl _).but,e1,⟨λc hc=>by simp at hc,λc _=>rfl,cE _⟩⟩ (λi σ H' ⟨_,_,_,_,b',_⟩=>?_) ?_ ?_
 ·exact ⟨b'.at nap (s1 _ _ ha),b'.at nbp (s1 _ _ hb)⟩
 ·rintro i y z q3 σ H3 H4 hy hz ⟨o4,o5,kvs,rfl,b3,e3,D3⟩ hq3 e4 s4;obtain ⟨cc,hc,rc⟩:=eW rx hy;obtain ⟨f',hf',fw⟩:=rb.at_ i z hz;have ef:f'=g cc:=by rw [aM,hc] at hf';simpa using hf'.symm
  subst ef;obtain ⟨lg,zg,dg⟩:=hg cc (aG hc);have t3:dB H1 H3:=aQ.tT b3 e1;have t04:dB H H4:=(s1.t.trans t3).trans s4.t;obtain ⟨ac,rfl,hac⟩:=gG (rc.flat t04 (jZ _));refine ⟨q3,_,rfl,jH.of e4,rfl,_,_,rfl,_,_,rfl,rfl,?_⟩;refine ⟨_,rfl,_,rfl,?_⟩;refine vG (fw.t t04).v lg zg uz dg λn hn=>?_;refine ⟨_,rfl,_,rfl,?_⟩;have l3:=D3.len;rw [cL] at l3;refine QU (s4 _ _ e3) (c:=ci cc) (by rw [eE];exact hac) Oo λH5 e5 b5=>?_;refine ⟨_,_,_,rfl,(b3.trans s4.but).trans b5,e5,?_⟩;rw [eN hc];exact D3.put hn
 ·rintro σ H3 ⟨o4,o5,kvs,rfl,b3,e3,D3⟩;have ly:ys.length=rs.length:=by rw [rb.len,aA]
  rw [show min xs.length ys.length=rs.length by omega,cR] at D3;exact ⟨_,rfl,k p kvs H3 (aY.thru hp s1 b3) hp e3 D3⟩
end
abbrev OI:Stmt:=(top 31)
theorem aCe:cA ["trial","aim","counts","met"] ["trial","aim","counts"] (aX OI):=⟨rfl,rfl,rfl,Kk,rfl,Kk,Kk⟩
def HC(W:Nat)(ss:List (List Fr))(mix cs:List Fr)(c:List Nat):Rat:=dU cs c.sum*cN W λw=>dU mix w*fX ss w c
theorem JS{F W M:Nat}{ss:List (List Fr)}{mix ps cs:List Fr}{Ns Nm Np Nc B:Nat}(I:iO F W M ss mix ps cs Ns Nm Np Nc B){c:List Nat}(hc:c.sum<M):Fn (lP M Ns Nm Np Nc) (B*4) (iC (HC W ss mix cs c)):=by
 have h1:=(I.co _ (fH (a:=(0,1)) (show c.sum<cs.length by rw [I.cl];exact hc))).q;have h2:=Qn.sumR (n:=W) λw hw=>I.met hw (Nat.le_of_lt hc);have h3:=(h1.mul h2).le (Nat.mul_le_mul_left B (show W*1<=4 by have:=I.w4;omega));exact (h3.dvd ⟨Np,by unfold lP;ac_rfl⟩).fq
@[irreducible] def kX:Sp:=λvs H Q _=>∃(tv av cv:V) (fs:List Str) (ws:List (Str × List Fr)) (bs mix ps cs:List Fr) (c:List Nat) (F W M Ns Nm Np Nc B:Nat),vs=[tv,av,cv]/\cC H (qN fs ws) tv/\cC H (lM M bs mix cs) av/\cC H (kC c) cv/\iO F W M (eP ws) mix ps cs Ns Nm Np Nc B/\(∀x∈ws,BOk 10 x.2)/\c.sum<M/\∀v H',aY H H'->cC H' (fY (iC (HC W (eP ws) mix cs c))) v->Q v H'
theorem yF(h1:cC H (qN fs ws) tv)(h2:cC H (lM M bs mix cs) av)(h3:cC H (kC c) cv)(I:iO F W M (eP ws) mix ps cs Ns Nm Np Nc B)(b:∀x∈ws,BOk 10 x.2)(hc:c.sum<M)(k:∀v H',aY H H'->cC H' (fY (iC (HC W (eP ws) mix cs c))) v->Q v H'):kX [tv,av,cv] H Q E:=by
 unfold kX;exact ⟨tv,av,cv,fs,ws,bs,mix,ps,cs,c,F,W,M,Ns,Nm,Np,Nc,B,rfl,h1,h2,h3,I,b,hc,k⟩
section
theorem aC1(F:jT K "look_cost" "look_cost" OI f fd)(T:lB K mg c)(FQ43:gM dP P w K mg base 2 "times" ["one","other"] (mE K))(FQ48:gM dP P w K mg base 3 "weight" ["trial","way","counts"] (lQ K))(FQ47:gM dP P w K mg base 1 "ways_of" ["trial"] lS)(FQ45:gM dP P w K mg base 3 "total" ["some"] (pJ K)):dY P w K mg base dP 4 f fd ["trial","aim","counts"] kX:=by
 refine F.oky aCe λvs H Q E h=>?_;unfold kX at h;obtain ⟨tv,av,cv,fs,ws,bs,mix,ps,cs,cc,F,W,M,Ns,Nm,Np,Nc,B,rfl,rt,ra,rc,I,hbo,hc,k⟩:=h;refine ⟨rfl,λcdv A outer s hr=>?_⟩;obtain ⟨aa,xb,xm,xc,rfl,haa,rxb,rxm,rxc⟩:=uW ra;obtain ⟨am,vm,rfl,ham,rvm⟩:=mP rxm;obtain ⟨ac,vc,rfl,hac,rvc⟩:=mP rxc;obtain ⟨cu,rfl,hcu⟩:=gG rc;have wl:ws.length=W:=by have:=I.sl;rw [aA] at this;exact this
 have w4:=I.w4;have m5:=I.m5;refine ⟨_,(aH (gZ (i:=3) (dI.of (psc:=aX OI) (N:=["trial","aim","counts","met"]) (N':=["way","trial","aim","counts"]) (js:=[0,1,2]) Kk rfl rfl rfl) aCe.nd rfl rfl (cP rfl T.b_range (aJ (bS FQ47 (hr.mono Dd) (aJ (aD 0) aE)) aE)) (λ_ _ _ _=>dR) (λ_ _ _ _=>(bS FQ43 (hr.mono Dd) (aJ (bT (iS K) (bT (iS K) (aD 2) aL (λ_ _=>rfl)) (aD 0) (λ_ _=>rfl)) (aJ (bS FQ48 (hr.mono Dd) (aJ (aD 1) (aJ (aD 0) (aJ (aD 3) aE)))) aE)))))
  (bD (cI (bS FQ43 (hr.mono Dd) (aJ (bT bL (bT bL (aD 1) aL (λ_ _=>rfl)) (eG (qZ K rfl) (by rfl) T.b_sum Kk (aJ (aD 2) aE)) (λ_ _=>rfl)) (aJ (bS FQ45 (hr.mono Dd) (aJ (aD 3) aE)) aE)))))),?_⟩
 refine ⟨_,rfl,?_⟩;refine vF rt ?_;rw [wl];refine ⟨_,rfl,Oo,Oo,?_⟩;refine gW (λi y H'=>i<W/\cC H' (fY (kD (eP ws) mix cc i)) y) (λi y H1 H2 s ⟨h1,h2⟩=>⟨h1,h2.flat s (cQ _)⟩) Oo (λi H' Q' hi s' k'=>?_) (λD ys H1 hD e1 s1 hy hr1=>?_)
 ·have hi:i<W:=Oo;obtain ⟨x,hx⟩:∃x,ws[i]?=some x:=⟨_,aB (by rw [wl];exact hi)⟩;have hxm:=aG hx;obtain ⟨g,hg⟩:∃g,mix[i]?=some g:=⟨_,aB (by rw [I.ml];exact hi)⟩;obtain ⟨vg,hvg,rvg⟩:=eI rvm hg;rw [Int.zero_add];refine ⟨_,rfl,?_⟩;refine lA (s' _ _ haa) rfl ?_;refine ⟨_,rfl,?_⟩;refine lA (s' _ _ ham) (cT hvg) ?_;refine ⟨_,rfl,_,rfl,_,rfl,?_⟩;refine vE (rt.same s') hx (rc.same s') (hbo x hxm) Oo λxw H2 s2 fw=>?_;have eg:mix.getD i (0,1)=g:=gF hg;have ex:(eP ws).getD i []=x.2:=gF (by rw [aM,hx];rfl);have n1:=CM I hi;have n2:=wI I hi (Nat.le_of_lt hc);rw [eg] at n1;rw [ex] at n2;refine oP (gR.of ((rvg.same s').same s2)) fw.v n1.low n2.low (iF I n1 (aK (show 1<=1000000000000 by decide) kN)) (iF I n2 (aK (show 1<=1000000000000 by decide) kN)) λq3 H3 hq3 e3 s3=>?_;refine k' _ H3 (s2.trans s3) ⟨hi,dE ?_⟩;unfold kD;rw [e3,eg,ex]
 have r1:aW H1 (((List.range W).map (kD (eP ws) mix cc)).map fY) ys:=aW.ofRange Oo hr1;have fl:∀f∈(List.range W).map (kD (eP ws) mix cc),Fn (lP M Ns Nm Np Nc) 1 f:=λf hf=>by
  obtain ⟨i,hi,rfl⟩:=aV.mp hf;exact FL I (bR.mp hi) (Nat.le_of_lt hc)
 obtain ⟨tl,tvq⟩:=IK (n:=W) (g:=kD (eP ws) mix cc) λi hi=>(oI I hi cc).1;have tn:Fn (lP M Ns Nm Np Nc) 4 (kW ((List.range W).map (kD (eP ws) mix cc))):=by
  have:=Fn.tot _ fl;rw [aA,aZ] at this;exact this.le Oo
 obtain ⟨gc,hgc⟩:∃g,cs[cc.sum]?=some g:=⟨_,aB (by rw [I.cl];exact hc)⟩;obtain ⟨vgc,hvgc,rvgc⟩:=eI rvc hgc;have egc:cs.getD cc.sum (0,1)=gc:=gF hgc;have n5:=JT I hc;rw [egc] at n5;refine ⟨_,rfl,?_⟩;refine lA (s1 _ _ haa) rfl ?_;refine ⟨_,rfl,?_⟩;refine rsT (ns:=ci cc) (by rw [eE];exact jH.of (s1 _ _ hcu)) ?_;rw [uU];refine lA (s1 _ _ hac) (cT hvgc) ?_;refine ⟨_,rfl,?_⟩;refine FZ e1 (rX.of r1) (yB fl I.pos I.sz (by rw [aA,aZ];omega) (aK (show 1<=1000000000000 by decide) kN)) λv2 H2 s2 r2=>?_;have hB:=I.b;refine oP (gR.of ((rvgc.same s1).same s2)) (gR.of r2) n5.low tl (iF I n5 (aK (show B<=1000000000000 by omega) kN)) (iF I tn (aK (show 4<=1000000000000 by decide) kN)) λq3 H3 hq3 e3 s3=>?_;refine k _ H3 ((s1.trans s2).trans s3) (dE ?_);rw [e3];have em:iV gc (kW ((List.range W).map (kD (eP ws) mix cc)))=iC (HC W (eP ws) mix cs cc):=iM (gI n5.low tl) (cB _) (by
  rw [iB n5.low.pos tl.pos,eS,tvq];unfold HC;rw [show dU cs cc.sum=rv gc by unfold dU;rw [egc]];congr 1;exact dC λi hi=>(oI I hi cc).2)
 rw [em]
end
abbrev US:Stmt:=(top 42)
theorem aDK:cA ["_law_one","_law_other"] ["_law_one","_law_other"] (aX US):=⟨rfl,rfl,rfl,Kk,rfl,Kk,Kk⟩
abbrev sQ9:Stmt:=(top 43)
theorem cQ9:cA ["_law_one","_law_other"] ["_law_one","_law_other"] (aX sQ9):=⟨rfl,rfl,rfl,Kk,rfl,Kk,Kk⟩
abbrev UN:Stmt:=(top 44)
theorem aDI:cA ["_law_one","_law_other"] ["_law_one","_law_other"] (aX UN):=⟨rfl,rfl,rfl,Kk,rfl,Kk,Kk⟩
abbrev UT:Stmt:=(top 41)
theorem aDL:cA ["_law_counts_here","_law_face"] ["_law_counts_here","_law_face"] (aX UT):=⟨rfl,rfl,rfl,Kk,rfl,Kk,Kk⟩
abbrev sQ2:Stmt:=(top 45)
theorem cQ2:cA ["_law_one","_law_other"] ["_law_one","_law_other"] (aX sQ2):=⟨rfl,rfl,rfl,Kk,rfl,Kk,Kk⟩
abbrev UM:Stmt:=(top 46)
theorem XN:cA ["_law_some_here","_law_found","_law_one"] ["_law_some_here"] (aX UM):=⟨rfl,rfl,rfl,Kk,rfl,Kk,Kk⟩
abbrev UL:Stmt:=(top 52)
theorem RS:cA ["_law_trial_here","_law_way","_law_counts_here","_law_found","_law_face","_law_k"] ["_law_trial_here","_law_way","_law_counts_here"] (aX UL):=⟨rfl,rfl,rfl,Kk,rfl,Kk,Kk⟩
abbrev sQ4:Stmt:=(top 53)
theorem XF:cA ["_law_faces","_law_most","_law_found","_law_level","_law_k","_law_more_here","_law_counts_here","_law_face"] ["_law_faces","_law_most"] (aX sQ4):=⟨rfl,rfl,rfl,Kk,rfl,Kk,Kk⟩
@[irreducible] def mJ(K:PySem.W.Frag):Sp:=λvs H Q _=>∃x y f g,vs=[x,y]/\gR K H f x/\gR K H g y/\dA f/\dA g/\mZ 4000 f/\mZ 4000 g/\tX H Q (qJ f g)
theorem mI{K:PySem.W.Frag}(h1:gR K H f x)(h2:gR K H g y)(l1:dA f)(l2:dA g)(z1:mZ 4000 f)(z2:mZ 4000 g)(q:tX H Q (qJ f g)):mJ K [x,y] H Q E:=by unfold mJ;exact ⟨x,y,f,g,rfl,h1,h2,l1,l2,z1,z2,q⟩
@[irreducible] def jQ(K:PySem.W.Frag):Sp:=λvs H Q _=>∃x y f g,vs=[x,y]/\gR K H f x/\gR K H g y/\dA f/\dA g/\mZ 4000 f/\mZ 4000 g/\tX H Q (iV f g)
theorem fJ{K:PySem.W.Frag}(h1:gR K H f x)(h2:gR K H g y)(l1:dA f)(l2:dA g)(z1:mZ 4000 f)(z2:mZ 4000 g)(q:tX H Q (iV f g)):jQ K [x,y] H Q E:=by unfold jQ;exact ⟨x,y,f,g,rfl,h1,h2,l1,l2,z1,z2,q⟩
section
theorem aDn(F:jT K "_law_plus" "_law_plus" US f fd)(T:lB K mg c)(FQ7:gM dP P w K mg base 1 "_law_frac" ["_law_n","_law_d"] jC):dY P w K mg base dP 2 f fd ["_law_one","_law_other"] (mJ K):=by
 refine F.oky aDK λvs H Q E h=>?_;unfold mJ at h;obtain ⟨x,y,f,g,rfl,h1,h2,l1,l2,z1,z2,q⟩:=h;refine ⟨rfl,λcdv A outer s hr=>?_⟩;obtain ⟨p1,rfl,e1⟩:=h1;obtain ⟨p2,rfl,e2⟩:=h2;refine ⟨_,(bD (cI (bS FQ7 (hr.mono Dd) (aJ (bQ dQ (bQ dO (bT bL (aD 0) aL (λ_ _=>rfl)) (bT bL (aD 1) aL (λ_ _=>rfl))) (bQ dO (bT bL (aD 1) aL (λ_ _=>rfl)) (bT bL (aD 0) aL (λ_ _=>rfl)))) (aJ (bQ dO (bT bL (aD 0) aL (λ_ _=>rfl)) (bT bL (aD 1) aL (λ_ _=>rfl))) aE))))),?_⟩;refine ⟨_,rfl,?_⟩;refine nG e1 rfl ?_;refine ⟨_,rfl,?_⟩;refine nG e2 rfl ?_;refine ⟨_,_,rfl,rfl,nJ z1.1 z2.2,?_⟩;refine ⟨_,rfl,?_⟩;refine nG e2 rfl ?_;refine ⟨_,rfl,?_⟩;refine nG e1 rfl ?_;refine ⟨_,_,rfl,rfl,nJ z2.1 z1.2,_,_,rfl,rfl,?_⟩;refine ⟨_,rfl,?_⟩;refine nG e1 rfl ?_;refine ⟨_,rfl,?_⟩;refine nG e2 rfl ?_;refine ⟨_,_,rfl,rfl,nJ z1.2 z2.2,?_⟩;refine iL (Int.mul_pos l1.pos l2.pos) (jK (wQ z1.2 z2.2)) ?_;exact q
theorem aDh(F:jT K "_law_times" "_law_times" UN f fd)(T:lB K mg c)(FQ7:gM dP P w K mg base 1 "_law_frac" ["_law_n","_law_d"] jC):dY P w K mg base dP 2 f fd ["_law_one","_law_other"] (jQ K):=by
 refine F.oky aDI λvs H Q E h=>?_;unfold jQ at h;obtain ⟨x,y,f,g,rfl,h1,h2,l1,l2,z1,z2,q⟩:=h;refine ⟨rfl,λcdv A outer s hr=>?_⟩;obtain ⟨p1,rfl,e1⟩:=h1;obtain ⟨p2,rfl,e2⟩:=h2;refine ⟨_,(bD (cI (bS FQ7 (hr.mono Dd) (aJ (bQ dO (bT bL (aD 0) aL (λ_ _=>rfl)) (bT bL (aD 1) aL (λ_ _=>rfl))) (aJ (bQ dO (bT bL (aD 0) aL (λ_ _=>rfl)) (bT bL (aD 1) aL (λ_ _=>rfl))) aE))))),?_⟩;refine ⟨_,rfl,?_⟩;refine nG e1 rfl ?_;refine ⟨_,rfl,?_⟩;refine nG e2 rfl ?_;refine ⟨_,_,rfl,rfl,nJ z1.1 z2.1,?_⟩;refine ⟨_,rfl,?_⟩;refine nG e1 rfl ?_;refine ⟨_,rfl,?_⟩;refine nG e2 rfl ?_;refine ⟨_,_,rfl,rfl,nJ z1.2 z2.2,?_⟩;refine iL (Int.mul_pos l1.pos l2.pos) (jK (wQ z1.2 z2.2)) ?_;exact q
end
@[irreducible] def lV(K:PySem.W.Frag):Sp:=λvs H Q _=>∃a xs fs,vs=[.ref a]/\H a=some (.lst xs)/\rX K H fs xs/\AC fs/\∀v H',aY H H'->cC H' (fY (kW fs)) v->Q v H'
theorem nC{K:PySem.W.Frag}(h:H a=some (.lst xs))(r:rX K H fs xs)(ok:AC fs)(q:∀v H',aY H H'->cC H' (fY (kW fs)) v->Q v H'):lV K [.ref a] H Q E:=by unfold lV;exact ⟨a,xs,fs,rfl,h,r,ok,q⟩
section
theorem aDg(F:jT K "_law_total" "_law_total" UM f fd)(T:lB K mg c)
  (FQ12:gM dP P w K mg base 2 "_law_plus" ["_law_one","_law_other"] (mJ K)):dY P w K mg base dP 3 f fd ["_law_some_here"] (lV K):=by
 refine F.oky XN λvs H Q E h=>?_;unfold lV at h;obtain ⟨a,vs,fs,rfl,ha,hv,ok,q⟩:=h;refine ⟨rfl,λcdv A outer s hr=>?_⟩;have hlen:=hv.len;refine ⟨_,(aH (bK (i:=1) XN.nd rfl (Or.inl rfl) (dS (aJ aL (aJ aL aE))))
  (aH (fF PassesOwn.never rfl (fD (aD 0)) (dF (i:=2) XN.nd rfl (Or.inl rfl)) (bD (bK (i:=1) XN.nd rfl (Or.inl rfl) (bS FQ12 (hr.mono Dd) (aJ (aD 1) (aJ (aD 2) aE))))))
  (bD (cI (aD 1))))),?_⟩
 refine pY (by show 2<=64;decide) λp0 H0 hp0 e0 s0=>?_;refine ⟨_,rfl,a,rfl,⟨_,fN.of (s0 _ _ ha)⟩,?_⟩;refine jY (xs:=vs) (λi σ H'=>∃w o2,σ=[some (.ref a),some w,o2]/\aY H H'/\cC H' (fY (kW (fs.take i))) w) ⟨_,_,rfl,s0,dE e0⟩ (λi σ H' _ p=>?_) ?_ ?_
 ·obtain ⟨w,o2,rfl,s1,_⟩:=p;exact fN.of (s1 _ _ ha)
 ·rintro i x σ H1 hx ⟨w,o2,rfl,s1,r1⟩;obtain ⟨g,hg,rg⟩:=hv.at_ i x hx;have hm:=aG hg;obtain ⟨t1,t2⟩:=ok.part i;refine ⟨_,rfl,_,rfl,?_⟩;refine mI (gR.of r1) (gR.same s1 rg) t1 (ok.low _ hm) t2 (ok.sz _ hm) ?_;intro p2 H2 hp2 e2 s2;refine ⟨_,_,rfl,s1.trans s2,?_⟩;rw [eN hg,nS];exact dE e2
 ·rintro σ H1 ⟨w,o2,rfl,s1,r1⟩;refine ⟨_,rfl,?_⟩;rw [hlen,cR] at r1;exact q _ H1 s1 r1
end
section
theorem oQ2(F:jT K "_law_below" "_law_below" sQ2 f fd)(T:lB K mg c):dY P w K mg base dP 1 f fd ["_law_one","_law_other"] (sM K):=by
 refine F.oky cQ2 λvs H Q E h=>?_;unfold sM at h;obtain ⟨x,y,f,g,rfl,⟨p1,rfl,e1⟩,⟨p2,rfl,e2⟩,z1,z2,q⟩:=h;refine ⟨rfl,λcdv A outer s hr=>?_⟩;refine ⟨_,(bD (cI (wN xC (bQ dO (bT bL (aD 0) aL (λ_ _=>rfl)) (bT bL (aD 1) aL (λ_ _=>rfl))) (bQ dO (bT bL (aD 1) aL (λ_ _=>rfl)) (bT bL (aD 0) aL (λ_ _=>rfl))) (nomark _)))),?_⟩;refine ⟨_,rfl,?_⟩;refine nG e1 rfl ?_;refine ⟨_,rfl,?_⟩;refine nG e2 rfl ?_;refine ⟨_,_,rfl,rfl,nJ z1.1 z2.2,?_⟩;refine ⟨_,rfl,?_⟩;refine nG e2 rfl ?_;refine ⟨_,rfl,?_⟩;refine nG e1 rfl ?_;refine ⟨_,_,rfl,rfl,nJ z2.1 z1.2,_,_,rfl,rfl,?_⟩;exact q
end
section
theorem aDp(F:jT K "_law_more" "_law_more" UT f fd)(T:lB K mg c):dY P w K mg base dP 1 f fd ["_law_counts_here","_law_face"] fI:=by
 refine F.oky aDL λvs H Q E h=>?_;unfold fI at h;obtain ⟨x,cs,i,rfl,rx,hi,hl,k⟩:=h;refine ⟨rfl,λcdv A outer s hr=>?_⟩;obtain ⟨a,rfl,ha⟩:=gG rx;refine ⟨_,(bD (cI (bQ (sY K) (bQ (sY K) (iZ (vX K) (aD 0) kR (kQ (aD 1))) (dS (aJ (bQ dQ (bT bL (aD 0) (aD 1) (λ_ _=>rfl)) aL) aE))) (iZ (vX K) (aD 0) (kQ (bQ dQ (aD 1) aL)) kR)))),?_⟩;refine ⟨_,rfl,_,rfl,_,rfl,?_⟩;refine OB ha λc2 H2 s2 e2=>?_;refine ⟨_,rfl,_,rfl,?_⟩;have hat:yI (cs.map zU) (i:Int)=some (zU (cs.getD i 0)):=cT (by rw [aM,bJ,aB hi];rfl);refine lA (s2 _ _ ha) hat ?_;refine ⟨_,_,rfl,rfl,?_⟩;refine pY (by show 1<=64;decide) λc3 H3 hc3 e3 s3=>?_;refine RJ (s3 _ _ e2) e3 (by rw [cL,aA];show min i cs.length+1<=1000;omega) λc4 H4 s4 e4=>?_;refine ⟨_,rfl,_,rfl,_,_,rfl,rfl,?_⟩;refine ⟨_,rfl,?_⟩;refine II (k:=i+1) Oo (s4 _ _ (s3 _ _ (s2 _ _ ha))) λc5 H5 s5 e5=>?_;refine RJ (s5 _ _ e4) e5 (by rw [bE,cL,List.length_drop,aA];show min i cs.length+1+(cs.length-(i+1))<=1000;omega) λc6 H6 s6 e6=>?_;refine k _ H6 ((((s2.trans s3).trans s4).trans s5).trans s6) (nM ?_);rw [e6,FF hi,bF,bF,List.map_take,List.map_drop]
 rfl
end
theorem lX{α:Type}[DecidableEq α]:∀{l m:List α},l.Nodup->(∀x∈l,x∈m)->l.length<=m.length
 | [],m,_,_=>cE _
 | x::l,m,h,hs=>by
  rw [List.nodup_cons] at h;have hx:=hs x (aU ..);have h1:=lX (l:=l) (m:=m.erase x) h.2 λy hy=>(List.mem_erase_of_ne (λe=>by subst e;exact h.1 hy)).mpr (hs y (aR _ hy));rw [List.length_erase_of_mem hx] at h1;have:0<m.length:=List.length_pos_of_mem hx;rw [bU];omega
theorem QK{kvs:List (List eZ × V)}{ks:List (List Int)}{v:V}(c:List Int)(hk:kvs.map (·.1)=ks.map kT)(nd:ks.Nodup):∃ks2:List (List Int),(iR kvs (kT c) v).map (·.1)=ks2.map kT/\ks2.Nodup/\∀x,x∈ks2↔x∈ks\/x=c:=by
 cases e:fM kvs (kT c) with
 | some u =>
  refine ⟨ks,by rw [rH (by rw [e];rfl),hk],nd,λx=>⟨.inl,λh=>?_⟩⟩;rcases h with h | rfl
  ·exact h
  ·have:kT x∈kvs.map (·.1):=SX e;rw [hk] at this;obtain ⟨y,hy,ey⟩:=aV.mp this;rw [<-mV ey];exact hy
 | none =>
  have hn:c ∉ ks:=λh=>by
   have:kT c∈kvs.map (·.1):=by rw [hk];exact List.mem_map_of_mem h
   exact NG e this
  refine ⟨ks++[c],by rw [OY v e,bF,bF,hk];rfl,List.nodup_append.mpr ⟨nd,by simp,λa ha b hb e=>by cases bG.mp hb;subst e;exact hn ha⟩,λx=>by rw [bX,bG]⟩
theorem JL:∀F,F<=4->∀m,m<=5->((cta F m).map ci).Pairwise (λa b=>jX a b=true):=Kk
theorem OR:∀F,F<=4->∀M,M<=5->(rise F M).length<=400:=λF hF M hM=>rA F hF (M+1) Oo
@[irreducible] def kI:Sp:=λvs H Q _=>∃(tv cv:V) (fs:List Str) (ws:List (Str × List Fr)) (x:Str × List Fr) (cs:List Nat) (i N:Nat),vs=[tv,.int (i:Int),cv]/\cC H (qN fs ws) tv/\ws[i]?=some x/\cC H (kC cs) cv/\x.2.length=cs.length/\(∀f∈x.2,Fn N 1 f)/\0<N/\N^cs.sum<2^3000/\cs.length<=4/\cs.sum<=100/\∀v H',aY H H'->cC H' (fY (jP (x.2.zip cs))) v->Q v H'
theorem sL{H:Hp}{Q:VK}{E:XK}{tv cv:V}{fs:List Str}{ws:List (Str × List Fr)}{x:Str × List Fr}{cs:List Nat}{i N:Nat}(h1:cC H (qN fs ws) tv)(h2:ws[i]?=some x)(h3:cC H (kC cs) cv)(h4:x.2.length=cs.length)(h5:∀f∈x.2,Fn N 1 f)(h6:0<N)(h7:N^cs.sum<2^3000)(h8:cs.length<=4)(h9:cs.sum<=100)(k:∀v H',aY H H'->cC H' (fY (jP (x.2.zip cs))) v->Q v H'):kI [tv,.int (i:Int),cv] H Q E:=by
 unfold kI;exact ⟨tv,cv,fs,ws,x,cs,i,N,rfl,h1,h2,h3,h4,h5,h6,h7,h8,h9,k⟩
theorem NL{cs:List Nat}{i n:Nat}(h:cs[i]?=some n):(cs.take i).sum+n<=cs.sum:=by
 have e:cs.take (i+1)=cs.take i++[n]:=eN h;have:=List.take_append_drop (i+1) cs;have h2:=congrArg List.sum this;rw [e,List.sum_append,List.sum_append,List.sum_singleton] at h2;omega
@[irreducible] def mL:Sp:=λvs H Q _=>∃F M:Nat,vs=[.int (F:Int),.int (M:Int)]/\2<=F/\F<=4/\M<=5/\∀a H',aY H H'->H a=none->iD H' a (rise F M)->Q (.ref a) H'
theorem AY(h1:2<=F)(h2:F<=4)(h3:M<=5)(k:∀a H',aY H H'->H a=none->iD H' a (rise F M)->Q (.ref a) H'):mL [.int (F:Int),.int (M:Int)] H Q E:=by
 unfold mL;exact ⟨F,M,rfl,h1,h2,h3,k⟩
theorem ctI(c:List Nat):PyData.tuple ((ci c).map .int)=kC c:=by unfold ci;rw [List.map_map];rfl
section
theorem aDe(F:jT K "_law_weight" "_law_weight" UL f fd)(T:lB K mg c)(FQ18:gM dP P w K mg base 2 "_law_times" ["_law_one","_law_other"] (jQ K)):dY P w K mg base dP 3 f fd ["_law_trial_here","_law_way","_law_counts_here"] kI:=by
 refine F.oky RS λvs H Q E h=>?_;unfold kI at h;obtain ⟨tv,cv,fs,ws,x,cs,iw,N,rfl,rt,hx,rc,hl,hN,N0,Nz,c4,c100,k⟩:=h;refine ⟨rfl,λcdv A outer s hr=>?_⟩;obtain ⟨at_,af,aw,xf,xw,rfl,hat,hf,hw,rf,rw'⟩:=wO rt;obtain ⟨u,hu,ru⟩:=eI rw' hx;obtain ⟨b,us,rfl,hb,rus⟩:=nI ru;obtain ⟨y,z,rfl,hy,hz⟩:=xZ rus;obtain ⟨as_,xs,rfl,has,rxs⟩:=mP hz;obtain ⟨ac,rfl,hac⟩:=gG rc;refine ⟨_,(aH (bK (i:=3) RS.nd rfl (Or.inl rfl) (dS (aJ aL (aJ aL aE))))
  (aH (fF PassesOwn.never rfl (cP rfl T.b_range (aJ (eG gB (by rfl) T.b_len Kk (aJ (aD 2) aE)) aE)) (dF (i:=4) RS.nd rfl (Or.inl rfl)) (bD (fF PassesOwn.never rfl (cP rfl T.b_range (aJ (bT bL (aD 2) (aD 4) (λ_ _=>rfl)) aE)) (dF (i:=5) RS.nd rfl (Or.inl rfl)) (bD (bK (i:=3) RS.nd rfl (Or.inl rfl) (bS FQ18 (hr.mono Dd) (aJ (aD 3) (aJ (bT bL (bT bL (bT bL (bT bL (aD 0) aL (λ_ _=>rfl)) (aD 1) (λ_ _=>rfl)) aL (λ_ _=>rfl)) (aD 4) (λ_ _=>rfl)) aE))))))))
  (bD (cI (aD 3))))),?_⟩
 refine pY (by show 2<=64;decide) λq0 H0 hq0 e0 s0=>?_;refine ⟨_,rfl,?_⟩;refine KZ (s0 _ _ hac) ?_;rw [aA];refine ⟨_,rfl,Oo,Oo,?_⟩;rw [Int.toNat_natCast];have low:∀i,∀z∈(x.2.zip cs).take i,dA z.1:=λi z hz=>(hN _ (lI hz)).low;refine fZ (λi σ H'=>∃(v:V) (f:Fr) (o4 o5:Option V),σ=[some (.ref at_),some (.int (iw:Int)),some (.ref ac),some v,o4,o5]/\aY H H'/\cC H' (fY f) v/\dA f/\Qn (N^(cs.take i).sum) 1 (rv f)/\rv f=rv (jP ((x.2.zip cs).take i))) ⟨_,(1,1),_,_,rfl,s0,dE e0,QF,?_,rfl⟩ ?_ ?_
 ·rw [List.take_zero];exact ⟨1,by rw [rO];simp,by simp⟩
 ·rintro i σ H1 hi ⟨v,f,o4,o5,rfl,S1,r1,l1,q1,e1⟩;obtain ⟨n,hn⟩:∃n,cs[i]?=some n:=⟨_,aB hi⟩;obtain ⟨g,hg⟩:∃g,x.2[i]?=some g:=⟨_,aB Oo⟩;have fg:=hN g (aG hg);obtain ⟨vg,hvg,rvg⟩:=eI rxs hg;have ts:=NL hn;rw [show (0:Int)+(i:Int)=(i:Int) by omega];refine ⟨_,rfl,_,rfl,?_⟩;have hat':yI (cs.map zU) (i:Int)=some (zU n):=cT (by rw [aM,hn];rfl);refine lA (S1 _ _ hac) hat' ?_;refine ⟨_,rfl,Oo,Oo,?_⟩;rw [Int.toNat_natCast];refine fZ (λj σ H'=>∃(v:V) (f:Fr) (o5:Option V),σ=[some (.ref at_),some (.int (iw:Int)),some (.ref ac),some v,some (.int (i:Int)),o5]/\aY H H'/\cC H' (fY f) v/\dA f/\Qn (N^((cs.take i).sum+j)) 1 (rv f)/\rv f=rv (jP ((x.2.zip cs).take i))*rv g^j) ⟨v,f,_,rfl,S1,r1,l1,q1,by rw [e1,Rat.pow_zero];grind⟩ ?_ ?_
  ·rintro j σ H2 hj ⟨v2,f2,o5',rfl,S2,r2,l2,q2,e2⟩;refine ⟨_,rfl,_,rfl,?_⟩;refine lA (S2 _ _ hat) rfl ?_;refine ⟨_,rfl,?_⟩;refine lA (S2 _ _ hw) (cT hu) ?_;refine lA (S2 _ _ hb) rfl ?_;refine ⟨_,rfl,?_⟩;refine lA (S2 _ _ has) (cT hvg) ?_;have nz:∀{m:Nat},m<=cs.sum->0<N^m/\N^m<2^3000:=λhm=>⟨Nat.pow_pos N0,bA (aP N0 hm) Nz⟩;have z1:mZ 4000 f2:=qL (Qn.f l2 q2) (nz Oo).1 (nz Oo).2 (Nat.one_le_two_pow);have z2:mZ 4000 g:=by
    have h1:=nz (m:=1) Oo;rw [Nat.pow_one] at h1;exact qL fg h1.1 h1.2 (Nat.one_le_two_pow)
   refine fJ (gR.of r2) (gR.of (rvg.same S2)) l2 fg.low z1 z2 ?_;intro q3 H3 hq3 e3 s3;refine ⟨_,iV f2 g,_,rfl,S2.trans s3,dE e3,gI l2 fg.low,?_,?_⟩
   ·rw [iB l2.pos fg.low.pos,<-Nat.add_assoc,Nat.pow_succ];exact q2.mul fg.q
   ·rw [iB l2.pos fg.low.pos,e2,Rat.pow_succ];grind
  ·rintro σ H2 ⟨v2,f2,o5',rfl,S2,r2,l2,q2,e2⟩;refine ⟨v2,f2,_,_,rfl,S2,r2,l2,?_,?_⟩
   ·rw [eN hn,List.sum_append,List.sum_singleton];exact q2
   ·rw [eN (HW hg hn),qM,iB (nQ _ (low i)).pos (kY fg.low n).pos,GO fg.low,e2]
 ·rintro σ H1 ⟨v,f,o4,o5,rfl,S1,r1,l1,q1,e1⟩;refine ⟨_,rfl,?_⟩;rw [List.take_of_length_le (by rw [List.length_zip];omega)] at e1;have:f=jP (x.2.zip cs):=iM l1 (nQ _ λz hz=>(hN z.1 (List.of_mem_zip (a:=z.1) (b:=z.2) hz).1).low) e1;rw [this] at r1;exact k v H1 S1 r1
theorem oQ4(F:jT K "_law_counts" "_law_counts" sQ4 f fd)(T:lB K mg c)(FQ10:gM dP P w K mg base 1 "_law_more" ["_law_counts_here","_law_face"] fI):dY P w K mg base dP 2 f fd ["_law_faces","_law_most"] mL:=by
 refine F.oky XF λvs H Q E h=>?_;unfold mL at h;obtain ⟨F,M,rfl,f2,f4,m5,k⟩:=h;refine ⟨rfl,λcdv A outer s hr=>?_⟩;refine ⟨_,(aH (bK (i:=2) XF.nd rfl (Or.inl rfl) (iI (aJ (bQ vY (dS (aJ aL aE)) (aD 0)) aE)))
  (aH (bK (i:=3) XF.nd rfl (Or.inl rfl) (nB tP (by rfl) T.b_list Kk (aJ (aD 2) aE)))
  (aH (fF PassesOwn.never rfl (cP rfl T.b_range (aJ (aD 1) aE)) (dF (i:=4) XF.nd rfl (Or.inl rfl)) (aH (bK (i:=5) XF.nd rfl (Or.inl rfl) mC)
  (aH (fF PassesOwn.never rfl (fD (aD 3)) (dF (i:=6) XF.nd rfl (Or.inl rfl)) (bD (fF PassesOwn.never rfl (cP rfl T.b_range (aJ (aD 0) aE)) (dF (i:=7) XF.nd rfl (Or.inl rfl)) (bD (iE hr.u1 (aD 5) (bS FQ10 (hr.mono Dd) (aJ (aD 6) (aJ (aD 7) aE))) vB)))))
  (aH (bK (i:=3) XF.nd rfl (Or.inl rfl) (eG (JO rfl) (by rfl) T.b_sorted Kk (aJ (aD 5) aE)))
  (bD (bK (i:=2) XF.nd rfl (Or.inl rfl) (bQ xD (aD 2) (aD 3))))))))
  (bD (cI (aD 2)))))),?_⟩
 refine pY (by show 1<=64;decide) λq1 H1 hq1 e1 s1=>?_;refine ⟨_,rfl,?_⟩;refine WJ (k:=F) e1 f2 Oo λq2 H2 s2 e2=>?_;refine DY (by show 1<=64;decide) λq3 H3 hq3 e3 s3=>?_;have r3:aW H3 ((cta F 0).map kC) [.ref q2]:=by
  rw [xR F Oo];refine aW.cons (nM ?_) aW.nil;rw [s3 _ _ e2,List.map_replicate];rfl
 have S3:=(s1.trans s2).trans s3;refine ⟨_,rfl,q3,_,rfl,.inl (fN.of e3),λq4 hq4=>?_⟩;have s4:=aY.upd (o:=.lst [V.ref q2]) hq4;have e4:(upd H3 q4 (.lst [V.ref q2])) q4=some (.lst [V.ref q2]):=bM;generalize upd H3 q4 (.lst [V.ref q2])=H4 at s4 e4;refine ⟨_,rfl,_,rfl,Oo,Oo,?_⟩;rw [Int.toNat_natCast];refine fZ (λi σ H'=>∃(a b:Addr) (xs ys:List V) (o4 o5 o6 o7:Option V),σ=[some (.int (F:Int)),some (.int (M:Int)),some (.ref a),some (.ref b),o4,o5,o6,o7]/\aY H H'/\H a=none/\H' a=some (.lst xs)/\aW H' ((rise F i).map kC) xs/\H' b=some (.lst ys)/\aW H' ((cta F i).map kC) ys)
  ⟨q3,q4,_,_,_,_,_,_,rfl,S3.trans s4,(s1.trans s2).free hq3,s4 _ _ e3,by rw [LA];exact r3.same s4,e4,r3.same s4⟩ ?_ ?_
 ·rintro i σ H5 hi ⟨a,b,xs,ys,o4,o5,o6,o7,rfl,S5,ha0,ea,ra,eb,rb⟩;have cs1:=oF F f4 i Oo;have cs2:=oF F f4 (i+1) Oo;have lys:ys.length=(cta F i).length:=eJ rb;intro p hp;have s6:=aY.upd (o:=.dT []) hp;have e6:(upd H5 p (.dT [])) p=some (.dT []):=bM;generalize upd H5 p (.dT [])=H6 at s6 e6;have nap:a≠p:=λz=>by rw [z,hp] at ea;cases ea
  have nbp:b≠p:=λz=>by rw [z,hp] at eb;cases eb
  refine ⟨_,rfl,b,rfl,⟨_,fN.of (s6 _ _ eb)⟩,?_⟩;have key:∀(j:Nat) (d:List Int),(∃c∈(cta F i).take j,∃f,f<F/\d=ci (bP c f))->d∈(cta F (i+1)).map ci:=λj d ⟨c,hc,f,hf,e⟩=>aV.mpr ⟨bP c f,(tM Oo).mpr ⟨c,List.mem_of_mem_take hc,f,hf,rfl⟩,e.symm⟩;refine jY (xs:=ys) (λj σ H'=>∃(o6 o7:Option V) (kvs:List (List eZ × V)) (ks:List (List Int)),σ=[some (.int (F:Int)),some (.int (M:Int)),some (.ref a),some (.ref b),some (.int (0+(i:Nat))),some (.ref p),o6,o7]/\aQ p H6 H'/\H' p=some (.dT kvs)/\kvs.map (·.1)=ks.map kT/\ks.Nodup/\∀d,d∈ks ↔ ∃c∈(cta F i).take j,∃f,f<F/\d=ci (bP c f))
   ⟨_,_,[],[],rfl,(aY.refl _).but,e6,rfl,List.nodup_nil,λd=>⟨(λh=>by cases h),λ⟨c,hc,_⟩=>by rw [List.take_zero] at hc;cases hc⟩⟩ (λj σ H' _ q=>?_) ?_ ?_
  ·obtain ⟨_,_,_,_,_,b',_⟩:=q;exact fN.of (b'.at nbp (s6 _ _ eb))
  ·rintro j x σ H7 hx ⟨o6',o7',kvs,ks,rfl,b7,e7,hk,nd,hm⟩;obtain ⟨cc,hc,rc⟩:=eW rb hx;have t7:dB H6 H7:=aQ.tT b7 e6;have rc7:cC H7 (kC cc) x:=(rc.same s6).flat t7 (jZ _);obtain ⟨lc,_⟩:=gQ (aG hc);refine ⟨_,rfl,_,rfl,Oo,Oo,?_⟩;rw [Int.toNat_natCast];refine fZ (λg σ H'=>∃(o7:Option V) (kvs:List (List eZ × V)) (ks:List (List Int)),σ=[some (.int (F:Int)),some (.int (M:Int)),some (.ref a),some (.ref b),some (.int (0+(i:Nat))),some (.ref p),some x,o7]/\aQ p H7 H'/\H' p=some (.dT kvs)/\kvs.map (·.1)=ks.map kT/\ks.Nodup/\∀d,d∈ks↔(∃c∈(cta F i).take j,∃f,f<F/\d=ci (bP c f))\/∃f,f<g/\d=ci (bP cc f))
    ⟨_,kvs,ks,rfl,(aY.refl _).but,e7,hk,nd,λd=>by rw [hm];exact ⟨.inl,λh=>by rcases h with h | ⟨f,hf,_⟩;exact h;omega⟩⟩ ?_ ?_
   ·rintro g σ H8 hg ⟨o7'',kvs8,ks8,rfl,b8,e8,hk8,nd8,hm8⟩;have t8:dB H7 H8:=aQ.tT b8 e7;rw [show (0:Int)+(g:Int)=(g:Int) by omega];refine ⟨_,rfl,_,rfl,_,rfl,?_⟩;refine jB (i:=g) (rc7.flat t8 (jZ _)) Oo Oo λv9 H9 s9 r9=>?_;obtain ⟨a9,rfl,h9⟩:=gG r9;have lk:ks8.length<=56:=by
     have:=lX nd8 (m:=(cta F (i+1)).map ci) λd hd=>by
      rcases (hm8 d).mp hd with h | ⟨f,hf,e⟩
      ·exact key j d h
      ·exact key (j+1) d ⟨cc,by rw [eN hc];exact aN _ (bG.mpr rfl),f,Oo,e⟩
     rw [aA] at this;omega
    have lkv:kvs8.length=ks8.length:=by have:=congrArg List.length hk8;simpa using this
    have e9p:=s9 _ _ e8;refine QU e9p (c:=ci (bP cc g)) (by rw [eE];exact h9) Oo λH10 e10 b10=>?_;obtain ⟨ks2,k1,k2,k3⟩:=QK (v:=.bl true) (ci (bP cc g)) hk8 nd8;refine ⟨_,_,ks2,rfl,(b8.trans s9.but).trans b10,e10,k1,k2,λd=>?_⟩;rw [k3,hm8];constructor
    ·rintro ((h | ⟨f,hf,e⟩) | h)
     ·exact .inl h
     ·exact .inr ⟨f,Oo,e⟩
     ·exact .inr ⟨g,Oo,h⟩
    ·rintro (h | ⟨f,hf,e⟩)
     ·exact .inl (.inl h)
     ·by_cases q:f=g
      ·subst q;exact .inr e
      ·exact .inl (.inr ⟨f,Oo,e⟩)
   ·rintro σ H8 ⟨o7'',kvs8,ks8,rfl,b8,e8,hk8,nd8,hm8⟩;refine ⟨_,_,kvs8,ks8,rfl,b7.trans b8,e8,hk8,nd8,λd=>?_⟩;rw [hm8,eN hc];constructor
    ·rintro (⟨c,hc',f,hf,e⟩ | ⟨f,hf,e⟩)
     ·exact ⟨c,bV _ hc',f,hf,e⟩
     ·exact ⟨cc,aN _ (bG.mpr rfl),f,hf,e⟩
    ·rintro ⟨c,hc',f,hf,e⟩;rcases bX.mp hc' with h | h
     ·exact .inl ⟨c,h,f,hf,e⟩
     ·rw [bG.mp h] at e;exact .inr ⟨f,hf,e⟩
  ·rintro σ H7 ⟨o6',o7',kvs,ks,rfl,b7,e7,hk,nd,hm⟩;rw [lys,cR] at hm;have hmem:∀d,d∈ks↔d∈(cta F (i+1)).map ci:=λd=>by
    rw [hm,aV];constructor
    ·rintro ⟨c,hc,f,hf,e⟩;exact ⟨bP c f,(tM Oo).mpr ⟨c,hc,f,hf,rfl⟩,e.symm⟩
    ·rintro ⟨d',hd',rfl⟩;obtain ⟨c,hc,f,hf,rfl⟩:=(tM Oo).mp hd';exact ⟨c,hc,f,hf,rfl⟩
   have lk:ks.length<=56:=by
    have:=lX nd (m:=(cta F (i+1)).map ci) λd hd=>(hmem d).mp hd;rw [aA] at this;omega
   refine ⟨_,rfl,?_⟩;refine rsrd (cs:=ks) e7 hk (λc hc=>?_) Oo λq8 ys8 ds H8 pm pw hq8 e8 r8 s8=>?_
   ·obtain ⟨d,hd,rfl⟩:=aV.mp ((hmem c).mp hc);obtain ⟨l1,_⟩:=gQ hd;intro z;have e:(ci d).length=d.length:=by unfold ci;rw [aA]
    rw [z,List.length_nil] at e;omega
   have eds:ds=(cta F (i+1)).map ci:=tF pw (JL F f4 (i+1) Oo) λd=>by rw [pm.mem_iff];exact hmem d
   rw [eds,List.map_map,show (cta F (i+1)).map ((λc:List Int=>PyData.tuple (c.map .int)) ∘ ci)=(cta F (i+1)).map kC from eB λc _=>ctI c] at r8;have t7:dB H5 H7:=s6.t.trans (aQ.tT b7 e6);have S7:aY H H7:=aY.thru (S5.free hp) (S5.trans s6) b7;have ea8:H8 a=some (.lst xs):=s8 _ _ (b7.at nap (s6 _ _ ea));have ra8:=(aW.flat t7 (jN _) ra).same s8;have l8:ys8.length<=56:=by rw [eJ r8];exact cs2
   have lxs:xs.length<=400:=by rw [eJ ra];exact OR F f4 i Oo
   refine ⟨_,rfl,_,rfl,?_⟩;refine RK ea8 e8 Oo λq9 H9 hq9 e9 s9=>?_;refine ⟨q9,q8,_,_,_,_,_,_,rfl,(S7.trans s8).trans s9,(S7.trans s8).free hq9,e9,?_,s9 _ _ e8,r8.same s9⟩;rw [LB,bF];exact aW.app (ra8.same s9) (r8.same s9)
 ·rintro σ H5 ⟨a,b,xs,ys,o4,o5,o6,o7,rfl,S5,ha0,ea,ra,eb,rb⟩;exact ⟨_,rfl,k a H5 S5 ha0 ⟨xs,ea,ra⟩⟩
end
abbrev GN:Stmt:=(top 54)
theorem CD:cA ["_law_trial_here","_law_aim_here","_law_prices","_law_known","_law_counts_here","_law_weights","_law_found","_law_say","_law_parts","_law_k","_law_share","_law_some_here","_law_face"] ["_law_trial_here","_law_aim_here","_law_prices","_law_known","_law_counts_here"] (aX GN):=⟨rfl,rfl,rfl,Kk,rfl,Kk,Kk⟩
abbrev UK:Stmt:=(top 55)
theorem RQ:cA ["_law_trial_here","_law_aim_here","_law_prices","_law_known","_law_counts_here","_law_some_here","_law_one"] ["_law_trial_here","_law_aim_here","_law_prices"] (aX UK):=⟨rfl,rfl,rfl,Kk,rfl,Kk,Kk⟩
theorem rP:∀F,F<=4->∀M,M<=5->(rise F M).length<=400:=λF hF M hM=>rA F hF (M+1) Oo
@[irreducible] def pM:Sp:=λvs H Q _=>∃(tv av pv cv:V) (p:Addr) (fs:List Str) (ws:List (Str × List Fr)) (bs mix ps cs:List Fr) (c:List Nat) (kvs:List (List eZ × V)) (F W M Ns Nm Np Nc B:Nat),vs=[tv,av,pv,.ref p,cv]/\cC H (qN fs ws) tv/\cC H (lM M bs mix cs) av/\cC H (pE ps) pv/\cC H (kC c) cv/\H p=some (.dT kvs) /\
 iO F W M (eP ws) mix ps cs Ns Nm Np Nc B/\0<Ns/\c.length=F/\c.sum<=M/\(c.sum<M->∀j,j<F->∃v,fM kvs (kT (ci (bP c j)))=some v/\cC H (fY (yO F W M (eP ws) mix ps cs (bP c j))) v) /\
 ∀D xs gs H',aY H H'->H D=none->H' D=some (.lst xs)->aW H' (gs.map fY) xs->aA5 (lP M Ns Nm Np Nc) (smQ W F (fX (eP ws)) (dU mix) (dU ps) (dU cs) (M-c.sum) c) gs->Q (.ref D) H'
theorem GB{H:Hp}{Q:VK}{E:XK}{tv av pv cv:V}{p:Addr}{fs:List Str}{ws:List (Str × List Fr)}{bs mix ps cs:List Fr}{c:List Nat}{kvs:List (List eZ × V)}{F W M Ns Nm Np Nc B:Nat}(h1:cC H (qN fs ws) tv)(h2:cC H (lM M bs mix cs) av)(h3:cC H (pE ps) pv)(h4:cC H (kC c) cv)(h5:H p=some (.dT kvs))
  (I:iO F W M (eP ws) mix ps cs Ns Nm Np Nc B) (b:0<Ns) (cl:c.length=F) (cm:c.sum<=M) (kn:c.sum<M->∀j,j<F->∃v,fM kvs (kT (ci (bP c j)))=some v/\cC H (fY (yO F W M (eP ws) mix ps cs (bP c j))) v)
  (k:∀D xs gs H',aY H H'->H D=none->H' D=some (.lst xs)->aW H' (gs.map fY) xs->aA5 (lP M Ns Nm Np Nc) (smQ W F (fX (eP ws)) (dU mix) (dU ps) (dU cs) (M-c.sum) c) gs->Q (.ref D) H'):pM [tv,av,pv,.ref p,cv] H Q E:=by
 unfold pM;exact ⟨tv,av,pv,cv,p,fs,ws,bs,mix,ps,cs,c,kvs,F,W,M,Ns,Nm,Np,Nc,B,rfl,h1,h2,h3,h4,h5,I,b,cl,cm,kn,k⟩
theorem UU{l:List Nat}{g:Nat->Fr}(h:∀i∈l,dA (g i)):dA (kW (l.map g))/\rv (kW (l.map g))=oO (l.map λi=>rv (g i)):=by
 have hl:∀f∈l.map g,dA f:=λf hf=>by
  obtain ⟨i,hi,rfl⟩:=aV.mp hf;exact h i hi
 refine ⟨sG _ hl,?_⟩;rw [BC _ hl,List.map_map];rfl
theorem GU{H:Hp}{g:Nat->Fr}:∀{as:List Nat}{ys:List V},Paired (λi y=>cC H (fY (g i)) y) as ys->aW H ((as.map g).map fY) ys:=λpr=>by
 rw [List.map_map];exact Paired.toRepL pr
@[irreducible] def mG:Sp:=λvs H Q _=>∃(tv av pv:V) (fs:List Str) (ws:List (Str × List Fr)) (bs mix ps cs:List Fr) (F W M Ns Nm Np Nc B:Nat),vs=[tv,av,pv]/\cC H (qN fs ws) tv/\fs.length=F/\cC H (lM M bs mix cs) av/\cC H (pE ps) pv /\
 iO F W M (eP ws) mix ps cs Ns Nm Np Nc B/\0<Ns/\2<=F/\∀p kvs H',aY H H'->H p=none->H' p=some (.dT kvs)->DW H' kvs (rise F M) (yO F W M (eP ws) mix ps cs)->Q (.ref p) H'
theorem AV{H:Hp}{Q:VK}{E:XK}{tv av pv:V}{fs:List Str}{ws:List (Str × List Fr)}{bs mix ps cs:List Fr}{F W M Ns Nm Np Nc B:Nat}(h1:cC H (qN fs ws) tv)(h0:fs.length=F)(h2:cC H (lM M bs mix cs) av)(h3:cC H (pE ps) pv)
  (I:iO F W M (eP ws) mix ps cs Ns Nm Np Nc B) (b:0<Ns) (f2:2<=F) (k:∀p kvs H',aY H H'->H p=none->H' p=some (.dT kvs)->DW H' kvs (rise F M) (yO F W M (eP ws) mix ps cs)->Q (.ref p) H'):mG [tv,av,pv] H Q E:=by
 unfold mG;exact ⟨tv,av,pv,fs,ws,bs,mix,ps,cs,F,W,M,Ns,Nm,Np,Nc,B,rfl,h1,h0,h2,h3,I,b,f2,k⟩
section
theorem aDi(F:jT K "_law_sums" "_law_sums" GN f fd)(T:lB K mg c)
  (FQ21:gM dP P w K mg base 3 "_law_weight" ["_law_trial_here","_law_way","_law_counts_here"] kI) (FQ18:gM dP P w K mg base 2 "_law_times" ["_law_one","_law_other"] (jQ K)) (FQ19:gM dP P w K mg base 3 "_law_total" ["_law_some_here"] (lV K)) (FQ10:gM dP P w K mg base 1 "_law_more" ["_law_counts_here","_law_face"] fI):dY P w K mg base dP 4 f fd ["_law_trial_here","_law_aim_here","_law_prices","_law_known","_law_counts_here"] pM:=by
 refine F.oky CD λvs H Q E h=>?_;unfold pM at h;obtain ⟨tv,av,pv,cv,p,fs,ws,bs,mix,ps,cs,c,kvs,F,W,M,Ns,Nm,Np,Nc,B,rfl,rt,ra,rp,rc,hp,I,hNs,hcl,hcm,kn,k⟩:=h;refine ⟨rfl,λcdv A outer s hr=>?_⟩;generalize hss:eP ws=ss at I kn k;have lws:ws.length=W:=by have:=I.sl;rw [<-hss,aA] at this;exact this
 have hbB:=I.b;have w4:=I.w4;have w1:=I.w1;have f4:=I.f4;have b40:B<=2^490:=aK Oo kN;have one40:1<=2^490:=Nat.one_le_two_pow;obtain ⟨ap,vp,rfl,hap,rvp⟩:=mP rp;obtain ⟨ac,rfl,hac⟩:=gG rc;obtain ⟨aa,xb,xm,xc,rfl,haa,rxb,rxm,rxc⟩:=uW ra;obtain ⟨am,vm,rfl,ham,rvm⟩:=mP rxm;obtain ⟨ak,vk,rfl,hak,rvk⟩:=mP rxc;obtain ⟨at_,af,aw,xf,xw,rfl,hat,hf,hw,rf,rw'⟩:=wO rt;have lxw:xw.length=W:=by rw [eJ rw',lws]
 have lvp:vp.length=W:=by rw [eJ rvp,I.pl]
 have lvm:vm.length=W:=by rw [eJ rvm,I.ml]
 refine ⟨_,(aH (bK (i:=5) CD.nd rfl (Or.inr rfl) (fR (dI.of (psc:=aX GN) (N:=["_law_trial_here","_law_aim_here","_law_prices","_law_known","_law_counts_here","_law_weights","_law_found","_law_say","_law_parts","_law_k","_law_share","_law_some_here","_law_face"]) (N':=["_law_way","_law_trial_here","_law_counts_here"]) (js:=[0,4]) Kk rfl rfl rfl) (cP rfl T.b_range (aJ (eG gB (by rfl) T.b_len Kk (aJ (bT bL (aD 0) aL (λ_ _=>rfl)) aE)) aE)) (λ_ _ _ _=>dR) (λ_ _ _ _=>(bS FQ21 (hr.mono Dd) (aJ (aD 1) (aJ (aD 0) (aJ (aD 2) aE)))))))
  (aH (bK (i:=6) CD.nd rfl (Or.inl rfl) (iI aE))
  (aH (fF PassesOwn.never rfl (cP rfl T.b_range (aJ (eG gB (by rfl) T.b_len Kk (aJ (aD 5) aE)) aE)) (dF (i:=7) CD.nd rfl (Or.inr rfl)) (aH (gZ (i:=8) (dI.of (psc:=aX GN) (N:=["_law_trial_here","_law_aim_here","_law_prices","_law_known","_law_counts_here","_law_weights","_law_found","_law_say","_law_parts","_law_k","_law_share","_law_some_here","_law_face"]) (N':=["_law_way","_law_prices","_law_weights","_law_say"]) (js:=[2,5,7]) Kk rfl rfl rfl) CD.nd rfl rfl (cP rfl T.b_range (aJ (eG gB (by rfl) T.b_len Kk (aJ (aD 5) aE)) aE)) (λ_ _ _ _=>AH (eQ DX (aD 0) (aD 3) (nomark _))) (λ_ _ _ _=>(bS FQ18 (hr.mono Dd) (aJ (bT (iS K) (aD 1) (aD 0) (λ_ _=>rfl)) (aJ (bT (iS K) (aD 2) (aD 0) (λ_ _=>rfl)) aE)))))
  (bD (jU (pA PySem.F.plainAttrs_list PySem.F.slot_list_append PySem.F.type_list_append qB (aD 6) (aJ (bS FQ19 (hr.mono Dd) (aJ (aD 8) aE)) aE))))))
  (aH (bK (i:=9) CD.nd rfl (Or.inl rfl) (eG (qZ K rfl) (by rfl) T.b_sum Kk (aJ (aD 4) aE)))
  (aH (wJ (kE (eQ xC (aD 9) (bT bL (aD 1) aL (λ_ _=>rfl)) (nomark _)) (aH (bK (i:=10) CD.nd rfl (Or.inl rfl) (bS FQ19 (hr.mono Dd) (aJ (fR (dI.of (psc:=aX GN) (N:=["_law_trial_here","_law_aim_here","_law_prices","_law_known","_law_counts_here","_law_weights","_law_found","_law_say","_law_parts","_law_k","_law_share","_law_some_here","_law_face"]) (N':=["_law_way","_law_aim_here","_law_weights"]) (js:=[1,5]) Kk rfl rfl rfl) (cP rfl T.b_range (aJ (eG gB (by rfl) T.b_len Kk (aJ (aD 5) aE)) aE)) (λ_ _ _ _=>dR) (λ_ _ _ _=>(bS FQ18 (hr.mono Dd) (aJ (bT (iS K) (bT (iS K) (aD 1) aL (λ_ _=>rfl)) (aD 0) (λ_ _=>rfl)) (aJ (bT (iS K) (aD 2) (aD 0) (λ_ _=>rfl)) aE))))) aE)))
  (aH (bK (i:=11) CD.nd rfl (Or.inl rfl) (iI (aJ (bS FQ18 (hr.mono Dd) (aJ (aD 10) (aJ (bT bL (bT bL (aD 1) aL (λ_ _=>rfl)) (aD 9) (λ_ _=>rfl)) aE))) aE)))
  (aH (fF PassesOwn.never rfl (cP rfl T.b_range (aJ (eG gB (by rfl) T.b_len Kk (aJ (aD 4) aE)) aE)) (dF (i:=12) CD.nd rfl (Or.inl rfl)) (bD (jU (pA PySem.F.plainAttrs_list PySem.F.slot_list_append PySem.F.type_list_append qB (aD 11) (aJ (gE hr.u1 (aD 3) (bS FQ10 (hr.mono Dd) (aJ (aD 4) (aJ (aD 12) aE)))) aE)))))
  (bD (jU (pA PySem.F.plainAttrs_list PySem.F.slot_list_append PySem.F.type_list_append qB (aD 6) (aJ (bS FQ19 (hr.mono Dd) (aJ (aD 11) aE)) aE))))))) gC))
  (bD (cI (aD 6)))))))),?_⟩
 refine ⟨_,rfl,?_⟩;refine lA hat rfl ?_;refine KZ hw ?_;rw [lxw];refine ⟨_,rfl,Oo,Oo,?_⟩;have Nz:Ns^c.sum<2^3000:=by
  have h1:Ns^c.sum<=Ns^M:=aP hNs hcm;have h2:Ns^M<=Np*Nc*Nm*Ns^M:=Nat.le_mul_of_pos_left _ (Nat.pos_of_ne_zero λz=>by have:=I.pos;rw [z] at this;simp at this);have:=I.sz;omega
 refine gW (λi y H'=>i<W/\cC H' (fY (jP ((ss.getD i []).zip c))) y) (λi y H1 H2 s ⟨h1,h2⟩=>⟨h1,h2.flat s (cQ _)⟩) Oo (λi H' Q' hi s' k'=>?_) (λD5 zs H5 hD5 e5 s5 hz5 hr5=>?_)
 ·rw [Int.zero_add];have hi:i<W:=Oo;obtain ⟨x,hx⟩:∃x,ws[i]?=some x:=⟨_,aB Oo⟩;have e:ss.getD i []=x.2:=gF (by rw [<-hss,aM,hx];rfl);have hxs:=I.sh x.2 (by rw [<-hss];exact aV.mpr ⟨x,aG hx,rfl⟩);refine ⟨_,rfl,_,rfl,_,rfl,?_⟩;refine sL (rt.same s') hx (rc.same s') (by rw [hxs.1,hcl]) hxs.2 hNs Nz Oo (by have:=I.m5;omega) λy H6 s6 r6=>?_;refine k' _ H6 s6 ⟨hi,?_⟩;rw [e];exact r6
 have lz:zs.length=W:=Oo;refine DY (by show 0<=64;decide) λD H6 hD e6 s6=>?_;have S6:=s5.trans s6;have hD0:H D=none:=s5.free hD;have e5':=s6 _ _ e5;refine ⟨_,rfl,?_⟩;refine OP e5' ?_;rw [lz];refine ⟨_,rfl,Oo,Oo,?_⟩;rw [Int.toNat_natCast];have nD5:D5≠D:=λz=>by rw [<-z,e5] at hD;cases hD
 have duefn:∀i,i<W->Fn (lP M Ns Nm Np Nc) B (kD ss ps c i):=λi hi=>XT I hi hcm;have wB:W*B<=4*B:=bO _ w4
 let sayF:Nat->Fr:=λs=>kW (((List.range W).filter λi=>i != s).map (kD ss ps c))
 have say:∀s,s<W->dA (sayF s)/\rv (sayF s)=cN W (λv=>dU ps v*fX ss v c)-dU ps s*fX ss s c/\Fn (lP M Ns Nm Np Nc) (4*B) (sayF s):=λs hs=>by
  have hlow:∀i∈(List.range W).filter λi=>i != s,dA (kD ss ps c i):=λi hi=>(tV I (bR.mp (cW.mp hi).1) c).1;obtain ⟨t1,t2⟩:=UU hlow;refine ⟨t1,?_,?_⟩
  ·show rv (kW _)=_;rw [t2];have:((List.range W).filter λi=>i != s).map (λi=>rv (kD ss ps c i))=((List.range W).filter λi=>i != s).map λi=>dU ps i*fX ss i c:=eB λi hi=>(tV I (bR.mp (cW.mp hi).1) c).2;rw [this];exact NS _ hs
  ·have:=Fn.tot (((List.range W).filter λi=>i != s).map (kD ss ps c)) (N:=lP M Ns Nm Np Nc) (B:=B) λf hf=>by
    obtain ⟨i,hi,rfl⟩:=aV.mp hf;exact duefn i (bR.mp (cW.mp hi).1)
   refine this.le ?_;rw [aA];have h1:=List.length_filter_le (λi=>i != s) (List.range W);rw [aZ] at h1;exact bO _ Oo
 refine fZ (λi σ H'=>∃(o7 o8:Option V) (us:List V),σ=[some (.ref at_),some (.ref aa),some (.ref ap),some (.ref p),some (.ref ac),some (.ref D5),some (.ref D),o7,o8,none,none,none,none]/\aQ D H6 H'/\H' D=some (.lst us)/\aW H' (((List.range i).map sayF).map fY) us) ⟨_,_,[],rfl,(aY.refl _).but,e6,aW.nil⟩ ?_ ?_
 ·rintro i σ H7 hi ⟨o7,o8,us,rfl,b7,e7,r7⟩;have t7:dB H6 H7:=b7.t e6;have e5a:H7 D5=some (.lst zs):=b7.at nD5 e5';refine ⟨_,rfl,?_⟩;refine OP e5a ?_;rw [lz];refine ⟨_,rfl,Oo,Oo,?_⟩;rw [Int.toNat_natCast];refine RF (λj=>j != i) (λj y H'=>cC H' (fY (kD ss ps c j)) y) (λj y Ha Hb s r=>r.flat s (cQ _)) Oo (λj H' Q' hj s' k'=>?_) (λj H' Q' hj hp s' k'=>?_) (λD8 ys H8 hD8 e8 s8 pr8=>?_)
  ·refine ⟨_,rfl,_,rfl,rfl,_,rfl,?_⟩;have e:(!decide (V.int (0+(j:Nat))=V.int (0+(i:Nat))))=(j != i):=by
    by_cases q:j=i
    ·subst q;simp
    ·have:¬V.int (0+(j:Nat))=V.int (0+(i:Nat)):=λz=>q (by injection z with z;omega);rw [cH this];simp [q]
   rw [e];exact k' H' (aY.refl _)
  ·obtain ⟨f1,hf1⟩:∃f,ps[j]?=some f:=⟨_,aB (by rw [I.pl];exact hj)⟩;obtain ⟨v1,hv1,rv1⟩:=eI rvp hf1;obtain ⟨v2,hv2⟩:∃v,zs[j]?=some v:=⟨_,aB Oo⟩;obtain ⟨_,rv2⟩:=hr5 j v2 hv2;have e1:ps.getD j (0,1)=f1:=gF hf1;have n1:=CL I hj;rw [e1] at n1;rw [show (0:Int)+(j:Int)=(j:Int) by omega];refine ⟨_,rfl,_,rfl,?_⟩;refine lA (s' _ _ (t7 _ _ (S6 _ _ hap))) (cT hv1) ?_;refine ⟨_,rfl,_,rfl,?_⟩;refine FO (s' _ _ e5a) (cT hv2) ?_;refine fJ (gR.of (((rv1.same S6).flat t7 (cQ _)).same s')) (gR.of (((rv2.same s6).flat t7 (cQ _)).same s')) n1.low (rB I hj c) (iF I n1 b40) (iF I (wI I hj hcm) one40) ?_;intro q9 H9 hq9 e9 s9;refine k' _ H9 s9 (dE ?_);rw [e9];unfold kD;rw [e1]
  have r8:=GU pr8;have fl:∀f∈((List.range W).filter λj=>j != i).map (kD ss ps c),Fn (lP M Ns Nm Np Nc) B f:=λf hf=>by
   obtain ⟨j,hj,rfl⟩:=aV.mp hf;exact duefn j (bR.mp (cW.mp hj).1)
  have ll:(((List.range W).filter λj=>j != i).map (kD ss ps c)).length<=64:=by
   rw [aA];have h1:=List.length_filter_le (λj=>j != i) (List.range W);rw [aZ] at h1;omega
  have e8D:=s8 _ _ e7;refine ⟨_,rfl,MP e8D,_,rfl,?_⟩;refine nC e8 (rX.of r8) (xX I fl ll b40) λv9 H9 s9 r9=>?_;have e9D:=s9 _ _ e8D;have lus:us.length=i:=by rw [r7.len,aA,aA,aZ]
  refine FK e9D Oo λH10 e10 b10=>?_;have t10:=b10.t e9D;refine ⟨_,_,us++[v9],rfl,(b7.trans (s8.trans s9).but).trans b10,e10,?_⟩;rw [List.range_succ,bF,bF];exact aW.snoc (aW.flat ((s8.trans s9).t.trans t10) (kZ _) r7) (cC.flat t10 (cQ _) r9)
 ·rintro σ H7 ⟨o7,o8,us,rfl,b7,e7,r7⟩;have t7:dB H6 H7:=b7.t e6;have e5a:H7 D5=some (.lst zs):=b7.at nD5 e5';have S7:aY H H7:=aY.thru hD0 S6 b7;have lus:us.length=W:=by rw [r7.len,aA,aA,aZ]
  have sv:((List.range W).map sayF).map rv=lH W λv=>dU ps v*fX ss v c:=by
   unfold lH;rw [List.map_map];exact eB λi hi=>(say i (bR.mp hi)).2.1
  have sn:∀g∈(List.range W).map sayF,Fn (lP M Ns Nm Np Nc) (4*B) g:=λg hg=>by
   obtain ⟨i,hi,rfl⟩:=aV.mp hg;exact (say i (bR.mp hi)).2.2
  refine ⟨_,rfl,?_⟩;refine rsT (ns:=ci c) (by rw [eE];exact jH.of (S7 _ _ hac)) ?_;rw [uU];refine ⟨λσ H'=>∃(o10 o11 o12:Option V) (xs:List V) (gs:List Fr),σ=[some (.ref at_),some (.ref aa),some (.ref ap),some (.ref p),some (.ref ac),some (.ref D5),some (.ref D),o7,o8,some (.int ((c.sum:Nat):Int)),o10,o11,o12]/\aY H H'/\H' D=some (.lst xs)/\aW H' (gs.map fY) xs/\aA5 (lP M Ns Nm Np Nc) (smQ W F (fX ss) (dU mix) (dU ps) (dU cs) (M-c.sum) c) gs,?_,?_⟩
  ·rintro σ H9 ⟨o10,o11,o12,xs,gs,rfl,S9,e9,r9,ok9⟩;exact ⟨_,rfl,k D xs gs H9 S9 hD0 e9 r9 ok9⟩
  refine ⟨_,rfl,_,rfl,?_⟩;refine lA (S7 _ _ haa) rfl ?_;refine ⟨_,_,rfl,rfl,_,rfl,?_⟩;refine uQ (λon=>?_) (λon=>?_)
  ·have hlt:c.sum<M:=Oo;refine ⟨_,rfl,?_⟩;refine OP e5a ?_;rw [lz];refine ⟨_,rfl,Oo,Oo,?_⟩;refine gW (λi y H'=>i<W/\cC H' (fY (kD ss mix c i)) y) (λi y H1 H2 s ⟨h1,h2⟩=>⟨h1,h2.flat s (cQ _)⟩) Oo (λi H' Q' hi s' k'=>?_) (λD9 us9 H9 hD9 e9 s9 hu9 hr9=>?_)
   ·have hj:i<W:=Oo;obtain ⟨f1,hf1⟩:∃f,mix[i]?=some f:=⟨_,aB (by rw [I.ml];exact hj)⟩;obtain ⟨v1,hv1,rv1⟩:=eI rvm hf1;obtain ⟨v2,hv2⟩:∃v,zs[i]?=some v:=⟨_,aB Oo⟩;obtain ⟨_,rv2⟩:=hr5 i v2 hv2;have e1:mix.getD i (0,1)=f1:=gF hf1;have n1:=CM I hj;rw [e1] at n1;rw [show (0:Int)+(i:Int)=(i:Int) by omega];refine ⟨_,rfl,?_⟩;refine lA (s' _ _ (S7 _ _ haa)) rfl ?_;refine ⟨_,rfl,?_⟩;refine lA (s' _ _ (S7 _ _ ham)) (cT hv1) ?_;refine ⟨_,rfl,_,rfl,?_⟩;refine FO (s' _ _ e5a) (cT hv2) ?_;refine fJ (gR.of ((rv1.same S7).same s')) (gR.of (((rv2.same s6).flat t7 (cQ _)).same s')) n1.low (rB I hj c) (iF I n1 one40) (iF I (wI I hj hcm) one40) ?_;intro q9 H9 hq9 e9 s9;refine k' _ H9 s9 ⟨hj,dE ?_⟩;rw [e9];unfold kD;rw [e1]
   have r9:aW H9 (((List.range W).map (kD ss mix c)).map fY) us9:=aW.ofRange Oo hr9;obtain ⟨ml,mv⟩:=IK (n:=W) (g:=kD ss mix c) λi hi=>(oI I hi c).1;have mn:∀g∈(List.range W).map (kD ss mix c),Fn (lP M Ns Nm Np Nc) 1 g:=λg hg=>by
    obtain ⟨i,hi,rfl⟩:=aV.mp hg;exact FL I (bR.mp hi) hcm
   refine nC e9 (rX.of r9) (xX I mn (by rw [aA,aZ];omega) one40) λv10 H10 s10 r10=>?_;have mtn:=Fn.tot _ mn;rw [aA,aZ] at mtn;generalize hmet:kW ((List.range W).map (kD ss mix c))=met at r10 ml mv mtn;have S10:aY H7 H10:=s9.trans s10;obtain ⟨vkk,hvk,rvkk⟩:=eI rvk (i:=c.sum) (f:=cs.getD c.sum (0,1)) (by rw [bJ,aB (by rw [I.cl];exact hlt)];rfl);have cn:=JT I hlt;have hp14:=I.paid hlt;have em:rv met=cN W λv=>dU mix v*fX ss v c:=by rw [mv];exact dC λj hj=>(oI I hj c).2
   have vpd:rv (iV met (cs.getD c.sum (0,1)))=dU cs c.sum*cN W λv=>dU mix v*fX ss v c:=by
    rw [iB ml.pos cn.low.pos,em,Rat.mul_comm];rfl
   have pdn:Fn (lP M Ns Nm Np Nc) (4*B) (iV met (cs.getD c.sum (0,1))):=Qn.f (gI ml cn.low) (by rw [vpd];exact hp14);refine ⟨_,rfl,_,rfl,?_⟩;refine lA (S10 _ _ (S7 _ _ haa)) rfl ?_;refine ⟨_,rfl,?_⟩;refine lA (S10 _ _ (S7 _ _ hak)) (cT hvk) ?_;refine fJ (gR.of r10) (gR.of ((rvkk.same S7).same S10)) ml cn.low (iF I mtn (aK Oo kN)) (iF I cn b40) ?_;intro q11 H11 hq11 e11 s11;refine DY (by show 1<=64;decide) λD12 H12 hD12 e12 s12=>?_;have S12:aY H7 H12:=(S10.trans s11).trans s12;refine ⟨_,rfl,?_⟩;refine KZ (S12 _ _ (S7 _ _ hac)) ?_;rw [aA,hcl];refine ⟨_,rfl,Oo,Oo,?_⟩;rw [Int.toNat_natCast];have hD12':H7 D12=none:=(S10.trans s11).free hD12;have nDD:D≠D12:=λz=>by rw [z] at e7;rw [e7] at hD12';cases hD12'
   have hp12:H12 p=some (.dT kvs):=S12 _ _ (S7 _ _ hp);have npD:p≠D12:=λz=>by rw [<-z,S7 _ _ hp] at hD12';cases hD12'
   refine fZ (λi σ H'=>∃(o12:Option V) (xs:List V),σ=[some (.ref at_),some (.ref aa),some (.ref ap),some (.ref p),some (.ref ac),some (.ref D5),some (.ref D),o7,o8,some (.int ((c.sum:Nat):Int)),some v10,some (.ref D12),o12]/\aQ D12 H12 H'/\H' D12=some (.lst xs)/\aW H' (((iV met (cs.getD c.sum (0,1)))::(List.range i).map λj=>yO F W M ss mix ps cs (bP c j)).map fY) xs) ⟨_,_,rfl,(aY.refl _).but,e12,aW.cons (dE (s12 _ _ e11)) aW.nil⟩ ?_ ?_
   ·rintro i σ H13 hi ⟨o12,xs,rfl,b13,e13,r13⟩;have t13:dB H12 H13:=b13.t e12;rw [show (0:Int)+(i:Int)=(i:Int) by omega];refine ⟨_,rfl,MP e13,_,rfl,_,rfl,_,rfl,?_⟩;refine jB (i:=i) (cs:=c) ((rc.same (S7.trans S12)).flat t13 (jZ _)) Oo Oo λv14 H14 s14 r14=>?_;obtain ⟨a14,rfl,h14⟩:=gG r14;obtain ⟨v,hv,rvv⟩:=kn hlt i hi;refine LX (s14 _ _ (b13.at npD hp12)) (c:=ci (bP c i)) (by rw [eE];exact h14) hv ?_;have e14:=s14 _ _ e13;have lxs:xs.length=i+1:=by rw [r13.len,aA,bU,aA,aZ]
    refine FK e14 Oo λH15 e15 b15=>?_;have t15:=b15.t e14;refine ⟨_,_,rfl,(b13.trans s14.but).trans b15,e15,?_⟩;rw [List.range_succ,bF,<-List.cons_append,bF];exact aW.snoc (aW.flat (s14.t.trans t15) (kZ _) r13) (cC.flat ((t13.trans s14.t).trans t15) (cQ _) (rvv.same (S7.trans S12)))
   ·rintro σ H13 ⟨o12,xs,rfl,b13,e13,r13⟩;have t13:dB H12 H13:=b13.t e12;have wn:∀g∈(List.range F).map (λi=>yO F W M ss mix ps cs (bP c i)),Fn (lP M Ns Nm Np Nc) (8^(M-c.sum)*B) g:=λg hg=>by
     obtain ⟨i,hi,rfl⟩:=aV.mp hg;have hi:=bR.mp hi;refine Qn.fq ?_;have bs:=gY (c:=c) (j:=i) Oo;have:=I.worn (M-(bP c i).sum) (bP c i) (by rw [qI];exact hcl) Oo;rw [show M-(bP c i).sum+1=M-c.sum by omega] at this;exact this
    have b8:8^(M-c.sum)*B<=1000000000000:=by
     have:=JU I (n:=M-c.sum-1) (by have:=I.m5;omega)
     rwa [show M-c.sum-1+1=M-c.sum by omega] at this
    have h1:8<=8^(M-c.sum):=by
     have:=aP (n:=8) Dd (show 1<=M-c.sum by omega);simpa using this
    have hB:8*B<=8^(M-c.sum)*B:=bO _ h1;have an:∀g∈(iV met (cs.getD c.sum (0,1)))::(List.range F).map (λi=>yO F W M ss mix ps cs (bP c i)),Fn (lP M Ns Nm Np Nc) (8^(M-c.sum)*B) g:=λg hg=>by
     rcases bC.mp hg with rfl | hg
     ·exact pdn.le Oo
     ·exact wn g hg
    have e13D:H13 D=some (.lst us):=b13.at nDD (S12 _ _ e7);refine ⟨_,rfl,MP e13D,_,rfl,?_⟩;refine nC e13 (rX.of r13) (xX I an (by rw [bU,aA,aZ];omega) (aK b8 kN)) λv16 H16 s16 r16=>?_;have e16D:=s16 _ _ e13D;refine FK e16D Oo λH17 e17 b17=>?_;have t17:=b17.t e16D;have al:∀g∈(iV met (cs.getD c.sum (0,1)))::(List.range F).map (λi=>yO F W M ss mix ps cs (bP c i)),dA g:=λg hg=>(an g hg).low;have S13:aY H H13:=aY.thru ((S7).free hD12') (S7.trans S12) b13;have tA:dB H7 H13:=S12.t.trans t13;refine ⟨_,_,_,us++[v16],(List.range W).map sayF++[kW ((iV met (cs.getD c.sum (0,1)))::(List.range F).map λi=>yO F W M ss mix ps cs (bP c i))],rfl,aY.thru hD0 (S13.trans s16) b17,e17,?_,?_,?_,?_,?_⟩
    ·rw [bF];exact aW.snoc (aW.flat ((tA.trans s16.t).trans t17) (kZ _) r7) (cC.flat t17 (cQ _) r16)
    ·obtain ⟨n,hn⟩:∃n,M-c.sum=n+1:=⟨M-c.sum-1,Oo⟩;rw [bF,sv,hn];show _=lH W (λv=>dU ps v*fX ss v c)++[_];congr 1;rw [bH,List.map_nil];congr 1;rw [BC _ al,bH,kH,vpd,List.map_map];congr 1;refine (dC (n:=F) (f:=λi=>rv (yO F W M ss mix ps cs (bP c i))) λj hj=>?_);rw [eS];unfold wor;rw [gY Oo,show M-(c.sum+1)=n by omega]
    ·intro g hg;rcases bX.mp hg with hg | hg
     ·exact (sn g hg).le Oo
     ·rw [bG.mp hg];refine (Fn.tot _ an).le ?_;rw [bU,aA,aZ];have b9:=JU I (n:=M-c.sum) (by have:=I.m5;omega);rw [Nat.pow_succ,Nat.mul_comm (8^_) 8,Nat.mul_assoc] at b9;have fB:(F+1)*(8^(M-c.sum)*B)<=8*(8^(M-c.sum)*B):=bO _ Oo;omega
    ·simp
    ·rw [bE,aA,aZ];show W+1<=5;omega
  ·have e0:M-c.sum=0:=Oo;refine ⟨_,_,_,us,(List.range W).map sayF,rfl,S7,e7,r7,?_,λg hg=>(sn g hg).le Oo,by rw [aA,aZ];omega,by rw [aA,aZ];omega⟩;rw [e0,sv];rfl
end
section
theorem aDd(F:jT K "_law_worths" "_law_worths" UK f fd)(T:lB K mg c)
  (FQ4:gM dP P w K mg base 2 "_law_counts" ["_law_faces","_law_most"] mL) (FQ17:gM dP P w K mg base 4 "_law_sums" ["_law_trial_here","_law_aim_here","_law_prices","_law_known","_law_counts_here"] pM) (FQ2:gM dP P w K mg base 1 "_law_below" ["_law_one","_law_other"] (sM K)):dY P w K mg base dP 5 f fd ["_law_trial_here","_law_aim_here","_law_prices"] mG:=by
 refine F.oky RQ λvs H Q E h=>?_;unfold mG at h;obtain ⟨tv,av,pv,fs,ws,bs,mix,ps,cs,F,W,M,Ns,Nm,Np,Nc,B,rfl,rt,hF,ra,rp,I,hNs,f2,k⟩:=h;refine ⟨rfl,λcdv A outer s hr=>?_⟩;have f1:=I.f1;have f4:=I.f4;have m5:=I.m5;obtain ⟨aa,xb,xm,xc,rfl,haa,rxb,rxm,rxc⟩:=uW ra;obtain ⟨at_,af,aw,xf,xw,rfl,hat,hf,hw,rf,rw'⟩:=wO rt;have small:=rP F f4 M m5;refine ⟨_,(aH (bK (i:=3) RQ.nd rfl (Or.inl rfl) mC)
  (aH (fF PassesOwn.never rfl (NB rfl T.b_reversed (aJ (bS FQ4 (hr.mono Dd) (aJ (eG gB (by rfl) T.b_len Kk (aJ (bT bL (aD 0) aL (λ_ _=>rfl)) aE)) (aJ (bT bL (aD 1) aL (λ_ _=>rfl)) aE))) aE)) (dF (i:=4) RQ.nd rfl (Or.inl rfl)) (aH (bK (i:=5) RQ.nd rfl (Or.inl rfl) (bS FQ17 (hr.mono Dd) (aJ (aD 0) (aJ (aD 1) (aJ (aD 2) (aJ (aD 3) (aJ (aD 4) aE)))))))
  (aH (iE hr.u1 (aD 3) (aD 4) (bT bL (aD 5) aL (λ_ _=>rfl)))
  (bD (fF PassesOwn.never rfl (fD (aD 5)) (dF (i:=6) RQ.nd rfl (Or.inl rfl)) (bD (kE (rN (bS FQ2 (hr.mono Dd) (aJ (aD 6) (aJ (gE hr.u1 (aD 3) (aD 4)) aE)))) (bD (iE hr.u1 (aD 3) (aD 4) (aD 6))) gC)))))))
  (bD (cI (aD 3))))),?_⟩
 intro p hp;have s1:=aY.upd (o:=.dT []) hp;have e1:(upd H p (.dT [])) p=some (.dT []):=bM;generalize upd H p (.dT [])=H1 at s1 e1;refine ⟨_,rfl,?_⟩;refine lA (s1 _ _ hat) rfl ?_;refine KZ (s1 _ _ hf) ?_;rw [eJ rf,hF];refine ⟨_,rfl,?_⟩;refine lA (s1 _ _ haa) rfl ?_;refine AY f2 f4 m5 λR H2 s2 hR LR=>?_;obtain ⟨vs,eR,rR,lR⟩:=LR.len;have S2:=s1.trans s2;have nRp:R≠p:=λz=>by rw [z,e1] at hR;cases hR
 refine ⟨R,vs,rfl,fN.of eR,?_⟩;have nd:=BF F f4 M m5;refine JE (xs:=vs) (λi σ H'=>∃(o4 o5 o6:Option V) (kvs:List (List eZ × V)),σ=[some (.ref at_),some (.ref aa),some pv,some (.ref p),o4,o5,o6]/\aY H H'/\H' R=some (.lst vs)/\aW H' ((rise F M).map kC) vs/\H' p=some (.dT kvs)/\DW H' kvs ((rise F M).drop (vs.length-i)) (yO F W M (eP ws) mix ps cs)) ⟨_,_,_,[],rfl,S2,eR,rR,s2 _ _ e1,?_⟩ (λi σ H' _ q=>?_) ?_ ?_
 ·rw [Nat.sub_zero,lR,List.drop_length];exact ⟨λc hc=>(by cases hc),by simp⟩
 ·obtain ⟨_,_,_,_,_,_,h,_⟩:=q;exact fN.of h
 ·rintro i x σ H3 hi hx ⟨o4,o5,o6,kvs,rfl,S3,eR3,rR3,e3,D3⟩;obtain ⟨c,hc,rc⟩:=eW rR3 hx;have hcm:=(gT f1).mp (aG hc);have dl:=D3.len;rw [List.length_drop] at dl;have hd:(rise F M).drop (vs.length-(i+1))=c::(rise F M).drop (vs.length-i):=by
   obtain ⟨hc1,hc2⟩:=aF.mp hc;rw [show vs.length-(i+1)=vs.length-1-i by omega,List.drop_eq_getElem_cons hc1,hc2,show vs.length-1-i+1=vs.length-i by omega]
  have hcS:c ∉ (rise F M).drop (vs.length-i):=λq=>by
   have h1:((rise F M).drop (vs.length-(i+1))).Nodup:=List.Sublist.nodup (List.drop_sublist _ _) nd;rw [hd,List.nodup_cons] at h1;exact h1.1 q
  refine ⟨_,rfl,_,rfl,_,rfl,_,rfl,_,rfl,?_⟩;refine GB (rt.same S3) (ra.same S3) (rp.same S3) rc e3 I hNs hcm.1 hcm.2 (λhlt j hj=>?_) λD xs gs H4 s4 hD e4 r4 ok4=>?_
  ·have bs:=gY (c:=c) (j:=j) Oo;have hin:bP c j∈rise F M:=(gT f1).mpr ⟨by rw [qI];exact hcm.1,Oo⟩;have:=vI hc hin Oo;rw [show vs.length-1-i+1=vs.length-i by omega] at this;exact D3.yes _ this
  have lg:∀g∈gs,dA g/\mZ 4000 g:=λg hg=>⟨(ok4.n g hg).low,iF I (ok4.n g hg) kN⟩;obtain ⟨g0,hg0⟩:∃g,gs[0]?=some g:=⟨_,aB ok4.l0⟩;obtain ⟨v0,hv0,rv0⟩:=eI r4 hg0;refine ⟨_,rfl,?_⟩;refine FO e4 (cT (j:=0) hv0) ?_;obtain ⟨ac,rfl,hac⟩:=gG (rc.same s4);refine ⟨_,rfl,_,rfl,?_⟩;have e4p:=s4 _ _ e3;refine QU e4p (c:=ci c) (by rw [eE];exact hac) Oo λH5 e5 b5=>?_;have t5:=aQ.tT b5 e4p;have nDp:D≠p:=λz=>by rw [z,e3] at hD;cases hD
  have S5:aY H H5:=aY.thru hp (S3.trans s4) b5;have hac5:H5 ac=some (.tup (c.map zU)):=t5 _ _ hac;have lxs:xs.length=gs.length:=by rw [eJ r4]
  refine ⟨_,rfl,D,rfl,⟨_,fN.of (b5.at nDp e4)⟩,?_⟩;have put:∀{Ha:Hp} {kv:List (List eZ × V)} {v:V},(∀d∈(rise F M).drop (vs.length-i),∃v,fM kv (kT (ci d))=some v/\cC Ha (fY (yO F W M (eP ws) mix ps cs d)) v)->∀d∈(rise F M).drop (vs.length-i),∃u,fM (iR kv (kT (ci c)) v) (kT (ci d))=some u/\cC Ha (fY (yO F W M (eP ws) mix ps cs d)) u:=λh d hd=>by
   rw [hZ,if_neg λq=>hcS (by rw [<-kM (mV q)];exact hd)];exact h d hd
  have self:∀{kv:List (List eZ × V)} {v:V},fM (iR kv (kT (ci c)) v) (kT (ci c))=some v:=by
   intro kv v;rw [hZ,if_pos rfl]
  have keep:∀{Ha Hb:Hp} {kv:List (List eZ × V)},dB Ha Hb->(∀d∈(rise F M).drop (vs.length-i),∃v,fM kv (kT (ci d))=some v/\cC Ha (fY (yO F W M (eP ws) mix ps cs d)) v)->∀d∈(rise F M).drop (vs.length-i),∃v,fM kv (kT (ci d))=some v/\cC Hb (fY (yO F W M (eP ws) mix ps cs d)) v:=λt h d hd=>by
   obtain ⟨v,h1,h2⟩:=h d hd;exact ⟨v,h1,h2.flat t (cQ _)⟩
  have len1:=eX kvs (kT (ci c)) v0;refine jY (xs:=xs) (λj σ H'=>∃(o6:Option V) (kv:List (List eZ × V)) (v:V) (y:Fr),σ=[some (.ref at_),some (.ref aa),some pv,some (.ref p),some (.ref ac),some (.ref D),o6]/\aQ p H5 H'/\H' p=some (.dT kv)/\kv.length<=((rise F M).drop (vs.length-i)).length+1/\(∀d∈(rise F M).drop (vs.length-i),∃v,fM kv (kT (ci d))=some v/\cC H' (fY (yO F W M (eP ws) mix ps cs d)) v)/\fM kv (kT (ci c))=some v/\cC H' (fY y) v/\y∈gs/\∀g∈gs.take j,rv y<=rv g)
   ⟨_,_,v0,g0,rfl,(aY.refl _).but,e5,by rw [List.length_drop];omega,put (keep (s4.t.trans t5) D3.yes),self,rv0.flat t5 (cQ _),aG hg0,λg hg=>by rw [List.take_zero] at hg;cases hg⟩ (λj σ H' _ q=>?_) ?_ ?_
  ·obtain ⟨_,_,_,_,_,b',_⟩:=q;exact fN.of (b'.at nDp (b5.at nDp e4))
  ·rintro j x2 σ H6 hx2 ⟨o6',kv,v,y,rfl,b6,e6,l6,d6,vv6,ry6,hy6,hm6⟩;obtain ⟨g,hg,rg⟩:=eW r4 hx2;have t6:dB H5 H6:=aQ.tT b6 e5;have hgm:=aG hg;have hac6:H6 ac=some (.tup (c.map zU)):=t6 _ _ hac5;have rg6:cC H6 (fY g) x2:=rg.flat (t5.trans t6) (cQ _);refine ⟨_,rfl,_,rfl,_,rfl,?_⟩;refine LX e6 (c:=ci c) (by rw [eE];exact hac6) vv6 ?_;refine KK (gR.of rg6) (gR.of ry6) (lg g hgm).2 (lg y hy6).2 ?_;refine ⟨_,rfl,?_⟩;have lts:=aBF (lg g hgm).1.pos (lg y hy6).1.pos;refine uQ (λlt=>?_) (λlt=>?_)
   ·have lt':=lts.mp lt;refine ⟨_,rfl,_,rfl,_,rfl,?_⟩;rw [List.length_drop] at l6;refine QU e6 (c:=ci c) (by rw [eE];exact hac6) Oo λH7 e7 b7=>?_;have t7:=aQ.tT b7 e6;refine ⟨_,_,x2,g,rfl,b6.trans b7,e7,?_,put (keep t7 d6),self,rg6.flat t7 (cQ _),hgm,λz hz=>?_⟩
    ·have:(iR kv (kT (ci c)) x2).map (·.1)=kv.map (·.1):=rH (by rw [vv6];rfl);have h2:=congrArg List.length this;rw [aA,aA] at h2;rw [List.length_drop];omega
    ·rw [eN hg] at hz;rcases bX.mp hz with hz | hz
     ·have:=hm6 z hz;grind
     ·rw [bG.mp hz];exact Rat.le_refl
   ·refine ⟨_,kv,v,y,rfl,b6,e6,l6,d6,vv6,ry6,hy6,λz hz=>?_⟩;rw [eN hg] at hz;rcases bX.mp hz with hz | hz
    ·exact hm6 z hz
    ·rw [bG.mp hz];exact Rat.not_lt.mp λq=>lt (lts.mpr q)
  ·rintro σ H6 ⟨o6',kv,v,y,rfl,b6,e6,l6,d6,vv6,ry6,hy6,hm6⟩;have t6:dB H5 H6:=aQ.tT b6 e5;rw [lxs,cR] at hm6;have ey:y=yO F W M (eP ws) mix ps cs c:=by
    have e:rv y=kK (gs.map rv):=(BO (aV.mpr ⟨y,hy6,rfl⟩) λx hx=>by
     obtain ⟨g,hg,rfl⟩:=aV.mp hx;exact hm6 g hg).symm
    rw [ok4.v,<-NA] at e;rw [<-aAL (lg y hy6).1,e];rfl
   rw [ey] at ry6;refine ⟨_,_,_,kv,rfl,aY.thru hp S5 b6,b6.at nRp (b5.at nRp (s4 _ _ eR3)),aW.flat (t5.trans t6) (jN _) (rR3.same s4),e6,?_⟩;rw [hd];refine ⟨λd hd'=>?_,by rw [bU];exact l6⟩;rcases bC.mp hd' with rfl | hd'
   ·exact ⟨v,vv6,ry6⟩
   ·exact d6 d hd'
 ·rintro σ H3 ⟨o4,o5,o6,kvs,rfl,S3,eR3,rR3,e3,D3⟩;rw [Nat.sub_self,List.drop_zero] at D3;exact ⟨_,rfl,k p kvs H3 S3 hp e3 D3⟩
end
structure Sw(n w:Nat)(d:PyData):Prop where
 sh:PyData.showable d=true
 nd:PyData.hasDict d=false
 dp:PyData.depth d<=n
 wd:SI d<=w
theorem Sw.all{n w:Nat}:∀{ds:List PyData},(∀d∈ds,Sw n w d)->PyData.showableAll ds=true/\PyData.hasDictAll ds=false/\PyData.depthAll ds<=n/\BA ds<=ds.length*(w+2)
 | [],_=>⟨rfl,rfl,cE _,cE _⟩
 | d::ds,h=>by
  obtain ⟨a,b,c,e⟩:=h d (aU ..);obtain ⟨a',b',c',e'⟩:=Sw.all λx hx=>h x (aR d hx);refine ⟨?_,?_,?_,?_⟩
  ·show (PyData.showable d&&PyData.showableAll ds)=true;rw [a,a'];rfl
  ·show (PyData.hasDict d || PyData.hasDictAll ds)=false;rw [b,b'];rfl
  ·show max (PyData.depth d) (PyData.depthAll ds)<=n;omega
  ·show SI d+2+BA ds<=(ds.length+1)*(w+2);rw [Nat.add_mul,Nat.one_mul];omega
theorem Sw.tup{n w k:Nat}{ds:List PyData}(h:∀d∈ds,Sw n w d)(hl:ds.length<=k):Sw (n+1) (k*(w+2)+4) (.tuple ds):=by
 obtain ⟨a,b,c,e⟩:=Sw.all h;refine ⟨a,b,by show PyData.depthAll ds+1<=n+1;omega,?_⟩;show BA ds+4<=_;have:=bO (w+2) hl;omega
theorem Sw.le{n w m v:Nat}{d:PyData}(h:Sw n w d)(hn:n<=m:=by decide)(hw:w<=v:=by decide):Sw m v d:=⟨h.sh,h.nd,aK h.dp hn,aK h.wd hw⟩
theorem Sw.int{x:Int}{k:Nat}(h:x.natAbs<2^k)(hk:k<=1900:=by decide):Sw 1 1921 (.int x) :=
 ⟨TK (n:=1900) (aO h (aP Dd hk)),rfl,by simp [PyData.depth],aI _⟩
theorem Sw.str{s:Str}{w:Nat}(h:(reprText s).length<=w):Sw 1 w (.str s):=⟨rfl,rfl,by simp [PyData.depth],h⟩
theorem Sw.fr{f:Fr}(h:mZ 1900 f):Sw 2 3850 (fY f):=Sw.tup (k:=2) (n:=1) (w:=1921) (λd hd=>by
 simp only [bC,List.not_mem_nil,or_false] at hd;rcases hd with rfl | rfl
 ·exact Sw.int h.1
 ·exact Sw.int h.2) (aI _)
theorem Sw.frs{fs:List Fr}{k:Nat}(h:∀f∈fs,mZ 1900 f)(hl:fs.length<=k):Sw 3 (k*3852+4) (pE fs):=Sw.tup (n:=2) (w:=3850) (λd hd=>by
 obtain ⟨f,hf,rfl⟩:=aV.mp hd;exact Sw.fr (h f hf)) (by rw [aA];exact hl)
theorem Sw.cts{c:List Nat}(h:∀x∈c,x<1000){k:Nat}(hl:c.length<=k):Sw 2 (k*1923+4) (kC c):=Sw.tup (n:=1) (w:=1921) (λd hd=>by
 obtain ⟨x,hx,rfl⟩:=aV.mp hd;exact Sw.int (k:=10) (by have:=h x hx;show (x:Int).natAbs<1024;omega)) (by rw [aA];exact hl)
theorem rrW{H:Hp}{Q:VK}{x:V}{d:PyData}{n w:Nat}(r:cC H d x)(h:Sw n w d)(hn:n<=60)(hw:w<=16000000)(q:Q (.str d.shown) H):DT [x] H Q :=
 rrI r h.sh h.nd (aK h.dp hn) (aK (wY _ h.sh h.nd) (aK h.wd (aK hw Dd))) q
theorem AM{fs:List Fr}{i:Nat}{f:Fr}(h:fs[i]?=some f):dU fs i=rv f:=by unfold dU;rw [gF h]
theorem SY{fs:List Fr}{i:Nat}(h:fs.length<=i):dU fs i=0:=by
 unfold dU;rw [bJ,eY h];exact oQ
theorem TrC.b{F W:Nat}{fs:List Str}{ws:List (Str × List Fr)}(T:TrC F W fs ws):∀x∈ws,BOk 10 x.2:=λx hx =>
 ⟨λf hf=>((T.sh x hx).at f hf).1.low,λf hf=>by have:=(T.sh x hx).bits f hf;show f.1.natAbs<=1024;omega,λf hf=>by have:=(T.sh x hx).bits f hf;show f.2.natAbs<=1024;omega⟩
theorem OA{B:Nat}(h:B<=1000000000000000):B<=2^200:=aK h Kk
theorem NZ{B:Nat}(h:B<=1000000000000000):B<2^300:=bA h Kk
theorem n45{M Np Nc:Nat}(hM:M<=5)(p1:0<Np)(p2:Np<=1000000000000000)(c1:0<Nc)(c2:Nc<=1000000000000000):0<lP M hV hV Np Nc/\lP M hV hV Np Nc<2^300:=by
 refine ⟨mY (mY (mY p1 c1) Dd) (Nat.pow_pos Dd),?_⟩;have h1:hV^M<=hV^5:=aP Dd hM;have h2:lP M hV hV Np Nc<=1000000000000000*1000000000000000*hV*hV^5:=Nat.mul_le_mul (bO _ (Nat.mul_le_mul p2 c2)) h1;have h3:1000000000000000*1000000000000000*hV*hV^5<2^300:=Kk;omega
structure oJ(H:Hp)(tv av pv:V)(fs:List Str)(ws:List (Str × List Fr))(bs mix ps cs:List Fr)(F W M:Nat):Prop where
 rt:cC H (qN fs ws) tv
 ra:cC H (lM M bs mix cs) av
 rp:cC H (pE ps) pv
 T:TrC F W fs ws
 f:2<=F/\F<=4
 w:2<=W/\W<=4
 m:M<=5/\(rise F M).length<=20
 bl:bs.length=W
 b:∀f∈bs,FnP 27720 1 f
 mx:CO W mix
 pl:ps.length=W
 p:∀f∈ps,CU f
 cl:cs.length=M
 c:∀f∈cs,CU f
section
variable{H H':Hp}{tv av pv:V}{fs:List Str}{ws:List (Str × List Fr)}{bs mix ps cs:List Fr}{F W M:Nat}
theorem oJ.t(s:dB H H')(I:oJ H tv av pv fs ws bs mix ps cs F W M):oJ H' tv av pv fs ws bs mix ps cs F W M :=
 ⟨I.rt.flat s (nR _ _),I.ra.flat s (uX _ _ _ _),I.rp.flat s (jW _),I.T,I.f,I.w,I.m,I.bl,I.b,I.mx,I.pl,I.p,I.cl,I.c⟩
theorem oJ.n(I:oJ H tv av pv fs ws bs mix ps cs F W M):0<lP M hV hV (dens ps) (dens cs)/\lP M hV hV (dens ps) (dens cs)<2^300 :=
 n45 I.m.1 (qH I.p) (tK I.p (by have:=I.pl;have:=I.w;omega)) (qH I.c) (tK I.c (by have:=I.cl;have:=I.m;omega))
theorem oJ.wo(I:oJ H tv av pv fs ws bs mix ps cs F W M):iO F W M (eP ws) mix ps cs hV hV (dens ps) (dens cs) 999 where
 f1:=by have:=I.f;omega
 f4:=I.f.2
 w1:=by have:=I.w;omega
 w4:=I.w.2
 m5:=I.m.1
 sl:=by rw [aA];exact I.T.w
 ml:=I.mx.len
 pl:=I.pl
 cl:=I.cl
 sh:=λs hs=>by
  obtain ⟨x,hx,rfl⟩:=aV.mp hs;exact ⟨(I.T.sh x hx).len,λf hf=>((I.T.sh x hx).at f hf).1⟩
 mx:=λf hf=>(I.mx.at f hf).1
 pr:=BZ I.p
 co:=BZ I.c
 pos:=I.n.1
 sz:=aO I.n.2 (aP Dd Dd)
 b:=Dd
theorem JV{f:Fr}(h:CU f):mZ 1900 f:=by
 obtain ⟨a,b,c,d⟩:=h;have:=a.pos;have e:(1000:Nat)<=2^1900:=aK (show 1000<=2^10 by decide) (aP Dd Dd);exact ⟨aO (show f.1.natAbs<1000 by omega) e,aO (show f.2.natAbs<1000 by omega) e⟩
theorem XZ{N B:Nat}{f:Fr}(h:Fn N B f)(h0:0<N)(hN:N<2^300)(hB:B<=2^200):mZ 1900 f:=by
 obtain ⟨h1,h2⟩:=h.num h0;have e:(2:Nat)^300*2^200<=2^1900:=by rw [<-Nat.pow_add];exact aP Dd Dd
 have e3:B*N<2^300*2^200:=by
  rw [Nat.mul_comm];exact Nat.mul_lt_mul_of_lt_of_le hN hB (Nat.two_pow_pos _)
 have e2:(2:Nat)^300<=2^1900:=aP Dd Dd;exact ⟨Oo,Oo⟩
theorem CO.sz19{m:Nat}{gs:List Fr}(h:CO m gs):∀f∈gs,mZ 1900 f:=λf hf=>by
 have:=h.bits f hf;have e:(1000:Nat)<=2^1900:=aK (show 1000<=2^10 by decide) (aP Dd Dd);exact ⟨Oo,Oo⟩
theorem TrC.sw(T:TrC F W fs ws)(hf:F<=4)(hw:W<=4):Sw 6 250000 (qN fs ws):=(Sw.tup (n:=5) (w:=124000) (k:=2) (λd hd=>by
 simp only [bC,List.not_mem_nil,or_false] at hd;rcases hd with rfl | rfl
 ·refine (Sw.tup (n:=1) (w:=20) (k:=4) (λe he=>?_) (by rw [aA,T.f];exact hf)).le;obtain ⟨s,hs,rfl⟩:=aV.mp he;exact Sw.str (T.nf s hs)
 ·refine (Sw.tup (n:=4) (w:=30900) (k:=4) (λe he=>?_) (by rw [aA,T.w];exact hw)).le;obtain ⟨x,hx,rfl⟩:=aV.mp he;refine (Sw.tup (n:=3) (w:=15420) (k:=2) (λe he=>?_) (aI _)).le;simp only [bC,List.not_mem_nil,or_false] at he;rcases he with rfl | rfl
  ·exact (Sw.str (T.nw x hx)).le
  ·exact (Sw.frs (k:=4) (T.sh x hx).sz19 (by rw [(T.sh x hx).len];exact hf)).le) (aI _)).le
theorem aA2{bs mix cs:List Fr}{M W:Nat}(hb:∀f∈bs,FnP 27720 1 f)(bl:bs.length=W)(hm:CO W mix)(hc:∀f∈cs,CU f)(cl:cs.length=M)(w4:W<=4)(m5:M<=5):Sw 6 80000 (lM M bs mix cs):=(Sw.tup (n:=3) (w:=19300) (k:=4) (λd hd=>by
 simp only [bC,List.not_mem_nil,or_false] at hd;rcases hd with rfl | rfl | rfl | rfl
 ·exact (Sw.int (k:=10) (by show (M:Int).natAbs<1024;omega)).le
 ·exact (Sw.frs (k:=4) (λf hf=>XZ (hb f hf).1 Dd (NZ Dd) (OA Dd)) Oo).le
 ·exact (Sw.frs (k:=4) hm.sz19 (by rw [hm.len];exact w4)).le
 ·exact (Sw.frs (k:=5) (λf hf=>JV (hc f hf)) Oo).le) (aI _)).le
theorem oJ.sw(I:oJ H tv av pv fs ws bs mix ps cs F W M):Sw 7 800000 (.tuple [qN fs ws,lM M bs mix cs,pE ps]):=(Sw.tup (n:=6) (w:=250000) (k:=3) (λd hd=>by
 simp only [bC,List.not_mem_nil,or_false] at hd;rcases hd with rfl | rfl | rfl
 ·exact I.T.sw I.f.2 I.w.2
 ·exact (aA2 I.b I.bl I.mx I.c I.cl I.w.2 I.m.1).le
 ·exact (Sw.frs (k:=4) (λf hf=>JV (I.p f hf)) (by rw [I.pl];exact I.w.2)).le) (aI _)).le
end
abbrev ZT:Stmt:=(WR (top 27) 0)
theorem cQ0:cA ["self","trial","aim","way","weights","ahead","costs"] ["self","trial","aim"] (aX ZT):=⟨rfl,rfl,rfl,Kk,rfl,Kk,Kk⟩
theorem Fn.dn{N B:Nat}{f:Fr}(h:Fn N B f)(hN:0<N):f.2.natAbs ∣ N:=by
 obtain ⟨x,rfl,_⟩:=h.eq hN;unfold lw;show ((N:Int)/((Int.gcd x (N:Int):Nat):Int)).natAbs ∣ N;rw [<-Int.natCast_ediv,Int.natAbs_natCast];refine Nat.div_dvd_of_dvd ?_;have:=Int.gcd_dvd_right (a:=x) (b:=(N:Int));exact Int.ofNat_dvd.mp this
theorem lkS{fl:List (Str × V)}{f:Str}{v:V}:(eM f v fl).lookup f=some v:=by rw [nF,if_pos rfl]
theorem SK{fl:List (Str × V)}{f g:Str}{v u:V}(h:g≠f)(l:fl.lookup g=some u):(eM f v fl).lookup g=some u:=by rw [nF,if_neg h];exact l
theorem aQ.tI{H H':Hp}{x C dx:Addr}{fl:List (Str × V)}(s:aQ x H H')(hx:H x=some (.ins C dx fl)):dB H H':=λb ys h=>s.at (pC h hx (by intro z;cases z)) h
theorem iD.but{H H':Hp}{x C dx:Addr}{fl:List (Str × V)}{a:Addr}{cs:List (List Nat)}(s:aQ x H H')(hx:H x=some (.ins C dx fl))(h:iD H a cs):iD H' a cs:=by
 obtain ⟨vs,h1,h2⟩:=h;exact ⟨vs,s.at (pC h1 hx (by intro z;cases z)) h1,h2.flat (aQ.tI s hx) (jN _)⟩
theorem iD.butL{H H':Hp}{x:Addr}{xs:List V}{a:Addr}{cs:List (List Nat)}(s:aQ x H H')(hx:H x=some (.lst xs))(n:a≠x)(h:iD H a cs):iD H' a cs:=by
 obtain ⟨vs,h1,h2⟩:=h;exact ⟨vs,s.at n h1,h2.flat (s.t hx) (jN _)⟩
def rK(H:Hp)(tas:List Addr)(ss:List (List Fr))(rs:List (List Nat))(us:List Nat):Prop:=tas.length=us.length/\∀(i:Nat) (ta:Addr) (u:Nat),tas[i]?=some ta->us[i]?=some u->∃kvs,H ta=some (.dT kvs)/\DI kvs rs (λc=>fX ss i c*(u:Rat))
theorem rK.mono{H H':Hp}{tas:List Addr}{ss:List (List Fr)}{rs:List (List Nat)}{us:List Nat}(s:∀b kvs,H b=some (.dT kvs)->H' b=some (.dT kvs))(h:rK H tas ss rs us):rK H' tas ss rs us:=⟨h.1,λi ta u h1 h2=>by
 obtain ⟨kvs,g1,g2⟩:=h.2 i ta u h1 h2;exact ⟨kvs,s _ _ g1,g2⟩⟩
theorem rK.snoc{H:Hp}{tas:List Addr}{ss:List (List Fr)}{rs:List (List Nat)}{us:List Nat}{p:Addr}{u:Nat}{kvs:List (List eZ × V)}(h:rK H tas ss rs us)(hp:H p=some (.dT kvs))(D:DI kvs rs (λc=>fX ss us.length c*(u:Rat))):rK H (tas++[p]) ss rs (us++[u]):=by
 refine ⟨by rw [bE,bE,h.1];rfl,λi ta v h1 h2=>?_⟩;by_cases q:i<us.length
 ·rw [cK (by rw [h.1];exact q)] at h1;rw [cK q] at h2;exact h.2 i ta v h1 h2
 ·have li:=(aF.mp h2).1;rw [bE,List.length_singleton] at li;have ei:i=us.length:=Oo;subst ei;rw [cU (aI _),Nat.sub_self] at h2;rw [cU (by rw [h.1];exact aI _),h.1,Nat.sub_self] at h1;cases h1;cases h2;exact ⟨kvs,hp,D⟩
def ahd(F M:Nat):List (List Nat):=(rise F M).filter λc=>decide (c.sum<M)
structure xY(H:Hp)(x C:Addr)(F W M:Nat)(ss:List (List Fr))(mix cs:List Fr)(us:List Nat)(cu:Nat):Prop where
 ul:us.length=W
 ex:∃(dx:Addr) (fl:List (Str × V)) (ra ua wa ca:Addr) (tas:List Addr) (kvs:List (List eZ × V)),H x=some (.ins C dx fl)/\fl.lookup ("rising" : Str)=some (.ref ra)/\fl.lookup ("units" : Str)=some (.ref ua)/\fl.lookup ("weights" : Str)=some (.ref wa)/\fl.lookup ("cost_unit" : Str)=some (.int (cu:Int))/\fl.lookup ("costs" : Str)=some (.ref ca) /\
  iD H ra (rise F M)/\H ua=some (.lst (us.map zU))/\H wa=some (.lst (tas.map V.ref))/\rK H tas ss (rise F M) us/\H ca=some (.dT kvs)/\DI kvs (ahd F M) (λc=>HC W ss mix cs c*(cu:Rat))
theorem xY.same{H H':Hp}{x C:Addr}{F W M:Nat}{ss:List (List Fr)}{mix cs:List Fr}{us:List Nat}{cu:Nat}(s:aY H H')(h:xY H x C F W M ss mix cs us cu):xY H' x C F W M ss mix cs us cu:=by
 obtain ⟨ul,dx,fl,ra,ua,wa,ca,tas,kvs,a0,a1,a2,a3,a4,a5,a6,a7,a8,a9,a10,a11⟩:=h;exact ⟨ul,dx,fl,ra,ua,wa,ca,tas,kvs,s _ _ a0,a1,a2,a3,a4,a5,a6.same s,s _ _ a7,s _ _ a8,a9.mono λb k g=>s _ _ g,s _ _ a10,a11⟩
structure SA(ws:List (Str × List Fr))(bs:List Fr)(F W M Ns Nm Np Nc B Nb:Nat)(mix ps cs:List Fr):Prop where
 wo:iO F W M (eP ws) mix ps cs Ns Nm Np Nc B
 bo:∀x∈ws,BOk 10 x.2
 bl:bs.length=W
 bb:∀f∈bs,Fn Nb 1 f
 nb:0<Nb
 sz:lP M Ns Nm Np Nc*Nb<2^3000
@[irreducible] def qR(C:Addr):Sp:=λvs H Q _=>∃(x dx:Addr) (tv av:V) (fs:List Str) (ws:List (Str × List Fr)) (bs mix ps cs:List Fr) (F W M Ns Nm Np Nc B Nb:Nat),vs=[.ref x,tv,av]/\H x=some (.ins C dx [])/\cC H (qN fs ws) tv/\fs.length=F/\cC H (lM M bs mix cs) av/\SA ws bs F W M Ns Nm Np Nc B Nb mix ps cs /\
 ∀us cu H',aQ x H H'->xY H' x C F W M (eP ws) mix cs us cu->(∀u∈us,0<u/\u ∣ Ns^M*Nb)->0<cu->cu ∣ lP M Ns Nm Np Nc->Q .non H'
theorem KI{C:Addr}{H:Hp}{Q:VK}{E:XK}{x dx:Addr}{tv av:V}{fs:List Str}{ws:List (Str × List Fr)}{bs mix ps cs:List Fr}{F W M Ns Nm Np Nc B Nb:Nat}(h0:H x=some (.ins C dx []))(h1:cC H (qN fs ws) tv)(h2:fs.length=F)(h3:cC H (lM M bs mix cs) av)(h4:SA ws bs F W M Ns Nm Np Nc B Nb mix ps cs)
  (k:∀us cu H',aQ x H H'->xY H' x C F W M (eP ws) mix cs us cu->(∀u∈us,0<u/\u ∣ Ns^M*Nb)->0<cu->cu ∣ lP M Ns Nm Np Nc->Q .non H'):qR C [.ref x,tv,av] H Q E:=by
 unfold qR;exact ⟨x,dx,tv,av,fs,ws,bs,mix,ps,cs,F,W,M,Ns,Nm,Np,Nc,B,Nb,rfl,h0,h1,h2,h3,h4,k⟩
section
theorem oQ0(F:jT K "__init__" "Weighing.__init__" ZT f fd)(T:lB K mg c)(FQ23:gM dP P w K mg base 6 "all_counts" ["faces","most"] sS)(FQ31:gM dP P w K mg base 1 "faces_of" ["trial"] kJ)
  (FQ47:gM dP P w K mg base 1 "ways_of" ["trial"] lS) (FQ48:gM dP P w K mg base 3 "weight" ["trial","way","counts"] (lQ K)) (FQ27:gM dP P w K mg base 2 "common_lower" ["some"] (lW K)) (FQ32:gM dP P w K mg base 2 "in_units" ["rising","some","unit"] (mN K))
  (FQ34:gM dP P w K mg base 4 "look_cost" ["trial","aim","counts"] kX):dY P w K mg base dP 7 f fd ["self","trial","aim"] (qR c.Weighing):=by
 refine F.oky cQ0 λvs H Q E h=>?_;unfold qR at h;obtain ⟨x,dx,tv,av,fs,ws,bs,mix,ps,cs,F,W,M,Ns,Nm,Np,Nc,B,Nb,rfl,hx,rt,hF,ra,G,k⟩:=h;refine ⟨rfl,λcdv A outer s hr=>?_⟩;have I:=G.wo;have f1:=I.f1;have f4:=I.f4;have m5:=I.m5;have w4:=I.w4;have O:=T.w_Weighing;have wl:ws.length=W:=by have:=I.sl;rw [aA] at this;exact this
 obtain ⟨aa,xb,xm,xc,rfl,haa,rxb,rxm,rxc⟩:=uW ra;obtain ⟨ab,vb,rfl,hab,rvb⟩:=mP rxb;have small:=rP F f4 M m5;have nsp:0<Ns^M*Nb:=mY (by
  have:=I.pos;exact Nat.pos_of_ne_zero λz=>by rw [z,Nat.mul_zero] at this;exact bI _ this) G.nb
 have nsz:Ns^M*Nb<2^3000:=bA (by
  have h0:0<Np*Nc*Nm:=Nat.pos_of_ne_zero λz=>by have:=I.pos;rw [z,Nat.zero_mul] at this;exact bI _ this
  rw [show lP M Ns Nm Np Nc*Nb=Np*Nc*Nm*(Ns^M*Nb) by unfold lP;ac_rfl];exact Nat.le_mul_of_pos_left _ h0) G.sz
 refine ⟨_,(aH (sB (aD 0) (bS FQ23 (hr.mono Dd) (aJ (bS FQ31 (hr.mono Dd) (aJ (aD 1) aE)) (aJ (bT bL (aD 2) aL (λ_ _=>rfl)) aE))))
  (aH (sB (aD 0) (iI aE))
  (aH (sB (aD 0) (iI aE))
  (aH (fF PassesOwn.never rfl (cP rfl T.b_range (aJ (bS FQ47 (hr.mono Dd) (aJ (aD 1) aE)) aE)) (dF (i:=3) cQ0.nd rfl (Or.inr rfl)) (aH (gZ (i:=4) (dI.of (psc:=aX ZT) (N:=["self","trial","aim","way","weights","ahead","costs"]) (N':=["counts","trial","way"]) (js:=[1,3]) Kk rfl rfl rfl) cQ0.nd rfl rfl (fD (gO K (aD 0))) (λ_ _ _ _=>dR) (λ_ _ _ _=>(bS FQ48 (hr.mono Dd) (aJ (aD 1) (aJ (aD 2) (aJ (aD 0) aE))))))
  (aH (jU (pA PySem.F.plainAttrs_list PySem.F.slot_list_append PySem.F.type_list_append qB (gO K (aD 0)) (aJ (bS FQ27 (hr.mono Dd) (aJ (bQ xD (aD 4) (iI (aJ (bT bL (bT bL (aD 2) aL (λ_ _=>rfl)) (aD 3) (λ_ _=>rfl)) aE))) aE)) aE)))
  (bD (jU (pA PySem.F.plainAttrs_list PySem.F.slot_list_append PySem.F.type_list_append qB (gO K (aD 0)) (aJ (bS FQ32 (hr.mono Dd) (aJ (gO K (aD 0)) (aJ (aD 4) (aJ (bT bL (gO K (aD 0)) (aD 3) (λ_ _=>rfl)) aE)))) aE)))))))
  (aH (gZ (i:=5) (dI.of (psc:=aX ZT) (N:=["self","trial","aim","way","weights","ahead","costs"]) (N':=["counts","aim"]) (js:=[2]) Kk rfl rfl rfl) cQ0.nd rfl rfl (fD (gO K (aD 0))) (λ_ _ _ _=>AH (eQ xC (eG (qZ K rfl) (by rfl) T.b_sum Kk (aJ (aD 0) aE)) (bT (iS K) (aD 1) aL (λ_ _=>rfl)) (nomark _))) (λ_ _ _ _=>(aD 0)))
  (aH (gZ (i:=6) (dI.of (psc:=aX ZT) (N:=["self","trial","aim","way","weights","ahead","costs"]) (N':=["counts","trial","aim"]) (js:=[1,2]) Kk rfl rfl rfl) cQ0.nd rfl rfl (fD (aD 5)) (λ_ _ _ _=>dR) (λ_ _ _ _=>(bS FQ34 (hr.mono Dd) (aJ (aD 1) (aJ (aD 2) (aJ (aD 0) aE))))))
  (aH (sB (aD 0) (bS FQ27 (hr.mono Dd) (aJ (aD 6) aE)))
  (bD (sB (aD 0) (bS FQ32 (hr.mono Dd) (aJ (aD 5) (aJ (aD 6) (aJ (gO K (aD 0)) aE))))))))))))),?_⟩
 refine ⟨_,rfl,?_⟩;refine sQ rt ?_;rw [hF];refine ⟨_,rfl,?_⟩;refine lA haa rfl ?_;refine KN f1 f4 m5 λR H1 s1 hR LR=>?_;have LR:iD H1 R (rise F M):=LR;have hx1:=s1 _ _ hx;refine ⟨_,rfl,x,c.Weighing,dx,_,rfl,hx1,O.cls,O.no _ (by simp),by show 0<1000;decide,?_⟩;have b2:aQ x H1 (upd H1 x (.ins c.Weighing dx (eM "rising" (.ref R) []))):=aQ.self;have e2:(upd H1 x (.ins c.Weighing dx (eM "rising" (.ref R) []))) x=some (.ins c.Weighing dx (eM "rising" (.ref R) [])):=bM;generalize upd H1 x (.ins c.Weighing dx (eM "rising" (.ref R) []))=H2 at b2 e2 ⊢;have L2:=LR.but b2 hx1;have t2:dB H H2:=s1.t.trans (aQ.tI b2 hx1);have B2:aQ x H H2:=s1.but.trans b2;refine DY (by show 0<=64;decide) λua H3 hua e3 s3=>?_;refine ⟨_,rfl,x,c.Weighing,dx,_,rfl,s3 _ _ e2,O.cls,O.no _ (by simp),by show 1<1000;decide,?_⟩;have b4:=aQ.self (p:=x) (H:=H3) (o:=.ins c.Weighing dx (eM "units" (.ref ua) (eM "rising" (.ref R) [])));have e4:(upd H3 x (.ins c.Weighing dx (eM "units" (.ref ua) (eM "rising" (.ref R) [])))) x=_:=bM;generalize upd H3 x (.ins c.Weighing dx (eM "units" (.ref ua) (eM "rising" (.ref R) [])))=H4 at b4 e4 ⊢;have nux:ua≠x:=λz=>by rw [z,e2] at hua;cases hua
 have e4u:=b4.at nux e3;have L4:=(L2.same s3).but b4 (s3 _ _ e2);have t4:dB H H4:=(t2.trans s3.t).trans (aQ.tI b4 (s3 _ _ e2));have B4:aQ x H H4:=(B2.trans s3.but).trans b4;refine DY (by show 0<=64;decide) λwa H5 hwa e5 s5=>?_;refine ⟨_,rfl,x,c.Weighing,dx,_,rfl,s5 _ _ e4,O.cls,O.no _ (by simp),by show 2<1000;decide,?_⟩;have b6:=aQ.self (p:=x) (H:=H5) (o:=.ins c.Weighing dx (eM "weights" (.ref wa) (eM "units" (.ref ua) (eM "rising" (.ref R) []))));have e6:(upd H5 x (.ins c.Weighing dx (eM "weights" (.ref wa) (eM "units" (.ref ua) (eM "rising" (.ref R) []))))) x=_:=bM;generalize upd H5 x (.ins c.Weighing dx (eM "weights" (.ref wa) (eM "units" (.ref ua) (eM "rising" (.ref R) []))))=H6 at b6 e6 ⊢;have nwx:wa≠x:=λz=>by rw [z,e4] at hwa;cases hwa
 have nwu:wa≠ua:=λz=>by rw [z,e4u] at hwa;cases hwa
 have e6w:=b6.at nwx e5;have e6u:=b6.at nux (s5 _ _ e4u);have L6:=(L4.same s5).but b6 (s5 _ _ e4);have B6:aQ x H H6:=(B4.trans s5.but).trans b6;have lr:(eM "weights" (V.ref wa) (eM "units" (.ref ua) (eM "rising" (.ref R) []))).lookup ("rising" : Str)=some (.ref R):=SK Dd (SK Dd lkS);have lu:(eM "weights" (V.ref wa) (eM "units" (.ref ua) (eM "rising" (.ref R) []))).lookup ("units" : Str)=some (.ref ua):=SK Dd lkS;have lw':(eM "weights" (V.ref wa) (eM "units" (.ref ua) (eM "rising" (.ref R) []))).lookup ("weights" : Str)=some (.ref wa):=lkS;have fle:(eM "weights" (V.ref wa) (eM "units" (.ref ua) (eM "rising" (.ref R) []))).length<=3:=by
  have h1:=jR "weights" (V.ref wa) (eM "units" (.ref ua) (eM "rising" (.ref R) []));have h2:=jR "units" (V.ref ua) (eM "rising" (.ref R) []);have h3:=jR "rising" (V.ref R) [];simp only [List.length_nil] at h3;omega
 generalize eM "weights" (V.ref wa) (eM "units" (.ref ua) (eM "rising" (.ref R) []))=fl at e6 lr lu lw' fle ⊢;have hu0:H ua=none:=by
  cases q:H ua with
  | none=>rfl
  | some o=>exact absurd (B2.at nux q) (by rw [hua];intro z;cases z)
 have hw0:H wa=none:=by
  cases q:H wa with
  | none=>rfl
  | some o=>exact absurd (B4.at nwx q) (by rw [hwa];intro z;cases z)
 have nRu:R≠ua:=λz=>by obtain ⟨vs,g,_⟩:=L2;rw [z,hua] at g;cases g
 have nRw:R≠wa:=λz=>by obtain ⟨vs,g,_⟩:=L4;rw [z,hwa] at g;cases g
 clear hua hwa e2 e3 e4 e5 e4u b2 b4 b6 s3 s5 L2 L4 LR t2 t4 B2 B4;refine ⟨_,rfl,?_⟩;refine vF (rt.flat (aQ.tI B6 hx) (nR _ _)) ?_;rw [wl];refine ⟨_,rfl,Oo,Oo,?_⟩;refine fZ (λi σ H'=>∃(o3 o4:Option V) (us:List Nat) (tas:List Addr),σ=[some (.ref x),some tv,some (.ref aa),o3,o4,none,none]/\aQ x H H'/\H' x=some (.ins c.Weighing dx fl)/\iD H' R (rise F M)/\H' ua=some (.lst (us.map zU))/\us.length=i/\H' wa=some (.lst (tas.map V.ref))/\rK H' tas (eP ws) (rise F M) us/\∀u∈us,0<u/\u ∣ Ns^M*Nb)
  ⟨_,_,[],[],rfl,B6,e6,L6,e6u,rfl,e6w,⟨rfl,λi ta u h=>by simp at h⟩,λu hu=>by cases hu⟩ ?_ ?_
 ·rintro i σ H7 hi ⟨o3,o4,us,tas,rfl,B7,e7,L7,e7u,ul,e7w,tb7,hus⟩;have hi:i<W:=Oo;have t7:=aQ.tI B7 hx;have rt7:=rt.flat t7 (nR _ _);obtain ⟨xv,hxv⟩:∃xv,ws[i]?=some xv:=⟨_,aB (by rw [wl];exact hi)⟩;have ex:(eP ws).getD i []=xv.2:=gF (by rw [aM,hxv];rfl);obtain ⟨vs7,e7r,r7,lr7⟩:=L7.len;rw [Int.zero_add];refine ⟨_,rfl,?_⟩;refine rD O (by simp) e7 lr ?_;refine ⟨R,rfl,⟨_,fN.of e7r⟩,?_⟩;refine gX (λj y H'=>∃cc,(rise F M)[j]?=some cc/\yM K H' (jP (xv.2.zip cc)) y) (λj y Ha Hb s ⟨cc,h1,h2⟩=>⟨cc,h1,h2.t s⟩) Oo e7r (λj y H' Q' hy s' k'=>?_) (λD ys H8 hD e8 s8 hy8 hr8=>?_)
  ·obtain ⟨cc,hc,rc⟩:=eW r7 hy;have hcm:=(gT f1).mp (aG hc);refine ⟨_,rfl,_,rfl,_,rfl,?_⟩;refine vE (rt7.same s') hxv (rc.same s') (G.bo xv (aG hxv)) Oo λxw H9 s9 fw=>?_;exact k' _ H9 s9 ⟨cc,hc,fw⟩
  have ly8:ys.length=(rise F M).length:=Oo;have fr8:rE K H8 ((rise F M).map λcc=>jP (xv.2.zip cc)) ys:=⟨by rw [aA];exact ly8,λj y hj=>by
   obtain ⟨cc,h1,h2⟩:=hr8 j y hj;exact ⟨_,by rw [aM,h1];rfl,h2⟩⟩
  have e8x:=s8 _ _ e7;have e8u:=s8 _ _ e7u;have e8w:=s8 _ _ e7w;have B8:=B7.trans s8.but;refine ⟨_,rfl,?_⟩;refine rD O (by simp) e8x lu ?_;refine ⟨MP e8u,?_⟩;refine ⟨_,rfl,?_⟩;have t8:=aQ.tI B8 hx;obtain ⟨fb,hfb⟩:∃fb,bs[i]?=some fb:=⟨_,aB (by rw [G.bl];exact hi)⟩;obtain ⟨yb,hyb,ryb⟩:=eI rvb hfb;refine ⟨_,rfl,?_⟩;refine lA (t8 _ _ haa) rfl ?_;refine ⟨_,rfl,?_⟩;refine lA (t8 _ _ hab) (cT hyb) ?_;refine DY (by show 1<=64;decide) λq9 H9 hq9 e9 s9=>?_;refine RK (s9 _ _ e8) e9 (by rw [ly8];show (rise F M).length+1<=1000;omega) λq10 H10 hq10 e10 s10=>?_;have s810:=s9.trans s10;have ryb10:yM K H10 fb yb:=.inl (ryb.flat (t8.trans s810.t) (cQ _));have fr10:rE K H10 ((rise F M).map (λcc=>jP (xv.2.zip cc))++[fb]) (ys++[yb]):=⟨by rw [bE,bE,aA,ly8];rfl,λj y hj=>by
   by_cases q:j<ys.length
   ·rw [cK q] at hj;obtain ⟨g,h1,h2⟩:=fr8.at_ j y hj;exact ⟨g,by rw [cK (by rw [aA];omega)];exact h1,h2.t s810.t⟩
   ·have lj:=(aF.mp hj).1;rw [bE,List.length_singleton] at lj;have ej:j=ys.length:=Oo;subst ej;rw [cU (aI _),Nat.sub_self] at hj;cases hj;exact ⟨fb,by rw [cU (by rw [aA];omega),aA,ly8,Nat.sub_self];rfl,ryb10⟩⟩
  have wn:∀cc,cc∈rise F M->Fn (Ns^M) 1 (jP (xv.2.zip cc)):=λcc hc=>by
   have hcm:=(gT f1).mp hc;have h1:=rB I hi cc;have h2:=I.qn hi (c:=cc) Oo;rw [ex] at h1;unfold fX at h2;rw [ex] at h2;exact Qn.f h1 h2
  refine pQ e10 fr10.v nsp nsz (λg hg=>?_) λU u0 uN hU=>?_
  ·rcases bX.mp hg with hg | hg
   ·obtain ⟨cc,hc,rfl⟩:=aV.mp hg;have:=(wn cc hc).dvd (Nat.dvd_mul_right (Ns^M) Nb);exact ⟨this.low,Fn.dn this nsp⟩
   ·rw [bG.mp hg];have:=(G.bb fb (aG hfb)).dvd (Nat.dvd_mul_left Nb (Ns^M));exact ⟨this.low,Fn.dn this nsp⟩
  have uz:U<2^3000:=bA (jS nsp uN) nsz;have e10u:=s810 _ _ e8u;refine FK e10u (by rw [aA];omega) λH11 e11 b11=>?_;have e11u:H11 ua=some (.lst ((us++[U]).map zU)):=by rw [e11,bF];rfl
  have e11x:=b11.at (Ne.symm nux) (s810 _ _ e8x);have e11w:=b11.at nwu (s810 _ _ e8w);have L11:=((L7.same s8).same s810).butL b11 e10u nRu;have t11:dB H8 H11:=s810.t.trans (b11.t e10u);have hDu:D≠ua:=λz=>by rw [z,e7u] at hD;cases hD
  have e11D:=b11.at hDu (s810 _ _ e8);have B11:aQ x H H11:=aQ.thru hu0 (B8.trans s810.but) b11;have tb11:rK H11 tas (eP ws) (rise F M) us:=tb7.mono λb kv g=>b11.at (pC (s810 _ _ (s8 _ _ g)) e10u (by intro z;cases z)) (s810 _ _ (s8 _ _ g));refine ⟨_,rfl,?_⟩;refine rD O (by simp) e11x lw' ?_;refine ⟨MP e11w,?_⟩;refine ⟨_,rfl,?_⟩;refine rD O (by simp) e11x lr ?_;refine ⟨_,rfl,?_⟩;refine ⟨_,rfl,?_⟩;refine rD O (by simp) e11x lu ?_;refine ⟨_,rfl,?_⟩;refine FO e11u (cT (j:=i) (v:=zU U) (by rw [bF,cU (by rw [aA];omega),aA,ul,Nat.sub_self];rfl)) ?_;refine sO (g:=λcc=>jP (xv.2.zip cc)) L11 e11D (fr8.t t11) small uz (λcc hc=>?_) λp kvs H12 s12 hp e12 D12=>?_
  ·have h1:=(wn cc hc).dvd (Nat.dvd_mul_right (Ns^M) Nb);exact ⟨h1.low,iF I (by have:=wI I hi (c:=cc) ((gT f1).mp hc).2;rw [ex] at this;exact this) (aK (show 1<=1000000000000 by decide) kN),hU _ (bV _ (aV.mpr ⟨cc,hc,rfl⟩))⟩
  refine FK (s12 _ _ e11w) (by rw [aA,tb7.1];omega) λH13 e13 b13=>?_;have hpw:p≠wa:=λz=>by rw [z,e11w] at hp;cases hp
  have B12:=B11.trans s12.but;refine ⟨_,_,us++[U],tas++[p],rfl,aQ.thru hw0 B12 b13,b13.at (Ne.symm nwx) (s12 _ _ e11x),(L11.same s12).butL b13 (s12 _ _ e11w) nRw,b13.at (Ne.symm nwu) (s12 _ _ e11u),by rw [bE,ul];rfl,by rw [e13,bF];rfl,?_,λu hu=>?_⟩
  ·refine rK.snoc (kvs:=kvs) ?_ (b13.at hpw e12) ?_
   ·exact tb11.mono λb kv g=>b13.at (pC (s12 _ _ g) (s12 _ _ e11w) (by intro z;cases z)) (s12 _ _ g)
   ·rw [ul];have:(λcc=>fX (eP ws) i cc*(U:Rat))=λcc=>rv (jP (xv.2.zip cc))*(U:Rat):=by
     funext cc
     unfold fX wq;rw [ex]
    rw [this];exact D12
  ·rcases bX.mp hu with hu | hu
   ·exact hus u hu
   ·rw [bG.mp hu];exact ⟨u0,uN⟩
 ·rintro σ H7 ⟨o3,o4,us,tas,rfl,B7,e7,L7,e7u,ul,e7w,tb7,hus⟩;have ul:us.length=W:=Oo;have t7:=aQ.tI B7 hx;have rt7:=rt.flat t7 (nR _ _);have ra7:=ra.flat t7 (uX _ _ _ _);obtain ⟨vs7,e7r,r7,lr7⟩:=L7.len;refine ⟨_,rfl,?_⟩;refine rD O (by simp) e7 lr ?_;refine ⟨R,rfl,⟨_,fN.of e7r⟩,?_⟩;refine zS (g:=kC) r7 (λcc=>decide (cc.sum<M)) Oo e7r (λy cc H' Q' hc ry s' k'=>?_) (λy H' Q' q=>⟨_,rfl,q⟩) (λD ys H8 hD e8 s8 r8=>?_)
  ·obtain ⟨ac,rfl,hac⟩:=gG ry;refine ⟨_,rfl,?_⟩;refine rsT (ns:=ci cc) (by rw [eE];exact jH.of hac) ?_;rw [uU];refine ⟨_,rfl,?_⟩;refine lA (s' _ _ (t7 _ _ haa)) rfl ?_;refine ⟨_,_,rfl,rfl,_,rfl,?_⟩;rw [show decide ((cc.sum:Int)<(M:Int))=decide (cc.sum<M) by simp];exact k' H' (aY.refl _)
  have r8:aW H8 ((ahd F M).map kC) ys:=r8;have ly8:ys.length=(ahd F M).length:=by rw [r8.len,aA]
  have la:(ahd F M).length<=(rise F M).length:=List.length_filter_le ..;refine ⟨_,rfl,D,rfl,⟨_,fN.of e8⟩,?_⟩;have mah:∀cc,cc∈ahd F M->cc.length=F/\cc.sum<M:=λcc hc=>by
   obtain ⟨h1,h2⟩:=cW.mp hc;exact ⟨((gT f1).mp h1).1,of_decide_eq_true h2⟩
  refine gX (λj y H'=>∃cc,(ahd F M)[j]?=some cc/\cC H' (fY (iC (HC W (eP ws) mix cs cc))) y) (λj y Ha Hb s ⟨cc,h1,h2⟩=>⟨cc,h1,h2.flat s (cQ _)⟩) Oo e8 (λj y H' Q' hy s' k'=>?_) (λD2 zs H9 hD2 e9 s9 hy9 hr9=>?_)
  ·obtain ⟨cc,hc,rc⟩:=eW r8 hy;refine ⟨_,rfl,_,rfl,_,rfl,?_⟩;refine yF ((rt7.same s8).same s') ((ra7.same s8).same s') (rc.same s') I G.bo (mah cc (aG hc)).2 λv H10 s10 r10=>?_;exact k' _ H10 s10 ⟨cc,hc,r10⟩
  have lz9:zs.length=(ahd F M).length:=Oo;have fr9:rE K H9 ((ahd F M).map λcc=>iC (HC W (eP ws) mix cs cc)) zs:=⟨by rw [aA];exact lz9,λj y hj=>by
   obtain ⟨cc,h1,h2⟩:=hr9 j y hj;exact ⟨_,by rw [aM,h1];rfl,.inl h2⟩⟩
  have ln:∀cc,cc∈ahd F M->Fn (lP M Ns Nm Np Nc) (B*4) (iC (HC W (eP ws) mix cs cc)):=λcc hc=>JS I (mah cc hc).2;refine ⟨_,rfl,?_⟩;refine pQ e9 fr9.v I.pos I.sz (λg hg=>?_) λU u0 uN hU=>?_
  ·obtain ⟨cc,hc,rfl⟩:=aV.mp hg;exact ⟨(ln cc hc).low,Fn.dn (ln cc hc) I.pos⟩
  have uz:U<2^3000:=bA (jS I.pos uN) I.sz;have s79:=s8.trans s9;refine ⟨_,rfl,x,c.Weighing,dx,_,rfl,s79 _ _ e7,O.cls,O.no _ (by simp),Oo,?_⟩;have b10:=aQ.self (p:=x) (H:=H9) (o:=.ins c.Weighing dx (eM "cost_unit" (.int (U:Int)) fl));have e10:(upd H9 x (.ins c.Weighing dx (eM "cost_unit" (.int (U:Int)) fl))) x=_:=bM;generalize upd H9 x (.ins c.Weighing dx (eM "cost_unit" (.int (U:Int)) fl))=H10 at b10 e10 ⊢;have hx9:=s79 _ _ e7;have nDx:D≠x:=pC e8 (s8 _ _ e7) (by intro z;cases z);have nD2x:D2≠x:=pC e9 hx9 (by intro z;cases z);have t10:=aQ.tI b10 hx9;have LD:iD H10 D (ahd F M):=⟨ys,b10.at nDx (s9 _ _ e8),(r8.same s9).flat t10 (jN _)⟩;refine ⟨_,rfl,_,rfl,_,rfl,?_⟩;refine rD O (by simp) e10 lkS ?_;have hB:=I.b;refine sO (g:=λcc=>iC (HC W (eP ws) mix cs cc)) LD (b10.at nD2x e9) (fr9.t t10) Oo uz (λcc hc=>⟨(ln cc hc).low,iF I (ln cc hc) (aK (show B*4<=1000000000000 by omega) kN),hU _ (aV.mpr ⟨cc,hc,rfl⟩)⟩) λp kvs H11 s11 hp e11 D11=>?_;have e11x:=s11 _ _ e10;have fle2:=jR "cost_unit" (V.int (U:Int)) fl;refine ⟨_,rfl,x,c.Weighing,dx,_,rfl,e11x,O.cls,O.no _ (by simp),Oo,?_⟩;have b12:=aQ.self (p:=x) (H:=H11) (o:=.ins c.Weighing dx (eM "costs" (.ref p) (eM "cost_unit" (.int (U:Int)) fl)));have e12:(upd H11 x (.ins c.Weighing dx (eM "costs" (.ref p) (eM "cost_unit" (.int (U:Int)) fl)))) x=_:=bM;generalize upd H11 x (.ins c.Weighing dx (eM "costs" (.ref p) (eM "cost_unit" (.int (U:Int)) fl)))=H12 at b12 e12 ⊢;have npx:p≠x:=λz=>by rw [z,e10] at hp;cases hp
  refine k us U H12 ((((B7.trans s79.but).trans b10).trans s11.but).trans b12) ⟨ul,dx,_,R,ua,wa,p,tas,kvs,e12,SK Dd (SK Dd lr),SK Dd (SK Dd lu),SK Dd (SK Dd lw'),SK Dd lkS,lkS,?_,?_,?_,?_,b12.at npx e11,?_⟩ hus u0 uN
  ·exact (((L7.same s79).but b10 hx9).same s11).but b12 e11x
  ·exact b12.at nux (s11 _ _ (b10.at nux (s79 _ _ e7u)))
  ·exact b12.at nwx (s11 _ _ (b10.at nwx (s79 _ _ e7w)))
  ·refine tb7.mono λb kv g=>?_;have g1:=s79 _ _ g;have nb:b≠x:=pC g1 hx9 (by intro z;cases z);exact b12.at nb (s11 _ _ (b10.at nb g1))
  ·have:(λcc=>HC W (eP ws) mix cs cc*(U:Rat))=λcc=>rv (iC (HC W (eP ws) mix cs cc))*(U:Rat):=by
    funext cc
    rw [eS]
   rw [this];exact D11
end
end Kw
namespace L2
open PySem PySem.Spec PyProof.Rows
@[irreducible] def IR:V->List V->Hp->VK->Prop:=λx vs H Q=>∃(l:Addr) (ns:List Int) (m:Int) (j:Nat),x=.ref l/\vs=[.int m]/\H l=some (.lst (ns.map V.int))/\ns[j]?=some m/\(∀i,i<j->ns[i]? ≠ some m)/\ns.length<=1000/\Q (.int (j:Int)) H
theorem aDs{H:Hp}{l:Addr}{ns:List Int}{m:Int}{j:Nat}{Q:VK}(h:H l=some (.lst (ns.map V.int)))(h1:ns[j]?=some m)(h2:∀i,i<j->ns[i]? ≠ some m)(hz:ns.length<=1000)(q:Q (.int (j:Int)) H):IR (.ref l) [.int m] H Q:=by
 unfold IR;exact ⟨l,ns,m,j,rfl,rfl,h,h1,h2,hz,q⟩
theorem oM:∀{ns:List Int}{us:List Value}{m:Nat},cZ (ns.map V.int) us->(hm:m<us.length)->∃s t,ns[m]?=some s/\us[m]=.int s t
 | s::ns,u::us,0,h,_=>by
  cases h with
  | cons r _=>obtain ⟨t,e⟩:=(show ∃t,u=Value.int s t from r);exact ⟨s,t,rfl,e⟩
 | s::ns,u::us,m+1,h,hm=>by
  cases h with
  | cons _ hr =>
   obtain ⟨s',t,h1,h2⟩:=oM hr (m:=m) (by simpa using hm);exact ⟨s',t,h1,h2⟩
 | [],us,m,h,hm=>by cases h;simp at hm
theorem JF(a b:Int):QQ (.int a) (.int b)=decide (a=b):=by
 show (a == b)=_;by_cases h:a=b
 ·subst h;simp
 ·simp [h]
theorem xK:∀ns:List Int,(ns.map V.int).all qF=true
 | []=>rfl
 | s::ns=>by show (qF (V.int s)&&(ns.map V.int).all qF)=true;rw [xK ns];rfl
theorem QP{ns:List Int}{m:Int}(h:m∈ns):∃j:Nat,ns[j]?=some m/\∀i,i<j->ns[i]? ≠ some m:=by
 induction ns with
 | nil=>cases h
 | cons a ns ih =>
  by_cases e:a=m
  ·exact ⟨0,by rw [e];rfl,λi hi=>Oo⟩
  ·obtain ⟨j,h1,h2⟩:=ih ((bC.mp h).resolve_left λz=>e z.symm);refine ⟨j+1,h1,λi hi=>?_⟩;cases i with
   | zero=>intro z;exact e (by simpa using z)
   | succ i=>exact h2 i Oo
section
variable{X:Cx}
theorem WK:MtR X "list.index" IR:=by
 unfold IR;intro pins s σ H x vs v us Q I rx rv h;obtain ⟨l,ns,m,j,rfl,rfl,hH,h1,h2,hz,q⟩:=h;cases rx;obtain ⟨u,rfl,ru⟩:=lD rv;obtain ⟨t,rfl⟩:=(show ∃t,u=Value.int m t from ru);obtain ⟨z,its,n,r,hl,e⟩:=I.lstM hH;have lj:j<ns.length:=(aF.mp h1).1;have hjl:j<its.toArray.size:=by rw [aS,<-hl,aA];exact lj
 have hit:MR (.int m) its.toArray[j]=true:=by
  obtain ⟨s',t',g1,g2⟩:=oM r (m:=j) (by simpa using hjl);rw [h1] at g1;cases g1;rw [show its.toArray[j]=its[j]'(by simpa using hjl) from rfl,g2];show QQ (.int m) (.int m)=true;rw [JF];simp
 have hno:∀i (hm:i<its.toArray.size),i<j->MR (.int m) its.toArray[i]=false:=λi hm hij=>by
  obtain ⟨s',t',g1,g2⟩:=oM r (m:=i) (by simpa using hm);rw [show its.toArray[i]=its[i]'(by simpa using hm) from rfl,g2];show QQ (.int s') (.int m)=false;rw [JF];exact cH λz=>h2 i hij (by rw [g1,z])
 refine call_meets F.slot_list_index ⟨_,e,rfl⟩ F.entry_list_index (F.args_list_index_2 _ _) (SeqAt.list_indexAt l its.toArray n none #[] (.int m t) (MR (.int m)) j hjl Oo hit hno) ⟨e,λy hy=>tE (x:=.int m) ⟨t,rfl⟩ rfl r (xK ns) y (by simpa using hy),?_⟩;exact ⟨.int _,H,I.tok _,⟨_,rfl⟩,q⟩
end
end L2
namespace Kw
open PySem L2 Mf
theorem zD{l:List Rat}{x:Rat}(h:l≠[]):kK (l++[x])=if x<kK l then x else kK l:=by
 refine BO ?_ λy hy=>?_
 ·split
  ·exact aN _ (bG.mpr rfl)
  ·exact bV _ (sZ h)
 ·rcases bX.mp hy with hy | hy
  ·have:=BN hy;split <;> grind
  ·rw [bG.mp hy];split <;> grind
section
variable{F W M:Nat}{ss:List (List Fr)}{mix ps cs:List Fr}
abbrev nK(ss:List (List Fr))(ps:List Fr)(c:List Nat)(v:Nat):Rat:=dU ps v*fX ss v c
def SJ(F W M:Nat)(ss:List (List Fr))(mix ps cs:List Fr)(c:List Nat):Rat:=HC W ss mix cs c+cN F λj=>wor F W M ss mix ps cs (bP c j)
theorem MZ{c:List Nat}(h:M<=c.sum):wor F W M ss mix ps cs c=kK (lH W (nK ss ps c)):=by
 unfold wor;rw [Nat.sub_eq_zero_of_le h];rfl
theorem CW{c:List Nat}(h:c.sum<M)(hl:c.length=F):wor F W M ss mix ps cs c=kK (lH W (nK ss ps c)++[SJ F W M ss mix ps cs c]):=by
 obtain ⟨n,hn⟩:∃n,M-c.sum=n+1:=⟨M-c.sum-1,Oo⟩;unfold wor;rw [hn,yP];unfold SJ HC;congr 3;congr 1;refine dC λj hj=>?_;unfold wor;rw [gY Oo,show M-(c.sum+1)=n by omega]
def MU(F W M:Nat)(ss:List (List Fr))(mix ps cs:List Fr)(c:List Nat)(b:Nat):Prop :=
 (b=0/\c.sum<M/\wor F W M ss mix ps cs c=SJ F W M ss mix ps cs c)\/∃v,v<W/\b=1+v/\wor F W M ss mix ps cs c=cN W (nK ss ps c)-nK ss ps c v
theorem GP{u x y:Rat}(hu:0<u)(h:u*x=u*y):x=y:=by
 have h1:u*(x-y)=0:=by grind
 rcases Rat.mul_eq_zero.mp h1 with h2 | h2 <;> grind
theorem ZY{u x y:Rat}(hu:0<u)(h:u*x<=u*y):x<=y:=by
 refine bY λq=>?_;have h1:y<x:=by grind
 have h2:=Rat.mul_lt_mul_of_pos_left h1 hu;grind
theorem ZX{u x y:Rat}(hu:0<u):u*x<u*y↔x<y:=by
 constructor
 ·intro h;refine bY λq=>?_;have h1:y<=x:=by grind
  have h2:=Rat.mul_le_mul_of_nonneg_left h1 (Rat.le_of_lt hu);grind
 ·exact λh=>Rat.mul_lt_mul_of_pos_left h hu
theorem QB{d:Nat->Rat}{U:Rat}(hU:0<U){ns:List Int}(hl:ns.length=W)(hv:∀(i:Nat) (n:Int),ns[i]?=some n->(n:Rat)=U*(cN W d-d i)){m:Int}(hm:m∈ns)(hle:∀a∈ns,m<=a):(m:Rat)=U*kK (lH W d):=by
 obtain ⟨i,hi⟩:=cV.mp hm;have e:=hv i m hi;have li:=(aF.mp hi).1;have:kK (lH W d)=cN W d-d i:=by
  refine BO (sU.mpr ⟨i,Oo,rfl⟩) λx hx=>?_;obtain ⟨w,hw,rfl⟩:=sU.mp hx;obtain ⟨n,hn⟩:∃n,ns[w]?=some n:=⟨_,aB Oo⟩;have h1:=hle n (aG hn);have h2:(m:Rat)<=(n:Rat):=by exact_mod_cast h1
  rw [e,hv w n hn] at h2;exact ZY hU h2
 rw [this];exact e
theorem FG{c:List Nat}{v:Nat}(w1:1<=W)(hl:c.length=F)(hv:v<W)(e:cN W (nK ss ps c)-nK ss ps c v=kK (lH W (nK ss ps c)))(h:c.sum<M->¬SJ F W M ss mix ps cs c<kK (lH W (nK ss ps c))) :
  MU F W M ss mix ps cs c (1+v)/\wor F W M ss mix ps cs c=kK (lH W (nK ss ps c)):=by
 have ew:wor F W M ss mix ps cs c=kK (lH W (nK ss ps c)):=by
  by_cases q:c.sum<M
  ·rw [CW q hl,zD (GL w1 _),if_neg (h q)]
  ·exact MZ Oo
 exact ⟨.inr ⟨v,hv,rfl,by rw [ew,e]⟩,ew⟩
theorem aAX{c:List Nat}(w1:1<=W)(hl:c.length=F)(hc:c.sum<M)(h:SJ F W M ss mix ps cs c<kK (lH W (nK ss ps c))):MU F W M ss mix ps cs c 0/\wor F W M ss mix ps cs c=SJ F W M ss mix ps cs c:=by
 have ew:wor F W M ss mix ps cs c=SJ F W M ss mix ps cs c:=by rw [CW hc hl,zD (GL w1 _),if_pos h]
 exact ⟨.inl ⟨rfl,hc,ew⟩,ew⟩
end
def lvl(F:Nat)(best:List Nat->Nat):Nat->List (List Nat)
 | 0=>[List.replicate F 0]
 | k+1=>(cta F (k+1)).filter λd=>(lvl F best k).any λc=>best c == 0&&(List.range F).any λj=>d == bP c j
section
variable{F W M:Nat}{best:List Nat->Nat}
theorem lJ(hF:1<=F):∀k,(lvl F best k).Sublist (cta F k)
 | 0=>by unfold lvl;rw [xR F hF];exact List.Sublist.refl _
 | k+1=>by unfold lvl;exact List.filter_sublist
theorem nE(hF:1<=F){k:Nat}{d:List Nat}:d∈lvl F best (k+1) ↔ ∃c∈lvl F best k,best c=0/\∃j,j<F/\d=bP c j:=by
 have h0:d∈lvl F best (k+1)↔d∈cta F (k+1)/\∃c∈lvl F best k,best c=0/\∃j,j<F/\d=bP c j:=by
  show d∈List.filter _ _↔_;rw [cW];simp
 rw [h0];refine ⟨λh=>h.2,λh=>⟨?_,h⟩⟩;obtain ⟨c,hc,_,j,hj,e⟩:=h;exact (tM hF).mpr ⟨c,(lJ hF k).subset hc,j,hj,e⟩
def rY(W b:Nat):List Fr:=(List.range (1+W)).map λk=>if k=b then (1,1) else (0,1)
def plE(W:Nat)(best:List Nat->Nat)(c:List Nat):fP:=(c,rY W (best c))
def fL(F M:Nat)(best:List Nat->Nat):List (List Nat):=(List.range (M+1)).flatMap (lvl F best)
def rul(F W M:Nat)(best:List Nat->Nat):List fP:=(fL F M best).map (plE W best)
theorem xQ{α:Type}{f g:Nat->List α}(h:∀k,(f k).Sublist (g k)):∀l:List Nat,(l.flatMap f).Sublist (l.flatMap g)
 | []=>List.Sublist.refl _
 | a::l=>by rw [List.flatMap_cons,List.flatMap_cons];exact (h a).append (xQ h l)
theorem jL(hF:1<=F):(fL F M best).Sublist (rise F M):=xQ (lJ hF) _
theorem BE:(rul F W M best).map (·.1)=fL F M best:=by unfold rul;rw [List.map_map];exact List.map_id _
theorem BK{b k:Nat}(h:k<1+W):dU (rY W b) k=if k=b then 1 else 0:=by
 unfold dU rY;rw [bJ,aM,cJ h];show rv (if k=b then (1,1) else (0,1))=_;split
 ·exact rO
 ·exact oQ
theorem uK(c:List Nat):s0 (plE W best c)=if best c=0 then 1 else 0:=by
 unfold s0 plE;rw [BK Oo];by_cases h:best c=0
 ·rw [if_pos h.symm,if_pos h]
 ·rw [if_neg (λz=>h z.symm),if_neg h]
theorem vZ{c:List Nat}:c∈fL F M best ↔ ∃k,k<=M/\c∈lvl F best k:=by
 unfold fL;rw [List.mem_flatMap];constructor
 ·rintro ⟨k,hk,h⟩;exact ⟨k,by have:=bR.mp hk;omega,h⟩
 ·rintro ⟨k,hk,h⟩;exact ⟨k,bR.mpr Oo,h⟩
theorem DO(hF:1<=F)(on:∀c,best c=0->c.sum<M){c:List Nat}(hc:c∈fL F M best)(h:best c=0){j:Nat}(hj:j<F):bP c j∈fL F M best:=by
 obtain ⟨k,hk,h1⟩:=vZ.mp hc;have h2:=(gQ ((lJ hF k).subset h1)).2;have h3:=on c h;exact vZ.mpr ⟨k+1,Oo,(nE hF).mpr ⟨c,h1,h,j,hj,rfl⟩⟩
theorem DR(hF:1<=F){d:List Nat}(hd:d∈fL F M best)(h:d≠List.replicate F 0):∃c∈fL F M best,best c=0/\∃j,j<F/\bP c j=d:=by
 obtain ⟨k,hk,h1⟩:=vZ.mp hd;cases k with
 | zero=>exact absurd (bG.mp h1) h
 | succ k =>
  obtain ⟨c,hc,hb,j,hj,e⟩:=(nE hF).mp h1;exact ⟨c,vZ.mpr ⟨k,Oo,hc⟩,hb,j,hj,e.symm⟩
theorem wZ:∃r,fL F M best=List.replicate F 0::r:=by
 unfold fL;rw [List.range_succ_eq_map,List.flatMap_cons];exact ⟨_,rfl⟩
theorem sX(hF:1<=F){c:List Nat}(h:c∈fL F M best):c.length=F/\c.sum<=M:=(gT hF).mp ((jL hF).subset h)
theorem ON(hF:1<=F)(f4:F<=4)(m5:M<=5)(on:∀c,best c=0->c.sum<M):yK F (rul F W M best) where
 root:=by
  obtain ⟨r,hr⟩:=wZ (F:=F) (M:=M) (best:=best);exact ⟨_,_,by unfold rul;rw [hr,bH],rfl⟩
 len:=λe he=>by
  obtain ⟨c,hc,rfl⟩:=aV.mp he;exact (sX hF hc).1
 nd:=by rw [BE];exact (BF F f4 M m5).sublist (jL hF)
 srt:=by
  unfold rul;rw [List.pairwise_map];exact (pX F M).sublist (jL hF)
 fwd:=λe he h0 f hf=>by
  obtain ⟨c,hc,rfl⟩:=aV.mp he;rw [BE];refine DO hF on hc ?_ hf;refine bY λq=>h0 ?_;rw [uK,if_neg q]
 bwd:=λd hd hn=>by
  rw [BE] at hd;obtain ⟨c,hc,hb,j,hj,e⟩:=DR hF hd hn;exact ⟨plE W best c,aV.mpr ⟨c,hc,rfl⟩,by rw [uK,if_pos hb];exact (by decide:(1:Rat)≠0),j,hj,e⟩
 nn:=λe he=>by
  obtain ⟨c,hc,rfl⟩:=aV.mp he;rw [uK];split <;> grind
theorem TC:∀(W b:Nat),b<=W->oO ((rY W b).map rv)=1:=by
 intro W b hb;have h1:(rY W b).map rv=(List.range (1+W)).map λk=>if k=b then (1:Rat) else 0:=by
  unfold rY;rw [List.map_map];refine eB λk _=>?_;show rv (if k=b then (1,1) else (0,1))=_;split
  ·exact rO
  ·exact oQ
 rw [h1];show cN (1+W) (λk=>if k=b then (1:Rat) else 0)=1;have:=DB (n:=1+W) (v:=b) (f:=λk=>if k=b then (1:Rat) else 0) Oo λi _ hn=>if_neg hn;rw [this,if_pos rfl]
theorem OO{ss:List (List Fr)}{mix ps cs:List Fr}(hF:1<=F)(hb:∀c∈rise F M,MU F W M ss mix ps cs c (best c)):∀e∈rul F W M best,SH F W (fX ss) (dU mix) (dU ps) (dU cs) (wor F W M ss mix ps cs) e:=by
 intro e he;obtain ⟨c,hc,rfl⟩:=aV.mp he;have hcr:=(jL hF).subset hc;rcases hb c hcr with ⟨h0,h1,h2⟩ | ⟨v,hv,h0,h2⟩
 ·refine .inl ⟨by rw [uK,if_pos h0],λv hv=>?_,?_⟩
  ·show dU (rY W (best c)) (1+v)=0;rw [BK Oo,if_neg Oo]
  ·show wor F W M ss mix ps cs c=_;rw [h2];rfl
 ·refine .inr ⟨v,hv,by rw [uK,if_neg Oo],?_,λu hu hn=>?_,?_⟩
  ·show dU (rY W (best c)) (1+v)=1;rw [BK Oo,if_pos h0.symm]
  ·show dU (rY W (best c)) (1+u)=0;rw [BK Oo,if_neg Oo]
  ·show wor F W M ss mix ps cs c=_;rw [h2];rfl
end
abbrev OD:Stmt:=(top 32)
theorem aDx:cA ["weighing","counts"] ["weighing","counts"] (aX OD):=⟨rfl,rfl,rfl,Kk,rfl,Kk,Kk⟩
abbrev GM:Stmt:=(top 33)
theorem HJ:cA ["weighing","factors","cost_factor","best_at","worth_of","counts","dues","sums","onward"] ["weighing","factors","cost_factor"] (aX GM):=⟨rfl,rfl,rfl,Kk,rfl,Kk,Kk⟩
theorem xM{N B U:Nat}{q:Rat}{n:Int}(h:Qn N B q)(hN:0<N)(e:(n:Rat)=q*(U:Rat)):n.natAbs<=B*U:=by
 obtain ⟨z,h1,h2⟩:=h;have h3:n*(N:Int)=z*(U:Int):=by
  have:((n*(N:Int):Int):Rat)=((z*(U:Int):Int):Rat):=by
   rw [Rat.intCast_mul,Rat.intCast_mul,e,<-h1];show q*(U:Rat)*(N:Rat)=q*(N:Rat)*(U:Rat);grind
  exact_mod_cast this
 have h4:=congrArg Int.natAbs h3;rw [fA,fA,Int.natAbs_natCast,Int.natAbs_natCast] at h4;have h5:n.natAbs*N<=(B*U)*N:=by
  rw [h4,show B*U*N=B*N*U by ac_rfl];exact bO _ h2
 exact Nat.le_of_mul_le_mul_right h5 hN
theorem dgI{H:Hp}{p b:Addr}{kvs:List (List eZ × V)}{cc:List Nat}(e:H p=some (.dT kvs))(hb:H b=some (.tup (cc.map zU))):oK H p (.ref b) (fM kvs (kT (ci cc))):=.inr ⟨kvs,kT (ci cc),b,.inl e,rfl,by rw [BR,eE];exact hb,rfl⟩
@[irreducible] def wU(C:Addr):Sp:=λvs H Q _=>∃(x:Addr) (cv:V) (cc:List Nat) (F W M:Nat) (ss:List (List Fr)) (mix cs:List Fr) (us:List Nat) (cu:Nat),vs=[.ref x,cv]/\xY H x C F W M ss mix cs us cu/\cC H (kC cc) cv/\cc∈rise F M/\W<=64 /\
 ∀D (ns:List Int) H',aY H H'->H D=none->H' D=some (.lst (ns.map V.int))->ns.length=W->(∀(i:Nat) (n:Int) (u:Nat),ns[i]?=some n->us[i]?=some u->(n:Rat)=fX ss i cc*(u:Rat))->Q (.ref D) H'
theorem NV{C:Addr}{H:Hp}{Q:VK}{E:XK}{x:Addr}{cv:V}{cc:List Nat}{F W M:Nat}{ss:List (List Fr)}{mix cs:List Fr}{us:List Nat}{cu:Nat}(h1:xY H x C F W M ss mix cs us cu)(h2:cC H (kC cc) cv)(h3:cc∈rise F M)(h4:W<=64)
  (k:∀D (ns:List Int) H',aY H H'->H D=none->H' D=some (.lst (ns.map V.int))->ns.length=W->(∀(i:Nat) (n:Int) (u:Nat),ns[i]?=some n->us[i]?=some u->(n:Rat)=fX ss i cc*(u:Rat))->Q (.ref D) H'):wU C [.ref x,cv] H Q E:=by
 unfold wU;exact ⟨x,cv,cc,F,W,M,ss,mix,cs,us,cu,rfl,h1,h2,h3,h4,k⟩
section
theorem aCM(F:jT K "weights_at" "weights_at" OD f fd)(T:lB K mg c):dY P w K mg base dP 1 f fd ["weighing","counts"] (wU c.Weighing):=by
 refine F.oky aDx λvs H Q E h=>?_;unfold wU at h;obtain ⟨x,cv,cc,F,W,M,ss,mix,cs,us,cu,rfl,wg,rc,hcm,w64,k⟩:=h;refine ⟨rfl,λcdv A outer s hr=>?_⟩;obtain ⟨ul,dx,fl,ra,ua,wa,ca,tas,kvs,a0,a1,a2,a3,a4,a5,a6,a7,a8,a9,a10,a11⟩:=wg;obtain ⟨ac,rfl,hac⟩:=gG rc;have O:=T.w_Weighing;have tl:=a9.1;refine ⟨_,(bD (cI (fR (dI.of (psc:=aX OD) (N:=["weighing","counts"]) (N':=["table","counts"]) (js:=[1]) Kk rfl rfl rfl) (fD (gO K (aD 0))) (λ_ _ _ _=>dR) (λ_ _ _ _=>(gE hr.u1 (aD 0) (aD 1)))))),?_⟩;refine ⟨_,rfl,?_⟩;refine rD O (by simp) a0 a3 ?_;refine ⟨wa,rfl,⟨_,fN.of a8⟩,?_⟩;refine gX (λi y H'=>∃n,y=.int n/\∀u,us[i]?=some u->(n:Rat)=fX ss i cc*(u:Rat)) (λ_ _ _ _ _ h=>h) (by rw [aA];omega) a8 (λi y H' Q' hy s' k'=>?_) (λD ys H1 hD e1 s1 hy hr1=>?_)
 ·rw [aM] at hy;obtain ⟨ta,hta,rfl⟩:=dX.mp hy;have li:=(aF.mp hta).1;obtain ⟨u,hu⟩:∃u,us[i]?=some u:=⟨_,aB Oo⟩;obtain ⟨kv,g1,g2⟩:=a9.2 i ta u hta hu;obtain ⟨n,h1,h2⟩:=g2.yes cc hcm;refine ⟨_,rfl,_,rfl,?_⟩;refine LX (s' _ _ g1) (c:=ci cc) (by rw [eE];exact s' _ _ hac) h1 ?_;exact k' _ H' (aY.refl _) ⟨n,rfl,λu' hu'=>by rw [hu] at hu';cases hu';exact h2⟩
 ·obtain ⟨ns,rfl,hn⟩:=oV (P:=λi n=>∀u,us[i]?=some u->(n:Rat)=fX ss i cc*(u:Rat)) hr1;rw [aA,aA] at hy;exact k D ns H1 s1 hD e1 Oo λi n u h1 h2=>hn i n h1 u h2
end
structure DP(kvs:List (List eZ × V))(S:List (List Nat))(R:List Nat->V->Prop):Prop where
 yes:∀c∈S,∃v,fM kvs (kT (ci c))=some v/\R c v
 len:kvs.length<=2*S.length
theorem DP.put{kvs:List (List eZ × V)}{S:List (List Nat)}{R:List Nat->V->Prop}(h:DP kvs S R){c:List Nat}{v:V}(r:R c v):DP (iR kvs (kT (ci c)) v) (c::S) R:=by
 refine ⟨λd hd=>?_,by have:=h.len;have:=eX kvs (kT (ci c)) v;rw [bU];omega⟩;rw [hZ];by_cases e:d=c
 ·subst e;rw [if_pos rfl];exact ⟨v,rfl,r⟩
 ·rw [if_neg λq=>e (kM (mV q))];exact h.yes d ((bC.mp hd).resolve_left e)
theorem DP.put2{kvs:List (List eZ × V)}{S:List (List Nat)}{R:List Nat->V->Prop}(h:DP kvs S R){c:List Nat}{u v:V}(r:R c v):DP (iR (iR kvs (kT (ci c)) u) (kT (ci c)) v) (c::S) R:=by
 refine ⟨λd hd=>?_,by have:=h.len;have:=eX kvs (kT (ci c)) u;have:=eX (iR kvs (kT (ci c)) u) (kT (ci c)) v;rw [bU];omega⟩;rw [hZ];by_cases e:d=c
 ·subst e;rw [if_pos rfl];exact ⟨v,rfl,r⟩
 ·rw [if_neg λq=>e (kM (mV q)),hZ,if_neg λq=>e (kM (mV q))];exact h.yes d ((bC.mp hd).resolve_left e)
structure aBb(W:Nat)(ps:List Fr)(us:List Nat)(cu:Nat)(fns:List Int)(cf:Int)(U:Nat):Prop where
 u0:0<U
 fl:fns.length=W
 ul:us.length=W
 fac:∀(i:Nat) (f:Int) (u:Nat),fns[i]?=some f->us[i]?=some u->(f:Rat)*(u:Rat)=(U:Rat)*dU ps i/\f.natAbs<2^4000
 cfu:(cf:Rat)*(cu:Rat)=(U:Rat)
 cz:cf.natAbs<2^4000
 uz:∀u∈us,u<2^3000
 cuz:cu<2^3000
def YB(kvs:List (List eZ × V))(rs:List (List Nat))(best:List Nat->Nat):Prop:=(∀c∈rs,fM kvs (kT (ci c))=some (.int (best c:Nat)))/\kvs.length<=1000
@[irreducible] def pU(C:Addr):Sp:=λvs H Q _=>∃(x fa:Addr) (cf:Int) (fns:List Int) (F W M Ns Nm Np Nc B U:Nat) (ss:List (List Fr)) (mix ps cs:List Fr) (us:List Nat) (cu:Nat),vs=[.ref x,.ref fa,.int cf]/\xY H x C F W M ss mix cs us cu/\H fa=some (.lst (fns.map V.int))/\iO F W M ss mix ps cs Ns Nm Np Nc B/\aBb W ps us cu fns cf U/\(rise F M).length<=400 /\
 ∀a bp z kvs best H',aY H H'->H' a=some (.tup [.ref bp,z])->H' bp=some (.dT kvs)->YB kvs (rise F M) best->(∀c∈rise F M,MU F W M ss mix ps cs c (best c))->Q (.ref a) H'
theorem GI{C:Addr}{H:Hp}{Q:VK}{E:XK}{x fa:Addr}{cf:Int}{fns:List Int}{F W M Ns Nm Np Nc B U:Nat}{ss:List (List Fr)}{mix ps cs:List Fr}{us:List Nat}{cu:Nat}(h1:xY H x C F W M ss mix cs us cu)(h2:H fa=some (.lst (fns.map V.int)))(h3:iO F W M ss mix ps cs Ns Nm Np Nc B)(h4:aBb W ps us cu fns cf U)(h5:(rise F M).length<=400)
  (k:∀a bp z kvs best H',aY H H'->H' a=some (.tup [.ref bp,z])->H' bp=some (.dT kvs)->YB kvs (rise F M) best->(∀c∈rise F M,MU F W M ss mix ps cs c (best c))->Q (.ref a) H'):pU C [.ref x,.ref fa,.int cf] H Q E:=by
 unfold pU;exact ⟨x,fa,cf,fns,F,W,M,Ns,Nm,Np,Nc,B,U,ss,mix,ps,cs,us,cu,rfl,h1,h2,h3,h4,h5,k⟩
theorem DA:∀ns:List Int,((ns.sum:Int):Rat)=oO (ns.map λ(n:Int)=>(n:Rat))
 | []=>rfl
 | a::ns=>by rw [List.sum_cons,Rat.intCast_add,DA ns];rfl
theorem CZ{n:Nat}{ns:List Int}{d:Nat->Rat}(hl:ns.length=n)(h:∀(i:Nat) (m:Int),ns[i]?=some m->(m:Rat)=d i):((ns.sum:Int):Rat)=cN n d:=by
 rw [DA];unfold cN;congr 1;refine List.ext_getElem? λi=>?_;rw [aM,aM];by_cases q:i<n
 ·obtain ⟨m,hm⟩:∃m,ns[i]?=some m:=⟨_,aB Oo⟩;rw [hm,cJ q];show some (m:Rat)=some (d i);rw [h i m hm]
 ·rw [eY Oo,eY (by rw [aZ];omega)];rfl
theorem OX{n:Nat}(h:n<2^3000){b:Nat}(hb:b<=2^100):b*n<2^4000:=by
 have h1:b*n<=2^100*n:=bO _ hb;have h2:2^100*n<2^100*2^3000:=Nat.mul_lt_mul_of_pos_left h (Nat.two_pow_pos _);rw [<-Nat.pow_add] at h2;exact bA h1 (aO h2 (aP Dd Dd))
section
theorem aDb(F:jT K "best_places" "best_places" GM f fd)(T:lB K mg c)(FQ49:gM dP P w K mg base 1 "weights_at" ["weighing","counts"] (wU c.Weighing))(FQ38:gM dP P w K mg base 2 "ones_more" ["counts"] iQ):dY P w K mg base dP 3 f fd ["weighing","factors","cost_factor"] (pU c.Weighing):=by
 refine F.oky HJ λvs H Q E h=>?_;unfold pU at h;obtain ⟨x,fa,cf,fns,F,W,M,Ns,Nm,Np,Nc,B,U,ss,mix,ps,cs,us,cu,rfl,wg,hfa,I,G,r4,k⟩:=h;refine ⟨rfl,λcdv A outer s hr=>?_⟩;have f1:=I.f1;have f4:=I.f4;have w1:=I.w1;have w4:=I.w4;have hB:=I.b;have O:=T.w_Weighing;have UR:(0:Rat)<(U:Rat):=by exact_mod_cast G.u0
 have nsp:0<Ns^M:=Nat.pos_of_ne_zero λz=>by have:=I.pos;rw [z,Nat.mul_zero] at this;exact bI _ this
 refine ⟨_,(aH (bK (i:=3) HJ.nd rfl (Or.inl rfl) mC)
  (aH (bK (i:=4) HJ.nd rfl (Or.inr rfl) mC)
  (aH (fF PassesOwn.never rfl (NB rfl T.b_reversed (aJ (gO K (aD 0)) aE)) (dF (i:=5) HJ.nd rfl (Or.inl rfl)) (aH (bK (i:=6) HJ.nd rfl (Or.inr rfl) (KD (gS.of (psc:=aX GM) (N:=["weighing","factors","cost_factor","best_at","worth_of","counts","dues","sums","onward"]) (xs:=["factor","one"]) (N':=["factor","one"]) (js:=[]) Kk rfl rfl rfl) (AK false false rfl T.b_zip (aJ (aD 1) (aJ (bS FQ49 (hr.mono Dd) (aJ (aD 0) (aJ (aD 5) aE))) aE))) (λ_ _ _ _=>dR) (λ_ _ _ _=>(bQ dO (aD 0) (aD 1)))))
  (aH (gZ (i:=7) (dI.of (psc:=aX GM) (N:=["weighing","factors","cost_factor","best_at","worth_of","counts","dues","sums","onward"]) (N':=["due","dues"]) (js:=[6]) Kk rfl rfl rfl) HJ.nd rfl rfl (fD (aD 6)) (λ_ _ _ _=>dR) (λ_ _ _ _=>(bQ rT (eG (XB K rfl) (by rfl) T.b_sum Kk (aJ (aD 1) aE)) (aD 0))))
  (aH (iE hr.u1 (aD 3) (aD 5) (bQ dQ aL (pA PySem.F.plainAttrs_list PySem.F.slot_list_index PySem.F.type_list_index WK (aD 7) (aJ (eG (JP K rfl) (by rfl) T.b_min Kk (aJ (aD 7) aE)) aE))))
  (aH (iE hr.u1 (aD 4) (aD 5) (eG (JP K rfl) (by rfl) T.b_min Kk (aJ (aD 7) aE)))
  (bD (kE (eQ (PX hr.u1) (aD 5) (gO K (aD 0)) (by with_unfolding_all rfl)) (aH (bK (i:=8) HJ.nd rfl (Or.inl rfl) (bQ dQ (bQ dO (aD 2) (gE hr.u1 (gO K (aD 0)) (aD 5))) (eG (RG rfl) (by rfl) T.b_sum Kk (aJ (fR (dI.of (psc:=aX GM) (N:=["weighing","factors","cost_factor","best_at","worth_of","counts","dues","sums","onward"]) (N':=["more","worth_of"]) (js:=[4]) Kk rfl rfl rfl) (fD (bS FQ38 (hr.mono Dd) (aJ (aD 5) aE))) (λ_ _ _ _=>dR) (λ_ _ _ _=>(gE hr.u1 (aD 1) (aD 0)))) aE))))
  (bD (kE (eQ xC (aD 8) (gE hr.u1 (aD 4) (aD 5)) (nomark _)) (aH (iE hr.u1 (aD 3) (aD 5) (sE (v:=.int 0) rfl T.g_LOOKS_ON ⟨_,rfl⟩))
  (bD (iE hr.u1 (aD 4) (aD 5) (aD 8)))) gC))) gC)))))))
  (bD (cI (dS (aJ (aD 3) (aJ (gE hr.u1 (aD 4) (bT bL (gO K (aD 0)) aL (λ_ _=>rfl))) aE)))))))),?_⟩
 intro bp hbp;have s1:=aY.upd (o:=.dT []) hbp;have e1:(upd H bp (.dT [])) bp=some (.dT []):=bM;generalize upd H bp (.dT [])=H1 at s1 e1 ⊢;intro wp hwp;have s2:=aY.upd (o:=.dT []) hwp;have e2:(upd H1 wp (.dT [])) wp=some (.dT []):=bM;generalize upd H1 wp (.dT [])=H2 at s2 e2 ⊢;have nwb:wp≠bp:=λz=>by rw [z,e1] at hwp;cases hwp
 have hwp0:H wp=none:=s1.free hwp;have s02:=s1.trans s2;obtain ⟨ul,dx,fl,ra,ua,wa,ca,tas,ckv,a0,a1,a2,a3,a4,a5,⟨vs,a6,a6r⟩,a7,a8,a9,a10,a11⟩:=id wg;have lvs:vs.length=(rise F M).length:=by rw [a6r.len,aA]
 refine ⟨_,rfl,?_⟩;refine rD O (by simp) (s02 _ _ a0) a1 ?_;refine ⟨ra,vs,rfl,fN.of (s02 _ _ a6),?_⟩;refine JE (xs:=vs) (λi σ H'=>∃(o5 o6 o7 o8:Option V) (kb kw:List (List eZ × V)),σ=[some (.ref x),some (.ref fa),some (.int cf),some (.ref bp),some (.ref wp),o5,o6,o7,o8]/\aY H H'/\H' bp=some (.dT kb)/\H' wp=some (.dT kw) /\
   DP kb ((rise F M).drop (vs.length-i)) (λc v=>∃b:Nat,v=.int (b:Int)/\MU F W M ss mix ps cs c b)/\DP kw ((rise F M).drop (vs.length-i)) (λc v=>∃n:Int,v=.int n/\(n:Rat)=(U:Rat)*wor F W M ss mix ps cs c))
  ⟨_,_,_,_,[],[],rfl,s02,s2 _ _ e1,e2,⟨(λc hc=>by rw [Nat.sub_zero,lvs,List.drop_length] at hc;cases hc),cE _⟩,⟨(λc hc=>by rw [Nat.sub_zero,lvs,List.drop_length] at hc;cases hc),cE _⟩⟩ (λi σ H' _ q=>?_) ?_ ?_
 ·obtain ⟨_,_,_,_,_,_,_,S',_⟩:=q;exact fN.of (S' _ _ a6)
 ·rintro i y σ H3 hi hy ⟨o5,o6,o7,o8,kb,kw,rfl,S3,e3b,e3w,Db,Dw⟩;obtain ⟨cc,hc,rc0⟩:=eW a6r hy;have hcr:=aG hc;have hcm:=(gT f1).mp hcr;have lkb:=Db.len;have lkw:=Dw.len;rw [List.length_drop] at lkb lkw;refine ⟨_,rfl,_,rfl,_,rfl,?_⟩;refine NV (wg.same S3) (rc0.same S3) hcr Oo λD1 ns H4 s4 hD1 e4 ln hns=>?_;refine ⟨fa,D1,_,_,rfl,s4 _ _ (S3 _ _ hfa),e4,?_⟩;refine zT (λj z _=>∃n,z=.int n/\(n:Rat)=(U:Rat)*nK ss ps cc j) (λ_ _ _ _ _ h=>h) (by rw [aA,G.fl];omega) (s4 _ _ (S3 _ _ hfa)) e4 (by rw [aA,aA,G.fl,ln]) (λj u v H' Q' hu hv s' k'=>?_) (λD2 zs H5 hD2 e5 s5 hz5 hr5=>?_)
  ·rw [aM] at hu hv;obtain ⟨fj,hfj,rfl⟩:=dX.mp hu;obtain ⟨nj,hnj,rfl⟩:=dX.mp hv;have lj:=(aF.mp hfj).1;have hjW:j<W:=by rw [<-G.fl];exact lj
   obtain ⟨uj,huj⟩:∃u,us[j]?=some u:=⟨_,aB (by rw [G.ul];exact hjW)⟩;obtain ⟨g1,g2⟩:=G.fac j fj uj hfj huj;have g3:=hns j nj uj hnj huj;have g4:=xM (I.qn hjW hcm.2) nsp g3;refine ⟨_,rfl,_,rfl,_,_,rfl,rfl,nJ g2 (bA g4 (OX (G.uz uj (aG huj)) Dd)),?_⟩;refine k' _ H' (aY.refl _) ⟨_,rfl,?_⟩;rw [Rat.intCast_mul,g3];show (fj:Rat)*(fX ss j cc*(uj:Rat))=(U:Rat)*(dU ps j*fX ss j cc);grind
  obtain ⟨ds,rfl,hds⟩:=oV (P:=λj n=>(n:Rat)=(U:Rat)*nK ss ps cc j) hr5;have ld:ds.length=W:=by rw [aA,aA,G.fl] at hz5;exact hz5
  have sd:=CZ ld hds;rw [jV] at sd;refine ⟨_,rfl,D2,rfl,⟨_,fN.of e5⟩,?_⟩;refine gX (λj z _=>∃n,z=.int n/\(n:Rat)=(U:Rat)*(cN W (nK ss ps cc)-nK ss ps cc j)) (λ_ _ _ _ _ h=>h) (by rw [aA];omega) e5 (λj v H' Q' hv s' k'=>?_) (λD3 zs H6 hD3 e6 s6 hz6 hr6=>?_)
  ·rw [aM] at hv;obtain ⟨dj,hdj,rfl⟩:=dX.mp hv;refine ⟨_,rfl,?_⟩;refine rsI (fN.of (s' _ _ e5)) ?_;refine ⟨_,rfl,_,_,rfl,rfl,?_⟩;refine k' _ H' (aY.refl _) ⟨_,rfl,?_⟩;rw [Rat.intCast_sub,sd,hds j dj hdj];grind
  obtain ⟨zs,rfl,hzs⟩:=oV (P:=λj n=>(n:Rat)=(U:Rat)*(cN W (nK ss ps cc)-nK ss ps cc j)) hr6;have lz:zs.length=W:=by rw [aA,aA] at hz6;omega
  have S6:aY H H6:=((S3.trans s4).trans s5).trans s6;have e6b:=s6 _ _ (s5 _ _ (s4 _ _ e3b));have e6w:=s6 _ _ (s5 _ _ (s4 _ _ e3w));obtain ⟨ac,rfl,hac⟩:=gG rc0;refine ⟨_,rfl,MP e6,_,rfl,?_⟩;refine rmnl (fN.of e6) Oo λm hm hle=>?_;obtain ⟨j,hj1,hj2⟩:=QP hm;refine aDs e6 hj1 hj2 Oo ?_;refine ⟨_,_,rfl,rfl,_,rfl,_,rfl,?_⟩;have em:=QB UR lz hzs hm hle;have ej:cN W (nK ss ps cc)-nK ss ps cc j=kK (lH W (nK ss ps cc)):=GP UR (by rw [<-hzs j m hj1,em]);have ljW:j<W:=by rw [<-lz];exact (aF.mp hj1).1
  refine QU e6b (c:=ci cc) (by rw [eE];exact S6 _ _ hac) Oo λH7 e7b b7=>?_;have nbD:D3≠bp:=λz=>by rw [z] at hD3;rw [s5 _ _ (s4 _ _ e3b)] at hD3;cases hD3
  have nwD:D3≠wp:=λz=>by rw [z] at hD3;rw [s5 _ _ (s4 _ _ e3w)] at hD3;cases hD3
  have e7:=b7.at nbD e6;have e7w:=b7.at nwb e6w;have S7:aY H H7:=aY.thru hbp S6 b7;refine ⟨_,rfl,?_⟩;refine rmnl (fN.of e7) Oo λm' hm' hle'=>?_;have emm:m'=m:=Int.le_antisymm (hle' m hm) (hle m' hm');subst emm;refine ⟨_,rfl,_,rfl,?_⟩;refine QU e7w (c:=ci cc) (by rw [eE];exact S7 _ _ hac) Oo λH8 e8w b8=>?_;have e8b:=b8.at (Ne.symm nwb) e7b;have S8:aY H H8:=aY.thru hwp0 S7 b8;have hac8:=S8 _ _ hac;have hdrop:(rise F M).drop (vs.length-(i+1))=cc::(rise F M).drop (vs.length-i):=by
   have hk:(rise F M)[vs.length-1-i]?=some cc:=hc;obtain ⟨l1,l2⟩:=aF.mp hk;have:vs.length-(i+1)=vs.length-1-i:=Oo;rw [this,List.drop_eq_getElem_cons l1,l2,show vs.length-1-i+1=vs.length-i by omega]
  refine ⟨_,rfl,_,rfl,?_⟩;refine rD O (by simp) (S8 _ _ a0) a5 ?_;refine rind (dgI (cc:=cc) (S8 _ _ a10) hac8) ?_;refine ⟨_,rfl,?_⟩;by_cases hlt:cc.sum<M
  ·have hah:cc∈ahd F M:=cW.mpr ⟨hcr,cO hlt⟩;obtain ⟨m2,hm2,em2⟩:=a11.yes cc hah;rw [hm2];refine EL rfl ?_;refine ⟨_,rfl,_,rfl,?_⟩;refine rD O (by simp) (S8 _ _ a0) a5 ?_;refine ⟨_,rfl,?_⟩;refine LX (S8 _ _ a10) (c:=ci cc) (by rw [eE];exact hac8) hm2 ?_;have m2z:=xM (show Qn _ (B*4) (HC W ss mix cs cc) by have:=(JS I hlt).q;rwa [eS] at this) I.pos em2;refine ⟨_,_,rfl,rfl,nJ G.cz (bA m2z (OX G.cuz (aK (show B*4<=4000000 by omega) (aK (show 4000000<=2^22 by decide) (aP Dd Dd))))),?_⟩;refine ⟨_,rfl,?_⟩;refine pL (nM hac8) Oo λD4 ms H9 hD4 e9 r9 s9=>?_;refine ⟨D4,rfl,⟨_,fN.of e9⟩,?_⟩;have lms:ms.length=cc.length:=by rw [r9.len,aA,aA,aZ]
   refine gX (λq z _=>∃n,z=.int n/\(n:Rat)=(U:Rat)*wor F W M ss mix ps cs (bP cc q)) (λ_ _ _ _ _ h=>h) Oo e9 (λq v H' Q' hv s' k'=>?_) (λD5 ws H10 hD5 e10 s10 hz10 hr10=>?_)
   ·obtain ⟨c2,hc2,rc2⟩:=eW (g:=λc=>kC c) r9 hv;have hq:q<cc.length:=by have:=(aF.mp hv).1;omega
    rw [aM,cJ hq] at hc2;cases hc2;obtain ⟨a2,rfl,ha2⟩:=gG (rc2.same s');have bs:=gY (c:=cc) (j:=q) hq;have hin:bP cc q∈rise F M:=(gT f1).mpr ⟨by rw [qI];exact hcm.1,Oo⟩;have hbe:=vI hc hin Oo;rw [show vs.length-1-i+1=vs.length-i by omega] at hbe;obtain ⟨v2,hv2,n2,rfl,en2⟩:=Dw.yes _ hbe;refine ⟨_,rfl,_,rfl,?_⟩;refine LX (s' _ _ (s9 _ _ e8w)) (c:=ci (bP cc q)) (by rw [eE];exact ha2) (v:=.int n2) ?_ ?_
    ·rw [hZ,if_neg λz=>?_]
     ·exact hv2
     ·have:=kM (mV z);rw [this] at bs;omega
    ·exact k' _ H' (aY.refl _) ⟨n2,rfl,en2⟩
   obtain ⟨ws,rfl,hws⟩:=oV (P:=λq n=>(n:Rat)=(U:Rat)*wor F W M ss mix ps cs (bP cc q)) hr10;have lws:ws.length=F:=by rw [aA] at hz10;omega
   refine rsI (fN.of e10) ?_;have sw:=CZ lws hws;rw [jV] at sw;refine ⟨_,_,rfl,rfl,?_⟩;have eon:((cf*m2+ws.sum:Int):Rat)=(U:Rat)*SJ F W M ss mix ps cs cc:=by
    rw [Rat.intCast_add,Rat.intCast_mul,sw,em2];have:=G.cfu;unfold SJ;grind
   have S10:=(S8.trans s9).trans s10;have e10w:=s10 _ _ (s9 _ _ e8w);have e10b:=s10 _ _ (s9 _ _ e8b);have hac10:=S10 _ _ hac;refine ⟨_,rfl,_,rfl,_,rfl,?_⟩;refine LX e10w (c:=ci cc) (by rw [eE];exact hac10) (v:=.int m') (by rw [hZ,if_pos rfl]) ?_;refine ⟨_,_,rfl,rfl,_,rfl,?_⟩;have key:(cf*m2+ws.sum<m')↔SJ F W M ss mix ps cs cc<kK (lH W (nK ss ps cc)):=by
    rw [<-ZX UR,<-eon,<-em];exact ⟨λh=>by exact_mod_cast h,λh=>by exact_mod_cast h⟩
   refine uQ (λhl=>?_) (λhl=>?_)
   ·obtain ⟨B1,B2⟩:=aAX w1 hcm.1 hlt (key.mp hl);refine ⟨_,rfl,_,rfl,?_⟩;have l1:=eX kb (kT (ci cc)) (.int (1+(j:Int)));have l2:=eX kw (kT (ci cc)) (.int m');refine QU e10b (c:=ci cc) (by rw [eE];exact hac10) (aK l1 Oo) λH11 e11b b11=>?_;have S11:aY H H11:=aY.thru hbp S10 b11;refine ⟨_,rfl,_,rfl,_,rfl,?_⟩;refine QU (b11.at nwb e10w) (c:=ci cc) (by rw [eE];exact S11 _ _ hac) (aK l2 Oo) λH12 e12w b12=>?_;refine ⟨_,_,_,_,_,_,rfl,aY.thru hwp0 S11 b12,b12.at (Ne.symm nwb) e11b,e12w,?_,?_⟩
    ·rw [hdrop];exact Db.put2 ⟨0,rfl,B1⟩
    ·rw [hdrop];exact Dw.put2 ⟨_,rfl,by rw [B2];exact eon⟩
   ·obtain ⟨B1,B2⟩:=FG (mix:=mix) (cs:=cs) (M:=M) w1 hcm.1 ljW ej λ_ h=>hl (key.mpr h);refine ⟨_,_,_,_,_,_,rfl,S10,e10b,e10w,?_,?_⟩
    ·rw [hdrop];exact Db.put ⟨1+j,by push_cast;rfl,B1⟩
    ·rw [hdrop];exact Dw.put ⟨_,rfl,by rw [B2];exact em⟩
  ·have hno:cc ∉ ahd F M:=λz=>hlt (of_decide_eq_true (cW.mp z).2);rw [a11.no cc hno];refine qD rfl ?_;obtain ⟨B1,B2⟩:=FG (mix:=mix) (cs:=cs) (M:=M) w1 hcm.1 ljW ej λh=>absurd h hlt;refine ⟨_,_,_,_,_,_,rfl,S8,e8b,e8w,?_,?_⟩
   ·rw [hdrop];exact Db.put ⟨1+j,by push_cast;rfl,B1⟩
   ·rw [hdrop];exact Dw.put ⟨_,rfl,by rw [B2];exact em⟩
 ·rintro σ H3 ⟨o5,o6,o7,o8,kb,kw,rfl,S3,e3b,e3w,Db,Dw⟩;rw [Nat.sub_self,List.drop_zero] at Db Dw;obtain ⟨c0,hc0⟩:∃c0,(rise F M)[0]?=some c0:=by
   have:List.replicate F 0∈rise F M:=(gT f1).mpr ⟨dM,by simp⟩;exact ⟨_,aB (List.length_pos_of_mem this)⟩
  obtain ⟨y0,hy0,ry0⟩:=eI a6r hc0;obtain ⟨v0,hv0,_⟩:=Dw.yes c0 (aG hc0);obtain ⟨q0,rfl,hq0⟩:=gG ry0;refine ⟨_,rfl,_,rfl,_,rfl,?_⟩;refine rD O (by simp) (S3 _ _ a0) a1 ?_;refine FO (S3 _ _ a6) (cT (j:=0) hy0) ?_;refine LX e3w (c:=ci c0) (by rw [eE];exact S3 _ _ hq0) hv0 ?_;refine pY (by show 2<=64;decide) λq4 H4 hq4 e4 s4=>?_;have lb:=Db.len;have ch:∀cc:List Nat,∃b:Nat,cc∈rise F M->fM kb (kT (ci cc))=some (.int (b:Int))/\MU F W M ss mix ps cs cc b:=λcc=>by
   by_cases q:cc∈rise F M
   ·obtain ⟨v,h1,b,rfl,h2⟩:=Db.yes cc q;exact ⟨b,λ_=>⟨h1,h2⟩⟩
   ·exact ⟨0,λz=>absurd z q⟩
  refine k q4 bp v0 kb (λcc=>Classical.choose (ch cc)) H4 (S3.trans s4) e4 (s4 _ _ e3b) ⟨λcc hc=>(Classical.choose_spec (ch cc) hc).1,Oo⟩ λcc hc=>(Classical.choose_spec (ch cc) hc).2
end
abbrev UC:Stmt:=(top 22)
theorem aDF:cA ["says"] ["says"] (aX UC):=⟨rfl,rfl,rfl,Kk,rfl,Kk,Kk⟩
abbrev OH:Stmt:=(top 17)
theorem aDE:cA ["faces"] ["faces"] (aX OH):=⟨rfl,rfl,rfl,Kk,rfl,Kk,Kk⟩
abbrev OF:Stmt:=(top 34)
theorem XG:cA ["weighing","best_at","ways","table","counts"] ["weighing","best_at"] (aX OF):=⟨rfl,rfl,rfl,Kk,rfl,Kk,Kk⟩
abbrev UG:Stmt:=(top 24)
theorem XL:cA ["level","table","found","counts","more"] ["level","table"] (aX UG):=⟨rfl,rfl,rfl,Kk,rfl,Kk,Kk⟩
abbrev UF:Stmt:=(top 23)
theorem XJ:cA ["faces","table","found","level"] ["faces","table"] (aX UF):=⟨rfl,rfl,rfl,Kk,rfl,Kk,Kk⟩
abbrev OE:Stmt:=(top 25)
theorem aDB:cA ["faces","table"] ["faces","table"] (aX OE):=⟨rfl,rfl,rfl,Kk,rfl,Kk,Kk⟩
def ML(K:PySem.W.Frag)(H:Hp)(fs:List Fr)(z:V):Prop:=∃sa sx,z=.ref sa/\H sa=some (.tup sx)/\rE K H fs sx
theorem ML.t{K:PySem.W.Frag}{H H':Hp}{fs:List Fr}{z:V}(s:dB H H')(h:ML K H fs z):ML K H' fs z:=by
 obtain ⟨sa,sx,h1,h2,h3⟩:=h;exact ⟨sa,sx,h1,s _ _ h2,h3.t s⟩
theorem rE.get{K:PySem.W.Frag}{H:Hp}{fs:List Fr}{xs:List V}(h:rE K H fs xs){i:Nat}{f:Fr}(e:fs[i]?=some f):∃x,xs[i]?=some x/\yM K H f x:=by
 have li:=(aF.mp e).1;have hx:xs[i]?=some (xs[i]'(by rw [h.len];exact li)):=aB (by rw [h.len];exact li);obtain ⟨g,h1,h2⟩:=h.at_ i _ hx;rw [e] at h1;cases h1;exact ⟨_,hx,h2⟩
def MS(K:PySem.W.Frag)(H:Hp)(d:Addr)(rs:List (List Nat))(W:Nat)(best:List Nat->Nat):Prop:=∃kvs,H d=some (.dT kvs)/\∀c∈rs,∃v,fM kvs (kT (ci c))=some v/\ML K H (rY W (best c)) v
theorem MS.same{K:PySem.W.Frag}{H H':Hp}{d:Addr}{rs:List (List Nat)}{W:Nat}{best:List Nat->Nat}(s:aY H H')(h:MS K H d rs W best):MS K H' d rs W best:=by
 obtain ⟨kvs,h1,h2⟩:=h;exact ⟨kvs,s _ _ h1,λc hc=>by obtain ⟨v,g1,g2⟩:=h2 c hc;exact ⟨v,g1,g2.t s.t⟩⟩
def EnW(K:PySem.W.Frag)(H:Hp)(e:fP)(x:V):Prop:=∃b cu z,x=.ref b/\H b=some (.tup [.ref cu,z])/\H cu=some (.tup (e.1.map zU))/\ML K H e.2 z
theorem EnW.t{K:PySem.W.Frag}{H H':Hp}{e:fP}{x:V}(s:dB H H')(h:EnW K H e x):EnW K H' e x:=by
 obtain ⟨b,cu,z,h1,h2,h3,h4⟩:=h;exact ⟨b,cu,z,h1,s _ _ h2,s _ _ h3,h4.t s⟩
def MM(K:PySem.W.Frag)(H:Hp)(es:List fP)(v:V):Prop:=∃a xs,v=.ref a/\H a=some (.tup xs)/\xs.length=es.length/\∀(i:Nat) (x:V),xs[i]?=some x->∃e,es[i]?=some e/\EnW K H e x
theorem MM.t{K:PySem.W.Frag}{H H':Hp}{es:List fP}{v:V}(s:dB H H')(h:MM K H es v):MM K H' es v:=by
 obtain ⟨a,xs,h1,h2,h3,h4⟩:=h;exact ⟨a,xs,h1,s _ _ h2,h3,λi x hx=>by obtain ⟨e,g1,g2⟩:=h4 i x hx;exact ⟨e,g1,g2.t s⟩⟩
@[irreducible] def oA(K:PySem.W.Frag):Sp:=λvs H Q _=>∃(z:V) (f:Fr) (fs:List Fr),vs=[z]/\ML K H (f::fs) z/\Q (.bl (decide (0<f.1))) H
theorem DJ{K:PySem.W.Frag}(h1:ML K H (f::fs) z)(k:Q (.bl (decide (0<f.1))) H):oA K [z] H Q E:=by
 unfold oA;exact ⟨z,f,fs,rfl,h1,k⟩
@[irreducible] def mF:Sp:=λvs H Q _=>∃F:Nat,vs=[.int (F:Int)]/\F<=64/\∀v H',aY H H'->cC H' (kC (List.replicate F 0)) v->Q v H'
theorem AU(h:F<=64)(k:∀v H',aY H H'->cC H' (kC (List.replicate F 0)) v->Q v H'):mF [.int (F:Int)] H Q E:=by
 unfold mF;exact ⟨F,rfl,h,k⟩
structure uZ(F W M:Nat)(best:List Nat->Nat):Prop where
 f1:1<=F
 f4:F<=4
 w4:W<=4
 m5:M<=5
 on:∀c,best c=0->c.sum<M
 r:(rise F M).length<=400
@[irreducible] def nU(K:PySem.W.Frag)(C:Addr):Sp:=λvs H Q _=>∃(x bp:Addr) (kb:List (List eZ × V)) (F W M:Nat) (ss:List (List Fr)) (mix cs:List Fr) (us:List Nat) (cu:Nat) (best:List Nat->Nat),vs=[.ref x,.ref bp]/\xY H x C F W M ss mix cs us cu/\H bp=some (.dT kb)/\YB kb (rise F M) best/\W<=4/\(rise F M).length<=400 /\
 ∀d H',aY H H'->MS K H' d (rise F M) W best->Q (.ref d) H'
theorem DF{K:PySem.W.Frag}{C:Addr}{H:Hp}{Q:VK}{E:XK}{x bp:Addr}{kb:List (List eZ × V)}{F W M:Nat}{ss:List (List Fr)}{mix cs:List Fr}{us:List Nat}{cu:Nat}{best:List Nat->Nat}(h1:xY H x C F W M ss mix cs us cu)(h2:H bp=some (.dT kb))(h3:YB kb (rise F M) best)(h4:W<=4)(h5:(rise F M).length<=400)
  (k:∀d H',aY H H'->MS K H' d (rise F M) W best->Q (.ref d) H'):nU K C [.ref x,.ref bp] H Q E:=by
 unfold nU;exact ⟨x,bp,kb,F,W,M,ss,mix,cs,us,cu,best,rfl,h1,h2,h3,h4,h5,k⟩
@[irreducible] def pR(K:PySem.W.Frag):Sp:=λvs H Q _=>∃(L d:Addr) (F W M k:Nat) (best:List Nat->Nat),vs=[.ref L,.ref d]/\iD H L (lvl F best k)/\MS K H d (rise F M) W best/\uZ F W M best/\k<=M/\∀D H',aY H H'->H D=none->iD H' D (lvl F best (k+1))->Q (.ref D) H'
theorem GF{K:PySem.W.Frag}(h1:iD H L (lvl F best k))(h2:MS K H d (rise F M) W best)(h3:uZ F W M best)(h4:k<=M)(q:∀D H',aY H H'->H D=none->iD H' D (lvl F best (k+1))->Q (.ref D) H'):pR K [.ref L,.ref d] H Q E:=by
 unfold pR;exact ⟨L,d,F,W,M,k,best,rfl,h1,h2,h3,h4,q⟩
@[irreducible] def pP(K:PySem.W.Frag):Sp:=λvs H Q _=>∃(d:Addr) (F W M:Nat) (best:List Nat->Nat),vs=[.int (F:Int),.ref d]/\MS K H d (rise F M) W best/\uZ F W M best/\∀D H',aY H H'->H D=none->iD H' D (fL F M best)->Q (.ref D) H'
theorem GE{K:PySem.W.Frag}(h2:MS K H d (rise F M) W best)(h3:uZ F W M best)(q:∀D H',aY H H'->H D=none->iD H' D (fL F M best)->Q (.ref D) H'):pP K [.int (F:Int),.ref d] H Q E:=by
 unfold pP;exact ⟨d,F,W,M,best,rfl,h2,h3,q⟩
@[irreducible] def pI(K:PySem.W.Frag):Sp:=λvs H Q _=>∃(d:Addr) (F W M:Nat) (best:List Nat->Nat),vs=[.int (F:Int),.ref d]/\MS K H d (rise F M) W best/\uZ F W M best/\∀v H',aY H H'->MM K H' (rul F W M best) v->Q v H'
theorem FY{K:PySem.W.Frag}(h2:MS K H d (rise F M) W best)(h3:uZ F W M best)(q:∀v H',aY H H'->MM K H' (rul F W M best) v->Q v H'):pI K [.int (F:Int),.ref d] H Q E:=by
 unfold pI;exact ⟨d,F,W,M,best,rfl,h2,h3,q⟩
theorem wC{F M:Nat}{best:List Nat->Nat}(hF:1<=F)(on:∀c,best c=0->c.sum<M):∀j,lvl F best (M+1+j)=[]
 | 0=>by
  refine List.eq_nil_iff_forall_not_mem.mpr λd hd=>?_;obtain ⟨c,hc,h0,_⟩:=(nE hF).mp hd;have h1:=(gQ ((lJ hF M).subset hc)).2;have:=on c h0;omega
 | j+1=>by
  refine List.eq_nil_iff_forall_not_mem.mpr λd hd=>?_;obtain ⟨c,hc,_⟩:=(nE (k:=M+1+j) hF).mp hd;rw [wC hF on j] at hc;cases hc
theorem EE{F k:Nat}{best:List Nat->Nat}(hF:1<=F)(h:lvl F best k=[]):∀j,lvl F best (k+j)=[]
 | 0=>h
 | j+1=>by
  refine List.eq_nil_iff_forall_not_mem.mpr λd hd=>?_;obtain ⟨c,hc,_⟩:=(nE (k:=k+j) hF).mp hd;rw [EE hF h j] at hc;cases hc
theorem zN{F k:Nat}{best:List Nat->Nat}(hF:1<=F)(h:lvl F best k=[]):∀j,(List.range (k+j)).flatMap (lvl F best)=(List.range k).flatMap (lvl F best)
 | 0=>rfl
 | j+1=>by rw [<-Nat.add_assoc,oE,EE hF h j,List.append_nil,zN hF h j]
section
theorem aC0(F:jT K "looks_on" "looks_on" UC f fd)(T:lB K mg c):dY P w K mg base dP 1 f fd ["says"] (oA K):=by
 refine F.oky aDF λvs H Q E h=>?_;unfold oA at h;obtain ⟨z,f,fs,rfl,⟨sa,sx,rfl,hsa,rsx⟩,k⟩:=h;refine ⟨rfl,λcdv A outer s hr=>?_⟩;obtain ⟨y,hy,ry⟩:=rsx.get (i:=0) rfl;obtain ⟨b,rfl,hb⟩:=ry.v;refine ⟨_,(bD (cI (wN yZ (bT bL (bT bL (aD 0) (sE (v:=.int 0) rfl T.g_LOOKS_ON ⟨_,rfl⟩) (λ_ _=>rfl)) aL (λ_ _=>rfl)) aL (nomark _)))),?_⟩;refine ⟨_,rfl,?_⟩;refine lA hsa (cT (j:=0) hy) ?_;refine nG hb rfl ?_;refine ⟨_,_,rfl,rfl,?_⟩;exact k
theorem aCZ(F:jT K "noughts" "noughts" OH f fd)(T:lB K mg c):dY P w K mg base dP 1 f fd ["faces"] mF:=by
 refine F.oky aDE λvs H Q E h=>?_;unfold mF at h;obtain ⟨F,rfl,hF,k⟩:=h;refine ⟨rfl,λcdv A outer s hr=>?_⟩;refine ⟨_,(bD (cI (nB eV (by rfl) T.b_tuple Kk (aJ (fR (dI.of (psc:=aX OH) (N:=["faces"]) (N':=["face"]) (js:=[]) Kk rfl rfl rfl) (cP rfl T.b_range (aJ (aD 0) aE)) (λ_ _ _ _=>dR) (λ_ _ _ _=>aL)) aE)))),?_⟩;refine ⟨_,rfl,_,rfl,Oo,Oo,?_⟩;refine gW (λi y H'=>∃n,y=.int n/\n=0) (λ_ _ _ _ _ h=>h) Oo (λi H' Q' hi s' k'=>k' _ H' (aY.refl _) ⟨0,rfl,rfl⟩) (λD ys H1 hD e1 s1 hy hr1=>?_);obtain ⟨zs,rfl,hz⟩:=oV (P:=λ_ n=>n=0) hr1;have ez:zs=List.replicate F 0:=by
  rw [aA] at hy;exact List.eq_replicate_iff.mpr ⟨Oo,λb hb=>by obtain ⟨i,h⟩:=cV.mp hb;exact hz i b h⟩
 subst ez;refine ⟨D,_,rfl,.inl ⟨fN.of e1,λl hl=>?_⟩⟩;refine k _ _ (s1.trans (aY.upd hl)) (nM ?_);rw [bM,List.map_replicate,List.map_replicate];rfl
theorem aCW(F:jT K "plain_table" "plain_table" OF f fd)(T:lB K mg c):dY P w K mg base dP 1 f fd ["weighing","best_at"] (nU K c.Weighing):=by
 refine F.oky XG λvs H Q E h=>?_;unfold nU at h;obtain ⟨x,bp,kb,F,W,M,ss,mix,cs,us,cu,best,rfl,wg,hbp,hbs,w4,r4,k⟩:=h;refine ⟨rfl,λcdv A outer s hr=>?_⟩;obtain ⟨ul,dx,fl,ra,ua,wa,ca,tas,kvs,a0,a1,a2,a3,a4,a5,⟨vs,a6,a6r⟩,a7,a8,a9,a10,a11⟩:=wg;have O:=T.w_Weighing;have lvs:vs.length=(rise F M).length:=by rw [a6r.len,aA]
 refine ⟨_,(aH (bK (i:=2) XG.nd rfl (Or.inl rfl) (eG gB (by rfl) T.b_len Kk (aJ (gO K (aD 0)) aE)))
  (aH (bK (i:=3) XG.nd rfl (Or.inl rfl) mC)
  (aH (fF PassesOwn.never rfl (fD (gO K (aD 0))) (dF (i:=4) XG.nd rfl (Or.inr rfl)) (bD (iE hr.u1 (aD 3) (aD 4) (nB eV (by rfl) T.b_tuple Kk (aJ (fR (dI.of (psc:=aX OF) (N:=["weighing","best_at","ways","table","counts"]) (N':=["place","best_at","counts"]) (js:=[1,4]) Kk rfl rfl rfl) (cP rfl T.b_range (aJ (bQ dQ aL (aD 2)) aE)) (λ_ _ _ _=>dR) (λ_ _ _ _=>(sD (eQ vJ (aD 0) (gE hr.u1 (aD 1) (aD 2)) (nomark _)) (sE (v:=.ref c.ONE) rfl T.g_ONE rfl) (sE (v:=.ref c.NOUGHT) rfl T.g_NOUGHT rfl)))) aE)))))
  (bD (cI (aD 3)))))),?_⟩
 refine ⟨_,rfl,?_⟩;refine rD O (by simp) a0 a2 ?_;refine OP a7 ?_;rw [aA,ul];intro p hp;have s1:=aY.upd (o:=.dT []) hp;have e1:(upd H p (.dT [])) p=some (.dT []):=bM;generalize upd H p (.dT [])=H1 at s1 e1 ⊢;refine ⟨_,rfl,?_⟩;refine rD O (by simp) (s1 _ _ a0) a1 ?_;refine ⟨ra,rfl,⟨_,fN.of (s1 _ _ a6)⟩,?_⟩;refine jY (xs:=vs) (λi σ H'=>∃(o4:Option V) (kv:List (List eZ × V)),σ=[some (.ref x),some (.ref bp),some (.int (W:Int)),some (.ref p),o4]/\aY H H'/\H' p=some (.dT kv)/\kv.length<=i/\∀cc∈(rise F M).take i,∃v,fM kv (kT (ci cc))=some v/\ML K H' (rY W (best cc)) v)
  ⟨_,[],rfl,s1,e1,aI _,λcc hc=>by simp at hc⟩ (λi σ H' _ q=>?_) ?_ ?_
 ·obtain ⟨_,_,_,S',_⟩:=q;exact fN.of (S' _ _ a6)
 ·rintro i y σ H2 hy ⟨o4,kv,rfl,S2,e2,l2,D2⟩;obtain ⟨cc,hc,rc0⟩:=eW a6r hy;have hi:=(aF.mp hy).1;obtain ⟨ac,rfl,hac⟩:=gG rc0;have hb:=hbs.1 cc (aG hc);refine ⟨_,rfl,_,_,rfl,rfl,_,rfl,Oo,Oo,?_⟩;refine gW (λq z H'=>q<1+W/\yM K H' (if q=best cc then (1,1) else (0,1)) z) (λq z Ha Hb s ⟨h1,h2⟩=>⟨h1,h2.t s⟩) Oo (λq H' Q' hq s' k'=>?_) (λD ys H3 hD e3 s3 hy3 hr3=>?_)
  ·have hq:q<1+W:=Oo;rw [Int.zero_add];refine ⟨_,rfl,_,rfl,_,rfl,?_⟩;refine LX (s' _ _ (S2 _ _ hbp)) (c:=ci cc) (by rw [eE];exact s' _ _ (S2 _ _ hac)) hb ?_;refine ⟨rfl,_,rfl,?_⟩;refine uQ (λe=>?_) (λe=>?_)
   ·have e:q=best cc:=by injection e with e;omega
    exact k' _ H' (aY.refl _) ⟨hq,by rw [if_pos e];exact .inr ⟨_,rfl,T.o_ONE⟩⟩
   ·have e:¬q=best cc:=λz=>e (by rw [z]);exact k' _ H' (aY.refl _) ⟨hq,by rw [if_neg e];exact .inr ⟨_,rfl,T.o_NOUGHT⟩⟩
  ·refine ⟨D,ys,rfl,.inl ⟨fN.of e3,λl hl=>?_⟩⟩;have sl:=aY.upd (o:=.tup ys) hl;have el:(upd H3 l (.tup ys)) l=some (.tup ys):=bM;generalize upd H3 l (.tup ys)=H4 at sl el ⊢;have ly:ys.length=1+W:=Oo;have sa:ML K H4 (rY W (best cc)) (.ref l):=⟨l,ys,rfl,el,by unfold rY;rw [aA,aZ];exact ly,λq z hz=>by
    obtain ⟨h1,h2⟩:=hr3 q z hz;exact ⟨_,by unfold rY;rw [aM,cJ h1];rfl,h2.t sl.t⟩⟩
   refine ⟨_,rfl,_,rfl,?_⟩;have S4:=(S2.trans s3).trans sl;have e4:=sl _ _ (s3 _ _ e2);refine QU e4 (c:=ci cc) (by rw [eE];exact S4 _ _ hac) Oo λH5 e5 b5=>?_;have t5:dB H4 H5:=aQ.tT b5 e4;refine ⟨_,_,rfl,aY.thru hp S4 b5,e5,by have:=eX kv (kT (ci cc)) (V.ref l);omega,λc2 h2=>?_⟩;rw [hZ];by_cases e:c2=cc
   ·subst e;rw [if_pos rfl];exact ⟨_,rfl,sa.t t5⟩
   ·rw [if_neg λz=>e (kM (mV z))];rw [eN hc] at h2;rcases bX.mp h2 with h2 | h2
    ·obtain ⟨v,g1,g2⟩:=D2 c2 h2;exact ⟨v,g1,((g2.t s3.t).t sl.t).t t5⟩
    ·exact absurd (bG.mp h2) e
 ·rintro σ H2 ⟨o4,kv,rfl,S2,e2,l2,D2⟩;rw [lvs,cR] at D2;exact ⟨_,rfl,k p H2 S2 ⟨kv,e2,D2⟩⟩
theorem aC7(F:jT K "counts_behind" "counts_behind" UG f fd)(T:lB K mg c)(FQ35:gM dP P w K mg base 1 "looks_on" ["says"] (oA K))(FQ38:gM dP P w K mg base 2 "ones_more" ["counts"] iQ):dY P w K mg base dP 3 f fd ["level","table"] (pR K):=by
 refine F.oky XL λvs H Q E h=>?_;unfold pR at h;obtain ⟨L,d,F,W,M,kk,best,rfl,LS,tb,I,hk,q⟩:=h;refine ⟨rfl,λcdv A outer s hr=>?_⟩;obtain ⟨ys,hL,ry,ly⟩:=LS.len;have f1:=I.f1;have f4:=I.f4;have m5:=I.m5;have key:∀(j:Nat) (d:List Int),(∃c∈(lvl F best kk).take j,best c=0/\∃f,f<F/\d=ci (bP c f))->d∈(lvl F best (kk+1)).map ci:=λj d ⟨c,hc,h0,f,hf,e⟩=>aV.mpr ⟨bP c f,(nE f1).mpr ⟨c,List.mem_of_mem_take hc,h0,f,hf,rfl⟩,e.symm⟩;have small:(lvl F best (kk+1)).length<=56:=by
  by_cases z:kk+1<=5
  ·exact aK (lJ f1 (kk+1)).length_le (oF F f4 (kk+1) z)
  ·have e:=wC f1 I.on (kk-M);rw [show M+1+(kk-M)=kk+1 by omega] at e;rw [e];exact cE _
 refine ⟨_,(aH (bK (i:=2) XL.nd rfl (Or.inl rfl) mC)
  (aH (fF PassesOwn.never rfl (fD (aD 0)) (dF (i:=3) XL.nd rfl (Or.inl rfl)) (bD (kE (FQ (AG (eQ (PX hr.u1) (aD 3) (aD 1) (by with_unfolding_all rfl)) (vT (rN (bS FQ35 (hr.mono Dd) (aJ (gE hr.u1 (aD 1) (aD 3)) aE)))))) (bD (fF PassesOwn.never rfl (fD (bS FQ38 (hr.mono Dd) (aJ (aD 3) aE))) (dF (i:=4) XL.nd rfl (Or.inl rfl)) (bD (iE hr.u1 (aD 2) (aD 4) vB)))) gC)))
  (bD (cI (eG (JO rfl) (by rfl) T.b_sorted Kk (aJ (aD 2) aE)))))),?_⟩
 intro p hp;have s1:=aY.upd (o:=.dT []) hp;have e1:(upd H p (.dT [])) p=some (.dT []):=bM;generalize upd H p (.dT [])=H1 at s1 e1 ⊢;refine ⟨_,rfl,L,rfl,⟨_,fN.of (s1 _ _ hL)⟩,?_⟩;refine jY (xs:=ys) (λj σ H'=>∃(o3 o4:Option V) (kvs:List (List eZ × V)) (ks:List (List Int)),σ=[some (.ref L),some (.ref d),some (.ref p),o3,o4]/\aY H H'/\H' p=some (.dT kvs)/\kvs.map (·.1)=ks.map kT/\ks.Nodup/\∀d,d∈ks ↔ ∃c∈(lvl F best kk).take j,best c=0/\∃f,f<F/\d=ci (bP c f))
  ⟨_,_,[],[],rfl,s1,e1,rfl,List.nodup_nil,λd=>⟨(λh=>by cases h),λ⟨c,hc,_⟩=>by rw [List.take_zero] at hc;cases hc⟩⟩ (λj σ H' _ q=>?_) ?_ ?_
 ·obtain ⟨_,_,_,_,_,S',_⟩:=q;exact fN.of (S' _ _ hL)
 ·rintro j x σ H2 hx ⟨o3,o4,kvs,ks,rfl,S2,e2,hk2,nd,hm⟩;obtain ⟨cc,hc,rc⟩:=eW ry hx;obtain ⟨ac,rfl,hac⟩:=gG rc;have hcl:=aG hc;obtain ⟨lc,sc⟩:=gQ ((lJ f1 kk).subset hcl);have hcr:cc∈rise F M:=(gT f1).mpr ⟨lc,Oo⟩;obtain ⟨tk,ht,hty⟩:=tb.same S2;obtain ⟨v,hv,sv⟩:=hty cc hcr;have step:∀d,(∃c∈(lvl F best kk).take (j+1),best c=0/\∃f,f<F/\d=ci (bP c f))↔(∃c∈(lvl F best kk).take j,best c=0/\∃f,f<F/\d=ci (bP c f))\/(best cc=0/\∃f,f<F/\d=ci (bP cc f)):=λd=>by
   rw [eN hc];constructor
   ·rintro ⟨c,hc',h⟩;rcases bX.mp hc' with h' | h'
    ·exact .inl ⟨c,h',h⟩
    ·rw [bG.mp h'] at h;exact .inr h
   ·rintro (⟨c,hc',h⟩ | h)
    ·exact ⟨c,bV _ hc',h⟩
    ·exact ⟨cc,aN _ (bG.mpr rfl),h⟩
  refine ⟨_,rfl,_,rfl,?_⟩;refine rind (dgI (cc:=cc) ht (S2 _ _ hac)) ?_;rw [hv];refine ⟨_,rfl,?_⟩;refine LP ?_;refine ⟨_,rfl,_,rfl,?_⟩;refine LX ht (c:=ci cc) (by rw [eE];exact S2 _ _ hac) hv ?_;have epl:rY W (best cc)=(if 0=best cc then (1,1) else (0,1))::(List.range W).map λk=>if k+1=best cc then (1,1) else (0,1):=by
   unfold rY;rw [Nat.add_comm,List.range_succ_eq_map,bH,List.map_map];rfl
  rw [epl] at sv;refine DJ sv ?_;refine ⟨_,rfl,?_⟩;refine uQ (λon=>?_) (λon=>?_)
  ·have h0:best cc=0:=bY λz=>by rw [if_neg (λy=>z y.symm)] at on;exact absurd on Dd
   refine ⟨_,rfl,?_⟩;refine pL (nM (S2 _ _ hac)) Oo λD zs H3 hD e3 r3 s3=>?_;refine ⟨D,rfl,⟨_,fN.of e3⟩,?_⟩;have lz:zs.length=F:=by rw [r3.len,aA,aA,aZ];exact lc
   have nDp:D≠p:=λz=>by rw [z,e2] at hD;cases hD
   refine jY (xs:=zs) (λg σ H'=>∃(o4:Option V) (kvs:List (List eZ × V)) (ks:List (List Int)),σ=[some (.ref L),some (.ref d),some (.ref p),some (.ref ac),o4]/\aQ p H3 H'/\H' p=some (.dT kvs)/\kvs.map (·.1)=ks.map kT/\ks.Nodup/\∀d,d∈ks↔(∃c∈(lvl F best kk).take j,best c=0/\∃f,f<F/\d=ci (bP c f))\/∃f,f<g/\d=ci (bP cc f))
    ⟨_,kvs,ks,rfl,(aY.refl _).but,s3 _ _ e2,hk2,nd,λd=>by rw [hm];exact ⟨.inl,λh=>by rcases h with h | ⟨f,hf,_⟩;exact h;omega⟩⟩ (λg σ H' _ q=>?_) ?_ ?_
   ·obtain ⟨_,_,_,_,b',_⟩:=q;exact fN.of (b'.at nDp e3)
   ·rintro g z σ H4 hz ⟨o4',kv4,ks4,rfl,b4,e4,hk4,nd4,hm4⟩;have hg:g<F:=by have:=(aF.mp hz).1;omega
    obtain ⟨c2,hc2,rc2⟩:=eW r3 hz;rw [aM,cJ Oo] at hc2;cases hc2;have t4:dB H3 H4:=aQ.tT b4 (s3 _ _ e2);obtain ⟨a2,rfl,ha2⟩:=gG (rc2.flat t4 (jZ _));have lk:ks4.length<=56:=by
     have:=lX nd4 (m:=(lvl F best (kk+1)).map ci) λd hd=>by
      rcases (hm4 d).mp hd with h | ⟨f,hf,e⟩
      ·exact key j d h
      ·exact key (j+1) d ((step d).mpr (.inr ⟨h0,f,Oo,e⟩))
     rw [aA] at this;omega
    have lkv:kv4.length=ks4.length:=by have:=congrArg List.length hk4;simpa using this
    refine ⟨_,rfl,_,rfl,?_⟩;refine QU e4 (c:=ci (bP cc g)) (by rw [eE];exact ha2) Oo λH5 e5 b5=>?_;obtain ⟨ks2,k1,k2,k3⟩:=QK (v:=.bl true) (ci (bP cc g)) hk4 nd4;refine ⟨_,_,ks2,rfl,b4.trans b5,e5,k1,k2,λd=>?_⟩;rw [k3,hm4];constructor
    ·rintro ((h | ⟨f,hf,e⟩) | h)
     ·exact .inl h
     ·exact .inr ⟨f,Oo,e⟩
     ·exact .inr ⟨g,Oo,h⟩
    ·rintro (h | ⟨f,hf,e⟩)
     ·exact .inl (.inl h)
     ·by_cases q:f=g
      ·subst q;exact .inr e
      ·exact .inl (.inr ⟨f,Oo,e⟩)
   ·rintro σ H4 ⟨o4',kv4,ks4,rfl,b4,e4,hk4,nd4,hm4⟩;refine ⟨_,_,kv4,ks4,rfl,aY.thru hp (S2.trans s3) b4,e4,hk4,nd4,λd=>?_⟩;rw [hm4,step,lz];constructor
    ·rintro (h | h)
     ·exact .inl h
     ·exact .inr ⟨h0,h⟩
    ·rintro (h | h)
     ·exact .inl h
     ·exact .inr h.2
  ·have h0:¬best cc=0:=λz=>on (by rw [if_pos z.symm];decide);refine ⟨_,_,kvs,ks,rfl,S2,e2,hk2,nd,λd=>?_⟩;rw [hm,step];exact ⟨.inl,λh=>by rcases h with h | h;exact h;exact absurd h.1 h0⟩
 ·rintro σ H2 ⟨o3,o4,kvs,ks,rfl,S2,e2,hk2,nd,hm⟩;rw [ly,cR] at hm;have hmem:∀d,d∈ks↔d∈(lvl F best (kk+1)).map ci:=λd=>by
   rw [hm,aV];constructor
   ·rintro ⟨c,hc,h0,f,hf,e⟩;exact ⟨bP c f,(nE f1).mpr ⟨c,hc,h0,f,hf,rfl⟩,e.symm⟩
   ·rintro ⟨d',hd',rfl⟩;obtain ⟨c,hc,h0,f,hf,rfl⟩:=(nE f1).mp hd';exact ⟨c,hc,h0,f,hf,rfl⟩
  have lk:ks.length<=56:=by
   have:=lX nd (m:=(lvl F best (kk+1)).map ci) λd hd=>(hmem d).mp hd;rw [aA] at this;omega
  refine ⟨_,rfl,?_⟩;refine rsrd (cs:=ks) e2 hk2 (λc hc=>?_) Oo λq8 ys8 ds H8 pm pw hq8 e8 r8 s8=>?_
  ·obtain ⟨d,hd,rfl⟩:=aV.mp ((hmem c).mp hc);obtain ⟨l1,_⟩:=gQ ((lJ f1 (kk+1)).subset hd);intro z;have e:(ci d).length=d.length:=by unfold ci;rw [aA]
   rw [z,List.length_nil] at e;omega
  have slex:((lvl F best (kk+1)).map ci).Pairwise λa b=>jX a b=true:=by
   by_cases z:kk+1<=5
   ·exact (JL F f4 (kk+1) z).sublist ((lJ f1 (kk+1)).map ci)
   ·have e:=wC f1 I.on (kk-M);rw [show M+1+(kk-M)=kk+1 by omega] at e;rw [e];exact List.Pairwise.nil
  have eds:ds=(lvl F best (kk+1)).map ci:=tF pw slex λd=>by rw [pm.mem_iff];exact hmem d
  rw [eds,List.map_map,show (lvl F best (kk+1)).map ((λc:List Int=>PyData.tuple (c.map .int)) ∘ ci)=(lvl F best (kk+1)).map kC from eB λc _=>ctI c] at r8;exact q q8 H8 (S2.trans s8) (S2.free hq8) ⟨ys8,e8,r8⟩
theorem aC6(F:jT K "counts_come_to" "counts_come_to" UF f fd)(T:lB K mg c)(FQ36:gM dP P w K mg base 1 "noughts" ["faces"] mF)(FQ28:gM dP P w K mg base 3 "counts_behind" ["level","table"] (pR K)):dY P w K mg base dP 4 f fd ["faces","table"] (pP K):=by
 refine F.oky XJ λvs H Q E h=>?_;unfold pP at h;obtain ⟨d,F,W,M,best,rfl,tb,I,q⟩:=h;refine ⟨rfl,λcdv A outer s hr=>?_⟩;have f1:=I.f1;have f4:=I.f4;have m5:=I.m5;refine ⟨_,(aH (bK (i:=2) XJ.nd rfl (Or.inl rfl) (iI aE))
  (aH (bK (i:=3) XJ.nd rfl (Or.inl rfl) (iI (aJ (bS FQ36 (hr.mono Dd) (aJ (aD 0) aE)) aE)))
  (aH (rZ PassesOwn.never (eQ yZ (eG gB (by rfl) T.b_len Kk (aJ (aD 3) aE)) aL (nomark _)) (aH (jU (pA PySem.F.plainAttrs_list PySem.F.slot_list_extend PySem.F.type_list_extend GX (aD 2) (aJ (aD 3) aE)))
  (bD (bK (i:=3) XJ.nd rfl (Or.inl rfl) (bS FQ28 (hr.mono Dd) (aJ (aD 3) (aJ (aD 1) aE)))))))
  (bD (cI (aD 2)))))),?_⟩
 refine DY (by show 0<=64;decide) λfo H1 hfo e1 s1=>?_;refine ⟨_,rfl,?_⟩;refine AU Oo λv H2 s2 r2=>?_;refine DY (by show 1<=64;decide) λle H3 hle e3 s3=>?_;have s13:=(s1.trans s2).trans s3;have nle:le≠fo:=λz=>by subst z;rw [s2 _ _ e1] at hle;cases hle
 have small:∀i,i<=M+1->((List.range i).flatMap (lvl F best)).length<=400:=λi hi=>aK (xQ (lJ f1) (List.range i)).length_le (rA F f4 i Oo);refine vV (λm σ H'=>∃(le:Addr) (vs:List V) (j:Nat),σ=[some (.int (F:Int)),some (.ref d),some (.ref fo),some (.ref le)]/\aY H H'/\H' fo=some (.lst vs)/\aW H' (((List.range j).flatMap (lvl F best)).map kC) vs/\iD H' le (lvl F best j)/\le≠fo/\j<=M+1/\m=M+1-j)
  (λσ H'=>∃(le:Addr) (vs:List V),σ=[some (.int (F:Int)),some (.ref d),some (.ref fo),some (.ref le)]/\aY H H'/\H' fo=some (.lst vs)/\aW H' ((fL F M best).map kC) vs)
  _ ⟨le,[],0,rfl,s13,s3 _ _ (s2 _ _ e1),aW.nil,⟨_,e3,aW.cons (r2.same s3) aW.nil⟩,nle,cE _,rfl⟩ ?_ ?_
 ·clear e1 s1 s2 s3 s13 e3 hle nle r2;rintro m σ H1 ⟨le,vs,j,rfl,S1,e1,r1,L1,nle,hj,rfl⟩;obtain ⟨ws,e2,r2,lw⟩:=L1.len;have lv:vs.length=((List.range j).flatMap (lvl F best)).length:=eJ r1;have sj:=small j hj;refine ⟨_,rfl,?_⟩;refine OP e2 ?_;refine ⟨_,_,rfl,rfl,_,rfl,?_⟩;by_cases hz:lvl F best j=[]
  ·have w0:ws.length=0:=by rw [lw,hz];rfl
   refine qD (cH Oo) ⟨le,vs,rfl,S1,e1,?_⟩;have:=zN f1 hz (M+1-j);rw [show j+(M+1-j)=M+1 by omega] at this;unfold fL;rw [this];exact r1
  ·have l0:0<(lvl F best j).length:=List.length_pos_iff.mpr hz;have hjM:j<=M:=bY λz=>hz (by
    have:=wC f1 I.on (j-(M+1))
    rwa [show M+1+(j-(M+1))=j by omega] at this)
   refine EL (cO Oo) ?_;have sj2:=small (j+1) Oo;rw [oE,bE] at sj2;refine ⟨_,rfl,MP e1,_,rfl,?_⟩;refine aAN e1 e2 Oo λH2 e3 b3=>?_;have t3:=b3.t e1;have S2:aY H H2:=aY.thru hfo S1 b3;refine ⟨_,rfl,_,rfl,?_⟩;refine GF (L1.butL b3 e1 nle) (tb.same S2) I hjM λD H3 s3 hD L3=>?_;have nD:D≠fo:=λz=>by subst z;rw [e3] at hD;cases hD
   refine ⟨_,Oo,D,vs++ws,j+1,rfl,S2.trans s3,s3 _ _ e3,?_,L3,nD,Oo,rfl⟩;rw [oE,bF];exact aW.app ((r1.flat t3 (jN _)).same s3) ((r2.flat t3 (jN _)).same s3)
 ·rintro σ H1 ⟨le,vs,rfl,S1,e1,r1⟩;exact ⟨_,rfl,q fo H1 S1 hfo ⟨vs,e1,r1⟩⟩
theorem aCT(F:jT K "rule_within" "rule_within" OE f fd)(T:lB K mg c)(FQ29:gM dP P w K mg base 4 "counts_come_to" ["faces","table"] (pP K)):dY P w K mg base dP 5 f fd ["faces","table"] (pI K):=by
 refine F.oky aDB λvs H Q E h=>?_;unfold pI at h;obtain ⟨d,F,W,M,best,rfl,tb,I,q⟩:=h;refine ⟨rfl,λcdv A outer s hr=>?_⟩;have f1:=I.f1;refine ⟨_,(bD (cI (nB eV (by rfl) T.b_tuple Kk (aJ (fR (dI.of (psc:=aX OE) (N:=["faces","table"]) (N':=["counts","table"]) (js:=[1]) Kk rfl rfl rfl) (fD (bS FQ29 (hr.mono Dd) (aJ (aD 0) (aJ (aD 1) aE)))) (λ_ _ _ _=>dR) (λ_ _ _ _=>(dS (aJ (aD 0) (aJ (gE hr.u1 (aD 1) (aD 0)) aE))))) aE)))),?_⟩;refine ⟨_,rfl,_,rfl,?_⟩;refine GE tb I λD H1 s1 hD L1=>?_;obtain ⟨zs,e1,r1,lz⟩:=L1.len;have lr:(fL F M best).length<=400:=aK (jL f1).length_le I.r;refine ⟨D,rfl,⟨_,fN.of e1⟩,?_⟩;refine gX (λi y H'=>∃e,(rul F W M best)[i]?=some e/\EnW K H' e y) (λi y Ha Hb s ⟨e,h1,h2⟩=>⟨e,h1,h2.t s⟩) Oo e1 (λi x H' Q' hx s' k'=>?_) (λD2 ys H2 hD2 e2 s2 hy hr2=>?_)
 ·obtain ⟨cc,hc,rx⟩:=eW r1 hx;obtain ⟨b,rfl,hb⟩:=gG (rx.same s');obtain ⟨kvs,t1,t2⟩:=tb;obtain ⟨v,ev,sv⟩:=t2 cc ((jL f1).subset (aG hc));refine ⟨_,rfl,_,rfl,_,rfl,?_⟩;refine LX (s' _ _ (s1 _ _ t1)) (c:=ci cc) (by rw [eE];exact hb) ev ?_;refine pY (by show 2<=64;decide) λq3 H3 hq3 e3 s3=>?_;exact k' _ H3 s3 ⟨plE W best cc,by unfold rul;rw [aM,hc];rfl,q3,b,v,rfl,e3,s3 _ _ hb,sv.t ((s1.trans s').trans s3).t⟩
 ·refine ⟨D2,ys,rfl,.inl ⟨fN.of e2,λl hl=>?_⟩⟩;have sl:=aY.upd (o:=.tup ys) hl;refine q _ _ ((s1.trans s2).trans sl) ⟨l,ys,rfl,bM,by unfold rul;rw [aA];omega,λi y hi=>?_⟩;obtain ⟨e,h1,h2⟩:=hr2 i y hi;exact ⟨e,h1,h2.t sl.t⟩
end
abbrev KU:Stmt:=(top 36)
theorem MG:cA ["trial","aim","prices","weighing","parts","unit","factors","best_at"] ["trial","aim","prices"] (aX KU):=⟨rfl,rfl,rfl,Kk,rfl,Kk,Kk⟩
theorem RB(xs:List V)(v:V):lK (xs++[v]) none (some (-1))=xs:=by
 unfold lK;rw [HT.sV,List.drop_zero,Nat.sub_zero];have:HT.iU (xs++[v]).length (xs++[v]).length (some (-1))=xs.length:=by
  show (if (-1:Int)<0 then ((-1:Int)+((xs++[v]).length:Int)).toNat else min (-1:Int).toNat (xs++[v]).length)=_;rw [if_pos Dd,bE,List.length_singleton];omega
 rw [this,List.take_left]
theorem Fn.inv{u:Nat}(h:0<u):Fn u 1 (1,(u:Int)):=by
 have low:dA (1,(u:Int)):=⟨by show (0:Int)<(u:Int);omega,by show Int.gcd 1 (u:Int)=1;exact Int.gcd_one_left _⟩;refine ⟨low,1,?_,by simp;omega⟩;have h1:=sW low.pos;show rv (1,(u:Int))*(u:Rat)=((1:Int):Rat);exact h1
@[irreducible] def pS(K:PySem.W.Frag):Sp:=λvs H Q _=>∃(tv av pv:V) (fs:List Str) (ws:List (Str × List Fr)) (bs mix ps cs:List Fr) (F W M Ns Nm Np Nc B Nb:Nat),vs=[tv,av,pv]/\cC H (qN fs ws) tv/\fs.length=F/\cC H (lM M bs mix cs) av/\cC H (pE ps) pv/\SA ws bs F W M Ns Nm Np Nc B Nb mix ps cs /\
 ∀v best H',aY H H'->MM K H' (rul F W M best) v->uZ F W M best->(∀c∈rise F M,MU F W M (eP ws) mix ps cs c (best c))->Q v H'
theorem GG{K:PySem.W.Frag}{H:Hp}{Q:VK}{E:XK}{tv av pv:V}{fs:List Str}{ws:List (Str × List Fr)}{bs mix ps cs:List Fr}{F W M Ns Nm Np Nc B Nb:Nat}(h1:cC H (qN fs ws) tv)(h2:fs.length=F)(h3:cC H (lM M bs mix cs) av)(h4:cC H (pE ps) pv)(h5:SA ws bs F W M Ns Nm Np Nc B Nb mix ps cs)
  (k:∀v best H',aY H H'->MM K H' (rul F W M best) v->uZ F W M best->(∀c∈rise F M,MU F W M (eP ws) mix ps cs c (best c))->Q v H'):pS K [tv,av,pv] H Q E:=by
 unfold pS;exact ⟨tv,av,pv,fs,ws,bs,mix,ps,cs,F,W,M,Ns,Nm,Np,Nc,B,Nb,rfl,h1,h2,h3,h4,h5,k⟩
section
theorem aDa(F:jT K "best_rule" "best_rule" KU f fd)(T:lB K mg c)(FQ0:FnO P w K mg base 7 c.Weighing ["self","trial","aim"] (qR c.Weighing))(FQ43:gM dP P w K mg base 2 "times" ["one","other"] (mE K))(FQ27:gM dP P w K mg base 2 "common_lower" ["some"] (lW K))(FQ44:gM dP P w K mg base 1 "times_whole" ["one","unit"] (lT K))
  (FQ24:gM dP P w K mg base 3 "best_places" ["weighing","factors","cost_factor"] (pU c.Weighing)) (FQ42:gM dP P w K mg base 5 "rule_within" ["faces","table"] (pI K)) (FQ31:gM dP P w K mg base 1 "faces_of" ["trial"] kJ) (FQ39:gM dP P w K mg base 1 "plain_table" ["weighing","best_at"] (nU K c.Weighing)):dY P w K mg base dP 9 f fd ["trial","aim","prices"] (pS K):=by
 refine F.oky MG λvs H Q E h=>?_;unfold pS at h;obtain ⟨tv,av,pv,fs,ws,bs,mix,ps,cs,F,W,M,Ns,Nm,Np,Nc,B,Nb,rfl,rt,hF,ra,rp,G,k⟩:=h;refine ⟨rfl,λcdv A outer s hr=>?_⟩;have I:=G.wo;have f1:=I.f1;have f4:=I.f4;have m5:=I.m5;have w4:=I.w4;have hB:=I.b;have O:=T.w_Weighing;have r4:=rP F f4 M m5;obtain ⟨ap,vp,rfl,hap,rvp⟩:=mP rp;have lvp:vp.length=W:=by rw [eJ rvp];exact I.pl
 have np0:0<Np:=Nat.pos_of_ne_zero λz=>by have:=I.pos;rw [z] at this;simp at this
 have N0:0<lP M Ns Nm Np Nc*Nb:=mY I.pos G.nb;refine ⟨_,(aH (bK (i:=3) MG.nd rfl (Or.inl rfl) (ND FQ0 T.g_Weighing (hr.mono Dd) (aJ (aD 0) (aJ (aD 1) aE))))
  (aH (AI (i:=4) (gS.of (psc:=aX KU) (N:=["trial","aim","prices","weighing","parts","unit","factors","best_at"]) (xs:=["price","unit"]) (N':=["price","unit"]) (js:=[]) Kk rfl rfl rfl) MG.nd rfl rfl (AK true false rfl T.b_zip (aJ (aD 2) (aJ (gO K (aD 3)) aE))) (λ_ _ _ _=>dR) (λ_ _ _ _=>(bS FQ43 (hr.mono Dd) (aJ (aD 0) (aJ (dS (aJ aL (aJ (aD 1) aE))) aE)))))
  (aH (jU (pA PySem.F.plainAttrs_list PySem.F.slot_list_append PySem.F.type_list_append qB (aD 4) (aJ (dS (aJ aL (aJ (gO K (aD 3)) aE))) aE)))
  (aH (bK (i:=5) MG.nd rfl (Or.inr rfl) (bS FQ27 (hr.mono Dd) (aJ (aD 4) aE)))
  (aH (gZ (i:=6) (dI.of (psc:=aX KU) (N:=["trial","aim","prices","weighing","parts","unit","factors","best_at"]) (N':=["part","unit"]) (js:=[5]) Kk rfl rfl rfl) MG.nd rfl rfl (fD (aD 4)) (λ_ _ _ _=>dR) (λ_ _ _ _=>(bS FQ44 (hr.mono Dd) (aJ (aD 0) (aJ (aD 1) aE)))))
  (aH (bK (i:=7) MG.nd rfl (Or.inl rfl) (bT bL (bS FQ24 (hr.mono Dd) (aJ (aD 3) (aJ (iZ (pV K) (aD 6) kR (kQ (YD NH aL))) (aJ (bT bL (aD 6) (YD NH aL) (λ_ _=>rfl)) aE)))) aL (λ_ _=>rfl)))
  (bD (cI (bS FQ42 (hr.mono Dd) (aJ (bS FQ31 (hr.mono Dd) (aJ (aD 0) aE)) (aJ (bS FQ39 (hr.mono Dd) (aJ (aD 3) (aJ (aD 7) aE))) aE))))))))))),?_⟩
 refine ⟨_,rfl,_,rfl,?_⟩;intro x dx hx hdx ndx;have sA:aY H (upd (upd H dx (.own x)) x (.ins c.Weighing dx [])):=(aY.upd hdx).trans (aY.upd (by rw [cX (Ne.symm ndx)];exact hx));have eA:(upd (upd H dx (.own x)) x (.ins c.Weighing dx [])) x=some (.ins c.Weighing dx []):=bM;generalize upd (upd H dx (.own x)) x (.ins c.Weighing dx [])=H1 at sA eA ⊢;refine KI eA (rt.same sA) hF (ra.same sA) G λus cu H2 b2 wg hus cu0 cuN=>⟨rfl,?_⟩;have S2:aY H H2:=aY.thru hx sA b2;obtain ⟨ul,dx',fl,ra',ua,wa,ca,tas,kvs,a0,a1,a2,a3,a4,a5,a6,a7,a8,a9,a10,a11⟩:=id wg;refine ⟨_,rfl,_,rfl,?_⟩;refine rD O (by simp) a0 a2 ?_;refine ⟨ap,ua,_,_,rfl,S2 _ _ hap,a7,?_⟩;refine zT (λi z H'=>∃p u,ps[i]?=some p/\us[i]?=some u/\cC H' (fY (iV p (1,(u:Int)))) z) (λi z Ha Hb s ⟨p,u,h1,h2,h3⟩=>⟨p,u,h1,h2,h3.flat s (cQ _)⟩) Oo (S2 _ _ hap) a7 (by rw [aA];omega) (λi y z H' Q' hy hz s' k'=>?_) (λD zs H3 hD e3 s3 hz3 hr3=>?_)
 ·obtain ⟨p,hp,rpp⟩:=eW rvp hy;rw [aM] at hz;obtain ⟨u,hu,rfl⟩:=dX.mp hz;obtain ⟨u0,uN⟩:=hus u (aG hu);have pn:=I.pr p (aG hp);have un:=Fn.inv u0;have hi:i<W:=by have:=(aF.mp hp).1;rw [I.pl] at this;exact this
  have uz:(u:Nat)<2^4000:=bA (jS N0 (lO uN ⟨Np*Nc*Nm,by unfold lP;ac_rfl⟩)) (aO G.sz (aP Dd Dd));have zp:mZ 4000 p:=by
   have:=iF I (CL I hi) (aK (show B<=1000000000000 by omega) kN)
   rwa [gF hp] at this
  refine ⟨_,rfl,_,rfl,?_⟩;refine pY (by show 2<=64;decide) λq4 H4 hq4 e4 s4=>?_;refine oP (gR.of (((rpp.same S2).same s').same s4)) (gR.of (dE (f:=(1,(u:Int))) e4)) pn.low un.low zp ⟨by show (1:Nat)<2^4000;exact Nat.one_lt_two_pow Dd,by show (u:Int).natAbs<2^4000;exact uz⟩ λq5 H5 hq5 e5 s5=>?_;exact k' _ H5 (s4.trans s5) ⟨p,u,hp,hu,dE e5⟩
 have lz3:zs.length=W:=Oo;refine ⟨_,rfl,MP e3,?_⟩;refine ⟨_,rfl,?_⟩;refine rD O (by simp) (s3 _ _ a0) a4 ?_;refine pY (by show 2<=64;decide) λq4 H4 hq4 e4 s4=>?_;refine FK (s4 _ _ e3) Oo λH5 e5 b5=>?_;have t5:=b5.t (s4 _ _ e3);have S25:aY H2 H5:=aY.thru hD (s3.trans s4) b5;have S5:=S2.trans S25;have pf:∃gs:List Fr,gs.length=W/\aW H5 (gs.map fY) zs/\∀(i:Nat) (g:Fr),gs[i]?=some g->∃p u,ps[i]?=some p/\us[i]?=some u/\g=iV p (1,(u:Int)):=by
  refine ⟨(List.range W).map λi=>iV (ps.getD i (0,1)) (1,(us.getD i 0:Nat)),by rw [aA,aZ],aW.ofRange Oo λi y hy=>?_,λi g hg=>?_⟩
  ·have hi:i<W:=by have:=(aF.mp hy).1;omega
   obtain ⟨p,u,h1,h2,h3⟩:=hr3 i y hy;refine ⟨hi,?_⟩;rw [gF h1,gF h2];exact (h3.same s4).flat t5 (cQ _)
  ·rw [aM] at hg;obtain ⟨j,hj,rfl⟩:=dX.mp hg;have li:=(aF.mp hj).1;rw [aZ] at li;rw [cJ li] at hj;cases hj;obtain ⟨p,hp⟩:∃p,ps[i]?=some p:=⟨_,aB (by rw [I.pl];exact li)⟩;obtain ⟨u,hu⟩:∃u,us[i]?=some u:=⟨_,aB (by rw [ul];exact li)⟩;exact ⟨p,u,hp,hu,by rw [gF hp,gF hu]⟩
 obtain ⟨gs,lg,rg,hg⟩:=pf;have rg5:aW H5 ((gs++[(1,(cu:Int))]).map fY) (zs++[.ref q4]):=by
  rw [bF];exact aW.app rg (aW.cons (dE (f:=(1,(cu:Int))) (t5 _ _ e4)) aW.nil)
 have gn:∀g∈gs++[(1,(cu:Int))],Fn (lP M Ns Nm Np Nc*Nb) B g\/Fn (lP M Ns Nm Np Nc*Nb) 1 g:=λg hgm=>by
  rcases bX.mp hgm with hgm | hgm
  ·obtain ⟨i,hi⟩:=cV.mp hgm;obtain ⟨p,u,h1,h2,rfl⟩:=hg i g hi;obtain ⟨u0,uN⟩:=hus u (aG h2);refine .inl ?_;have:=(I.pr p (aG h1)).mul (Fn.inv u0);rw [Nat.mul_one] at this;refine this.dvd (lO (Nat.mul_dvd_mul_left Np uN) ⟨Nc*Nm,by unfold lP;ac_rfl⟩)
  ·rw [bG.mp hgm];exact .inr ((Fn.inv cu0).dvd (lO cuN (Nat.dvd_mul_right _ _)))
 have gl:∀g∈gs++[(1,(cu:Int))],dA g/\g.2.natAbs ∣ lP M Ns Nm Np Nc*Nb:=λg hgm=>by
  rcases gn g hgm with h | h
  ·exact ⟨h.low,Fn.dn h N0⟩
  ·exact ⟨h.low,Fn.dn h N0⟩
 have gz:∀g∈gs++[(1,(cu:Int))],mZ 4000 g:=λg hgm=>by
  rcases gn g hgm with h | h
  ·exact qL h N0 G.sz (aK (show B<=1000000000000 by omega) (aK kN (aP Dd Dd)))
  ·exact qL h N0 G.sz Nat.one_le_two_pow
 refine ⟨_,rfl,?_⟩;refine pQ e5 (rX.of rg5) N0 G.sz gl λU u0 uN hU=>?_;have uz:U<2^3000:=bA (jS N0 uN) G.sz;refine ⟨_,rfl,D,rfl,⟨_,fN.of e5⟩,?_⟩;have lz5:(zs++[V.ref q4]).length=W+1:=by rw [bE,lz3];rfl
 have lg5:(gs++[((1:Int),(cu:Int))]).length=W+1:=by rw [bE,lg];rfl
 refine gX (λi z _=>∃n,z=.int n/\∀g,(gs++[((1:Int),(cu:Int))])[i]?=some g->(n:Rat)=rv g*(U:Rat)) (λ_ _ _ _ _ h=>h) Oo e5 (λi y H' Q' hy s' k'=>?_) (λD6 fz H6 hD6 e6 s6 hz6 hr6=>?_)
 ·obtain ⟨g,hgi,rgi⟩:=eW rg5 hy;have hgm:=aG hgi;refine ⟨_,rfl,_,rfl,?_⟩;refine vG (gR.of (rgi.same s')) (gl g hgm).1 (gz g hgm) uz (hU g hgm) λn hn=>?_;exact k' _ H' (aY.refl _) ⟨n,rfl,λg' hg'=>by rw [hgi] at hg';cases hg';exact hn⟩
 obtain ⟨ns,rfl,hns⟩:=oV (P:=λi n=>∀g,(gs++[((1:Int),(cu:Int))])[i]?=some g->(n:Rat)=rv g*(U:Rat)) hr6;rw [aA,lz5] at hz6;obtain ⟨fns,cf,rfl⟩:∃fns cf,ns=fns++[cf]:=by
  have ne:ns≠[]:=λz=>by rw [z] at hz6;simp at hz6
  exact ⟨ns.dropLast,ns.getLast ne,(List.dropLast_concat_getLast ne).symm⟩
 have lf:fns.length=W:=by rw [bE,List.length_singleton] at hz6;omega
 have hcf:(cf:Rat)=rv (1,(cu:Int))*(U:Rat):=hns W cf (by rw [cU Oo,lf,Nat.sub_self];rfl) _ (by rw [cU Oo,lg,Nat.sub_self];rfl);have cuz:cu<2^3000:=bA (jS I.pos cuN) I.sz;have hrc:rv (1,(cu:Int))*(cu:Rat)=1:=sW (Fn.inv cu0).low.pos;have FC:aBb W ps us cu fns cf U:=by
  refine ⟨u0,lf,ul,λi f u hf hu=>?_,by rw [hcf];grind,?_,λu hu=>?_,cuz⟩
  ·have li:=(aF.mp hf).1;obtain ⟨g,hgi⟩:∃g,gs[i]?=some g:=⟨_,aB Oo⟩;obtain ⟨p,u',h1,h2,rfl⟩:=hg i g hgi;rw [hu] at h2;cases h2;obtain ⟨up,uNb⟩:=hus u (aG hu);have un:=Fn.inv up;have pn:=I.pr p (aG h1);have e:=hns i f (by rw [cK li];exact hf) _ (by rw [cK Oo];exact hgi);rw [iB pn.low.pos un.low.pos] at e;have hru:rv (1,(u:Int))*(u:Rat)=1:=sW un.low.pos;have hv:dU ps i=rv p:=by unfold dU;rw [gF h1]
   refine ⟨by rw [e,hv];grind,?_⟩;have gm:iV p (1,(u:Int))∈gs++[((1:Int),(cu:Int))]:=bV _ (aG hgi);have e':=hns i f (by rw [cK li];exact hf) _ (by rw [cK Oo];exact hgi);have b22:B<=2^100:=aK (show B<=1048576 by omega) (show 1048576<=2^100 by decide);rcases gn _ gm with h | h
   ·exact bA (xM h.q N0 e') (OX uz b22)
   ·exact bA (xM h.q N0 e') (OX uz Nat.one_le_two_pow)
  ·exact bA (xM (Fn.inv cu0).q cu0 hcf) (OX uz Nat.one_le_two_pow)
  ·exact bA (jS N0 (lO (hus u hu).2 ⟨Np*Nc*Nm,by unfold lP;ac_rfl⟩)) G.sz
 have S6:=S5.trans s6;have wg6:=(wg.same S25).same s6;refine ⟨_,rfl,_,rfl,?_⟩;refine ⟨_,rfl,_,rfl,?_⟩;refine slL (ys:=fns.map V.int) e6 (by rw [bF];exact RB _ _) λq7 H7 hq7 e7 s7=>?_;refine ⟨_,rfl,_,rfl,?_⟩;refine FO (s7 _ _ e6) (v:=.int cf) (by rw [bF];exact RX _ _) ?_;refine GI (wg6.same s7) e7 I FC r4 λa8 bp z8 kb best H8 s8 e8 ebp hbs hbst=>?_;refine lA e8 rfl ?_;have S8:=(S6.trans s7).trans s8;refine ⟨_,rfl,?_⟩;refine sQ (rt.same S8) ?_;rw [hF];refine ⟨_,rfl,_,rfl,?_⟩;refine DF ((wg6.same s7).same s8) ebp hbs w4 r4 λd H9 s9 tb=>?_;have dec:∀c,c∈rise F M->(if c∈rise F M then best c else 1)=best c:=λc hc=>if_pos hc;have tb':MS K H9 d (rise F M) W (λc=>if c∈rise F M then best c else 1):=by
  obtain ⟨kv,t1,t2⟩:=tb;exact ⟨kv,t1,λc hc=>by obtain ⟨v,g1,g2⟩:=t2 c hc;exact ⟨v,g1,by show ML K H9 (rY W (if c∈rise F M then best c else 1)) v;rw [dec c hc];exact g2⟩⟩
 have PL:uZ F W M (λc=>if c∈rise F M then best c else 1):=⟨f1,f4,w4,m5,(λc hc=>by
  by_cases q:c∈rise F M
  ·have hc:(if c∈rise F M then best c else 1)=0:=hc;rw [if_pos q] at hc;rcases hbst c q with ⟨_,h,_⟩ | ⟨v,_,h,_⟩
   ·exact h
   ·omega
  ·have hc:(if c∈rise F M then best c else 1)=0:=hc;rw [if_neg q] at hc;cases hc),r4⟩
 refine FY tb' PL λv H10 s10 rw10=>?_;exact k v _ H10 ((S8.trans s9).trans s10) rw10 PL λc hc=>by show MU F W M (eP ws) mix ps cs c (if c∈rise F M then best c else 1);rw [dec c hc];exact hbst c hc
end
structure SyC(n:Nat)(fs:List Fr):Prop where
 len:fs.length=n
 at_:∀f∈fs,Fn hV 1 f/\0<=f.1
 one:oO (fs.map rv)=1
structure rM(F W M:Nat)(es:List fP):Prop where
 rl:yK F es
 sum:∀e∈es,e.1.sum<=M
 sy:∀e∈es,SyC (1+W) e.2
 few:es.length<=64
 on:∀e∈es,s0 e≠0->e.1.sum<M
theorem SyC.hd{n:Nat}{fs:List Fr}(h:SyC (1+n) fs):∃f r,fs=f::r/\Fn hV 1 f/\0<=f.1/\dU fs 0=rv f/\(0<f.1↔dU fs 0≠0):=by
 cases fs with
 | nil=>have:=h.len;simp at this;omega
 | cons f r =>
  obtain ⟨h1,h2⟩:=h.at_ f (aU ..);refine ⟨f,r,rfl,h1,h2,rfl,?_⟩;have e:dU (f::r) 0=rv f:=rfl;rw [e];constructor
  ·intro hp q;have:=iM h1.low WL (by rw [q,oQ]);rw [this] at hp;exact absurd hp Dd
  ·intro q;refine bY λz=>q ?_;have z1:f.1=0:=Oo;have e2:=sW h1.low.pos;rw [z1] at e2;have h3:=kG h1.low.pos;have:rv f=0:=by grind
   exact this
theorem SyC.qn{n:Nat}{fs:List Fr}(h:SyC n fs)(v:Nat):Qn hV 1 (dU fs v):=by
 by_cases hv:v<fs.length
 ·exact (h.at_ _ (fH (a:=(0,1)) hv)).1.q
 ·rw [SY Oo];exact Qn.zero _ _
theorem HH:5^64<=2^150:=Kk
theorem aBC:hV^15<2^350:=Kk
theorem TL(n:Nat):0<hV^n:=Nat.pow_pos Dd
abbrev qK(Np Nc:Nat):Nat:=Np*Nc*hV^15
structure SD(Np Nc:Nat):Prop where
 p0:0<Np
 p1:Np<=1000000000000000
 c0:0<Nc
 c1:Nc<=1000000000000000
theorem SD.big{Np Nc:Nat}(h:SD Np Nc):0<qK Np Nc/\qK Np Nc<2^500:=by
 refine ⟨mY (mY h.p0 h.c0) (TL _),?_⟩;have h1:qK Np Nc<=1000000000000000*1000000000000000*hV^15:=bO _ (Nat.mul_le_mul h.p1 h.c1);have h2:1000000000000000*1000000000000000*hV^15<2^500:=Kk;omega
theorem yW{Np Nc N B:Nat}{x:Rat}(h:Qn N B x)(d:N ∣ qK Np Nc):Qn (qK Np Nc) B x:=h.dvd d
theorem lF{Np Nc B:Nat}{f:Fr}(ok:SD Np Nc)(h:Fn (qK Np Nc) B f)(hB:B<=2^400):mZ 4000 f :=
 qL h ok.big.1 (aO ok.big.2 (aP Dd Dd)) (aK hB (aP Dd Dd))
theorem MA{Np Nc a:Nat}(h:a<=15):hV^a ∣ qK Np Nc:=lO (Nat.pow_dvd_pow _ h) (Nat.dvd_mul_left _ _)
theorem WU{Np Nc a:Nat}(h:a<=15):Nc*hV^a ∣ qK Np Nc:=by
 obtain ⟨r,hr⟩:=Nat.pow_dvd_pow hV h;exact ⟨Np*r,by unfold qK;rw [hr];ac_rfl⟩
theorem rS{n:Nat}(h:n<=400):(2:Nat)^n<=2^400:=aP Dd h
section
variable{F W M:Nat}{es:List fP}
theorem rM.fl(R:rM F W M es)(f4:F<=4){e:fP}(h:e∈es):Qn (hV^M) (2^150) (bZ F es e.1):=by
 have h1:=R.rl.qn (N:=hV) (λe he=>(R.sy e he).qn 0) f4 es.length (aI _) e.1;rw [cR] at h1;have h2:5^es.length<=5^64:=aP Dd R.few;exact (h1.le (aK h2 HH)).dvd (Nat.pow_dvd_pow _ (R.sum e h))
end
structure DQ(K:PySem.W.Frag)(H:Hp)(kvs:List (List eZ × V))(g:List Nat->Rat):Prop where
 at_:∀d:List Nat,(fM kvs (kT (ci d))=none/\g d=0)\/∃v,fM kvs (kT (ci d))=some v/\yM K H (iC (g d)) v
theorem xP:iC 0=(0,1):=iM (cB _) WL (by rw [eS,oQ])
theorem JC:iC 1=(1,1):=iM (cB _) QF (by rw [eS,rO])
theorem DQ.t{K:PySem.W.Frag}{H H':Hp}{kvs:List (List eZ × V)}{g:List Nat->Rat}(s:dB H H')(h:DQ K H kvs g):DQ K H' kvs g:=⟨λd=>by
 rcases h.at_ d with h | ⟨v,h1,h2⟩
 ·exact .inl h
 ·exact .inr ⟨v,h1,h2.t s⟩⟩
theorem DQ.eq{K:PySem.W.Frag}{H:Hp}{kvs:List (List eZ × V)}{g g':List Nat->Rat}(h:DQ K H kvs g)(e:∀d,g' d=g d):DQ K H kvs g':=by
 have:g'=g:=funext e;rw [this];exact h
theorem DQ.get{K:PySem.W.Frag}{H:Hp}{kvs:List (List eZ × V)}{g:List Nat->Rat}(h:DQ K H kvs g)(d:List Nat){z:V}(hz:gR K H (0,1) z):gR K H (iC (g d)) ((fM kvs (kT (ci d))).getD z):=by
 rcases h.at_ d with ⟨h1,h2⟩ | ⟨v,h1,h2⟩
 ·rw [h1,h2,xP];exact hz
 ·rw [h1];exact h2.v
theorem DQ.val{K:PySem.W.Frag}{H:Hp}{kvs:List (List eZ × V)}{g:List Nat->Rat}(h:DQ K H kvs g){d:List Nat}(hd:g d≠0):∃v,fM kvs (kT (ci d))=some v/\yM K H (iC (g d)) v:=by
 rcases h.at_ d with ⟨_,h2⟩ | h
 ·exact absurd h2 hd
 ·exact h
theorem DQ.put{K:PySem.W.Frag}{H:Hp}{kvs:List (List eZ × V)}{g:List Nat->Rat}(h:DQ K H kvs g){c:List Nat}{v:V}{y:Rat}(r:yM K H (iC (g c+y)) v):DQ K H (iR kvs (kT (ci c)) v) λd=>g d+if c=d then y else 0:=⟨λd=>by
 rw [hZ];by_cases e:c=d
 ·subst e;rw [if_pos rfl,if_pos rfl];exact .inr ⟨v,rfl,r⟩
 ·rw [if_neg λq=>e (kM (mV q)).symm,if_neg e,show g d+0=g d by grind];exact h.at_ d⟩
section
variable{F W M:Nat}{es:List fP}{s:List Fr}
theorem rM.aq(R:rM F W M es)(f4:F<=4)(hs:∀f∈s,Fn hV 1 f){e:fP}(h:e∈es):Qn (hV^(M+M)) (2^150) (bZ F es e.1*wq s e.1):=by
 have h1:=(R.fl f4 h).mul (MY (M:=M) hs (R.sum e h));rw [Nat.mul_one,<-Nat.pow_add] at h1;exact h1
theorem rM.aqs(R:rM F W M es)(f4:F<=4)(hs:∀f∈s,Fn hV 1 f){e:fP}(h:e∈es)(v:Nat):Qn (hV^(M+M+1)) (2^150) (bZ F es e.1*wq s e.1*dU e.2 v):=by
 have h1:=(R.aq f4 hs h).mul ((R.sy e h).qn v);rw [Nat.mul_one,<-Nat.pow_succ] at h1;exact h1
theorem Qn.sumL{α:Type}{N B:Nat}{f:α->Rat}:∀{l:List α},(∀a∈l,Qn N B (f a))->Qn N (l.length*B) (dW l f)
 | [],_=>by rw [jA];exact Qn.zero _ _
 | a::l,h=>by
  rw [fW,bU,Nat.add_mul,Nat.one_mul,Nat.add_comm];exact (h a (aU ..)).add (Qn.sumL λx hx=>h x (aR _ hx))
theorem rM.said(R:rM F W M es)(f4:F<=4)(hs:∀f∈s,Fn hV 1 f)(w:Nat):Qn (hV^(M+M+1)) (2^160) (kF F es (wq s) w):=by
 have h:=Qn.sumL (l:=es) λe he=>R.aqs f4 hs he (1+w);refine h.le ?_;have h1:es.length*2^150<=64*2^150:=bO _ R.few;exact aK h1 Kk
theorem rM.spent(R:rM F W M es)(f4:F<=4)(hs:∀f∈s,Fn hV 1 f){cs:Nat->Rat}{Nc:Nat}(hc:∀e∈es,s0 e≠0->Qn Nc 1000 (cs e.1.sum)):Qn (Nc*hV^(M+M+1)) (2^170) (wS F es (wq s) cs):=by
 have h:=Qn.sumL (l:=es) (N:=Nc*hV^(M+M+1)) (B:=1000*2^150) (f:=λe=>cs e.1.sum*(bZ F es e.1*wq s e.1*s0 e)) λe he=>by
  by_cases z:s0 e=0
  ·rw [z,show cs e.1.sum*(bZ F es e.1*wq s e.1*0)=0 by grind];exact Qn.zero _ _
  ·exact (hc e he z).mul (R.aqs f4 hs he 0)
 refine h.le ?_;have h1:es.length*(1000*2^150)<=64*(1000*2^150):=bO _ R.few;exact aK h1 Kk
end
theorem ZM{α:Type}{l:List α}{g:α->Fr}{f:α->Rat}(h:∀a∈l,dA (g a)/\rv (g a)=f a):kW (l.map g)=iC (dW l f):=by
 have hl:∀x∈l.map g,dA x:=λx hx=>by
  obtain ⟨a,ha,rfl⟩:=aV.mp hx;exact (h a ha).1
 refine iM (sG _ hl) (cB _) ?_;rw [BC _ hl,eS,List.map_map];exact congrArg oO (eB λa ha=>(h a ha).2)
theorem CK(x y:Rat):qJ (iC x) (iC y)=iC (x+y):=iM (xW (cB _) (cB _)) (cB _) (by rw [BD (cB _).pos (cB _).pos,eS,eS,eS])
theorem ZP(x y:Rat):qJ (iC x) (GW (iC y))=iC (x-y):=iM (xW (cB _) (EA (cB _))) (cB _) (by
 rw [BD (cB _).pos (EA (cB _)).pos,show GW (iC y)=(-(iC y).1,(iC y).2) from rfl,ZV,eS,eS,eS,Rat.sub_eq_add_neg])
structure CoC(Nc:Nat)(es:List fP)(cs:List Fr):Prop where
 c0:0<Nc
 c1:Nc<=1000000000000000
 at_:∀f∈cs,Fn Nc 1000 f
 len:∀e∈es,s0 e≠0->e.1.sum<cs.length
theorem CoC.qn{Nc:Nat}{es:List fP}{cs:List Fr}(h:CoC Nc es cs){e:fP}(he:e∈es)(hs:s0 e≠0):Qn Nc 1000 (dU cs e.1.sum):=(h.at_ _ (fH (a:=(0,1)) (h.len e he hs))).q
structure MK(W:Nat)(ws:List (Str × List Fr)):Prop where
 w:ws.length=W
 sh:∀x∈ws,∀f∈x.2,Fn hV 1 f
 b:∀x∈ws,BOk 10 x.2
theorem oT{ws:List (Str × List Fr)}{i:Nat}{x:Str × List Fr}(h:ws[i]?=some x):fX (eP ws) i=wq x.2:=by
 funext c
 unfold fX;rw [gF (show (eP ws)[i]?=some x.2 by rw [aM,h];rfl)]
def MX(F W:Nat)(es:List fP)(ss:List (List Fr))(w:Nat):Fr:=iC (1-kF F es (fX ss w) w)
structure CQ(Nc W M:Nat)(es:List fP)(mix cs:List Fr):Prop where
 ml:mix.length=W
 mx:∀f∈mix,Fn hV 1 f
 co:CoC Nc es cs
section
variable{F W M Nc:Nat}{es:List fP}{fs:List Str}{ws:List (Str × List Fr)}{mix cs:List Fr}
theorem rM.wr(R:rM F W M es)(f4:F<=4)(T:MK W ws){w:Nat}(hw:w<W):Qn (hV^(M+M+1)) (2^161) (1-kF F es (fX (eP ws) w) w):=by
 obtain ⟨x,hx⟩:∃x,ws[w]?=some x:=⟨_,aB (by rw [T.w];exact hw)⟩;rw [oT hx];have h:=(Qn.one' (hV^(M+M+1))).sub (R.said f4 (T.sh x (aG hx)) w);exact h.le Kk
theorem rM.ms(R:rM F W M es)(f4:F<=4)(T:MK W ws)(A:CQ Nc W M es mix cs){w:Nat}(hw:w<W):Qn (Nc*hV^(M+M+2)) (2^170) (dU mix w*wS F es (fX (eP ws) w) (dU cs)):=by
 obtain ⟨x,hx⟩:∃x,ws[w]?=some x:=⟨_,aB (by rw [T.w];exact hw)⟩;rw [oT hx];have h:=(A.mx _ (fH (a:=(0,1)) (show w<mix.length by rw [A.ml];exact hw))).q.mul (R.spent f4 (T.sh x (aG hx)) λe he hs=>A.co.qn he hs);rw [Nat.one_mul] at h;exact h.dvd ⟨1,by rw [Nat.mul_one,Nat.pow_succ (n:=hV) (m:=M+M+1)];ac_rfl⟩
theorem rM.costn(R:rM F W M es)(f4:F<=4)(w4:W<=4)(T:MK W ws)(A:CQ Nc W M es mix cs):Qn (Nc*hV^(M+M+2)) (2^172) (rJ F W es (fX (eP ws)) (dU mix) (dU cs)):=by
 have h:=Qn.sumR (n:=W) λw hw=>R.ms f4 T A hw;refine h.le ?_;have h1:W*2^170<=4*2^170:=bO _ w4;exact aK h1 Kk
end
abbrev KY:Stmt:=(top 56)
theorem tQ:cA ["_law_trial_here","_law_aim_here","_law_rule","_law_ways","_law_flows","_law_right","_law_spending","_law_counts_here","_law_says","_law_way","_law_share","_law_paid","_law_face","_law_later","_law_more_here"] ["_law_trial_here","_law_aim_here","_law_rule"] (aX KY):=⟨rfl,rfl,rfl,Kk,rfl,Kk,Kk⟩
theorem aAw(f g:Fr):lw (f.1*g.2-g.1*f.2) (f.2*g.2)=qJ f (GW g):=by
 show _=lw (f.1*g.2 + -g.1*f.2) (f.2*g.2);rw [Int.neg_mul,Int.sub_eq_add_neg]
section
theorem oQ9(F:jT K "_law_less" "_law_less" sQ9 f fd)(T:lB K mg c)(FQ7:gM dP P w K mg base 1 "_law_frac" ["_law_n","_law_d"] jC):dY P w K mg base dP 2 f fd ["_law_one","_law_other"] (pO K):=by
 refine F.oky cQ9 λvs H Q E h=>?_;unfold pO at h;obtain ⟨x,y,f,g,rfl,h1,h2,l1,l2,z1,z2,q⟩:=h;refine ⟨rfl,λcdv A outer s hr=>?_⟩;obtain ⟨p1,rfl,e1⟩:=h1;obtain ⟨p2,rfl,e2⟩:=h2;refine ⟨_,(bD (cI (bS FQ7 (hr.mono Dd) (aJ (bQ rT (bQ dO (bT bL (aD 0) aL (λ_ _=>rfl)) (bT bL (aD 1) aL (λ_ _=>rfl))) (bQ dO (bT bL (aD 1) aL (λ_ _=>rfl)) (bT bL (aD 0) aL (λ_ _=>rfl)))) (aJ (bQ dO (bT bL (aD 0) aL (λ_ _=>rfl)) (bT bL (aD 1) aL (λ_ _=>rfl))) aE))))),?_⟩;refine ⟨_,rfl,?_⟩;refine nG e1 rfl ?_;refine ⟨_,rfl,?_⟩;refine nG e2 rfl ?_;refine ⟨_,_,rfl,rfl,nJ z1.1 z2.2,?_⟩;refine ⟨_,rfl,?_⟩;refine nG e2 rfl ?_;refine ⟨_,rfl,?_⟩;refine nG e1 rfl ?_;refine ⟨_,_,rfl,rfl,nJ z2.1 z1.2,_,_,rfl,rfl,?_⟩;refine ⟨_,rfl,?_⟩;refine nG e1 rfl ?_;refine ⟨_,rfl,?_⟩;refine nG e2 rfl ?_;refine ⟨_,_,rfl,rfl,nJ z1.2 z2.2,?_⟩;refine iL (Int.mul_pos l1.pos l2.pos) (jK (wQ z1.2 z2.2)) ?_;rw [aAw];exact q
end
@[irreducible] def mK(K:PySem.W.Frag):Sp:=λvs H Q _=>∃(t r av:V) (es:List fP) (F W M A Nc:Nat) (fs:List Str) (ws:List (Str × List Fr)) (bs mix cs:List Fr),vs=[t,av,r]/\cC H (qN fs ws) t/\MM K H es r/\cC H (lM A bs mix cs) av/\rM F W M es/\2<=F/\F<=4/\M<=6/\W<=4/\fs.length=F/\(∀x∈ws,x.2.length=F)/\MK W ws/\CQ Nc W M es mix cs/\∀a L ys sv H',aY H H'->H' a=some (.tup [.ref L,sv])->H' L=some (.lst ys)->aW H' (((List.range W).map (MX F W es (eP ws))).map fY) ys->cC H' (fY (iC (rJ F W es (fX (eP ws)) (dU mix) (dU cs)))) sv->Q (.ref a) H'
theorem AX{K:PySem.W.Frag}{H:Hp}{Q:VK}{E:XK}{t r av:V}{es:List fP}{F W M A Nc:Nat}{fs:List Str}{ws:List (Str × List Fr)}{bs mix cs:List Fr}(h1:cC H (qN fs ws) t)(h2:MM K H es r)(h0:cC H (lM A bs mix cs) av)(h3:rM F W M es)(h4:2<=F)(h5:F<=4)(h6:M<=6)(h7:W<=4)(h70:fs.length=F)(h71:∀x∈ws,x.2.length=F)(h8:MK W ws)(h9:CQ Nc W M es mix cs)
  (k:∀a L ys sv H',aY H H'->H' a=some (.tup [.ref L,sv])->H' L=some (.lst ys)->aW H' (((List.range W).map (MX F W es (eP ws))).map fY) ys->cC H' (fY (iC (rJ F W es (fX (eP ws)) (dU mix) (dU cs)))) sv->Q (.ref a) H'):mK K [t,av,r] H Q E:=by
 unfold mK;exact ⟨t,r,av,es,F,W,M,A,Nc,fs,ws,bs,mix,cs,rfl,h1,h2,h0,h3,h4,h5,h6,h7,h70,h71,h8,h9,k⟩
section
variable{F W M Nc:Nat}{es:List fP}{ws:List (Str × List Fr)}{mix cs:List Fr}
def BG(F:Nat)(es:List fP)(q:Nat->List Nat->Rat)(w:Nat)(e:fP):Rat:=bZ F es e.1*q w e.1*dU e.2 (1+w)
def CT(F:Nat)(es:List fP)(q:Nat->List Nat->Rat)(mix cs:Nat->Rat)(e:fP)(w:Nat):Rat:=mix w*(bZ F es e.1*q w e.1*s0 e*cs e.1.sum)
theorem RE(q:Nat->List Nat->Rat)(mix cs:Nat->Rat):rJ F W es q mix cs=dW es λe=>cN W (CT F es q mix cs e):=by
 unfold rJ wS;rw [qO];refine dC λw _=>?_;rw [<-sJ];exact fG λe _=>by unfold CT;grind
end
def HM(H:Hp)(zs:List V)(W:Nat)(g:Nat->Rat):Prop:=zs.length=W/\∀w,w<W->∃v,zs[w]?=some v/\cC H (fY (iC (g w))) v
theorem HM.t{H H':Hp}{zs:List V}{W:Nat}{g:Nat->Rat}(s:dB H H')(h:HM H zs W g):HM H' zs W g:=⟨h.1,λw hw=>by
 obtain ⟨v,h1,h2⟩:=h.2 w hw;exact ⟨v,h1,h2.flat s (cQ _)⟩⟩
theorem HM.eq{H:Hp}{zs:List V}{W:Nat}{g g':Nat->Rat}(h:HM H zs W g)(e:∀w,w<W->g' w=g w):HM H zs W g':=⟨h.1,λw hw=>by rw [e w hw];exact h.2 w hw⟩
theorem HM.set{H:Hp}{zs:List V}{W j:Nat}{g:Nat->Rat}{y:Rat}{v:V}(h:HM H zs W g)(r:cC H (fY (iC y)) v):HM H (zs.set j v) W λw=>if w=j then y else g w:=⟨by rw [List.length_set];exact h.1,λw hw=>by
 by_cases q:w=j
 ·subst q;refine ⟨v,by rw [List.getElem?_set_self (by rw [h.1];exact hw)],?_⟩;show cC H (fY (iC (if w=w then y else g w))) v;rw [if_pos rfl];exact r
 ·obtain ⟨u,h1,h2⟩:=h.2 w hw;refine ⟨u,by rw [List.getElem?_set_ne (λz=>q z.symm)];exact h1,?_⟩;show cC H (fY (iC (if w=j then y else g w))) u;rw [if_neg q];exact h2⟩
section
variable{F W M Nc:Nat}{es:List fP}{ws:List (Str × List Fr)}{mix cs:List Fr}
theorem rM.rgq(R:rM F W M es)(f4:F<=4)(T:MK W ws){e:fP}(h:e∈es){w:Nat}(hw:w<W):Qn (hV^(M+M+1)) (2^150) (BG F es (fX (eP ws)) w e):=by
 obtain ⟨x,hx⟩:∃x,ws[w]?=some x:=⟨_,aB (by rw [T.w];exact hw)⟩;unfold BG;rw [oT hx];exact R.aqs f4 (T.sh x (aG hx)) h _
theorem rM.coq(R:rM F W M es)(f4:F<=4)(T:MK W ws)(A:CQ Nc W M es mix cs){e:fP}(h:e∈es){w:Nat}(hw:w<W):Qn (Nc*hV^(M+M+2)) (2^160) (CT F es (fX (eP ws)) (dU mix) (dU cs) e w):=by
 obtain ⟨x,hx⟩:∃x,ws[w]?=some x:=⟨_,aB (by rw [T.w];exact hw)⟩;unfold CT;rw [oT hx];by_cases z:s0 e=0
 ·rw [z,show dU mix w*(bZ F es e.1*wq x.2 e.1*0*dU cs e.1.sum)=0 by grind];exact Qn.zero _ _
 ·have h1:=(R.aqs f4 (T.sh x (aG hx)) h 0).mul (A.co.qn h z);have h2:=(A.mx _ (fH (a:=(0,1)) (show w<mix.length by rw [A.ml];exact hw))).q.mul h1;rw [Nat.one_mul] at h2;refine (h2.le (show 2^150*1000<=2^160 by decide +kernel)).dvd ⟨1,?_⟩;rw [Nat.mul_one,Nat.pow_succ (n:=hV) (m:=M+M+1)];ac_rfl
theorem rM.rsq(R:rM F W M es)(f4:F<=4)(T:MK W ws)(i:Nat){w:Nat}(hw:w<W):Qn (hV^(M+M+1)) (2^160) (dW (es.take i) (BG F es (fX (eP ws)) w)):=by
 have h:=Qn.sumL (l:=es.take i) λe he=>R.rgq f4 T (List.mem_of_mem_take he) hw;refine h.le ?_;have h0:(es.take i).length<=64:=by rw [cL];have:=R.few;omega
 have h1:(es.take i).length*2^150<=64*2^150:=bO _ h0;exact aK h1 Kk
theorem rM.csq(R:rM F W M es)(f4:F<=4)(w4:W<=4)(T:MK W ws)(A:CQ Nc W M es mix cs)(i:Nat){e:fP}(he:e∈es){j:Nat}(hj:j<=W):Qn (Nc*hV^(M+M+2)) (2^175) (dW (es.take i) (λe=>cN W (CT F es (fX (eP ws)) (dU mix) (dU cs) e))+cN j (CT F es (fX (eP ws)) (dU mix) (dU cs) e)):=by
 have hb:∀(e:fP),e∈es->∀j,j<=W->Qn (Nc*hV^(M+M+2)) (4*2^160) (cN j (CT F es (fX (eP ws)) (dU mix) (dU cs) e)):=λe he j hj=>by
  have h:=Qn.sumR (n:=j) λw hw=>R.coq f4 T A he (show w<W by omega);exact h.le (bO _ Oo)
 have h:=Qn.sumL (l:=es.take i) λe he=>hb e (List.mem_of_mem_take he) W (aI _);refine (h.add (hb e he j hj)).le ?_;have h0:(es.take i).length<=64:=by rw [cL];have:=R.few;omega
 have h1:(es.take i).length*(4*2^160)<=64*(4*2^160):=bO _ h0;have h2:(64*(4*2^160)+4*2^160:Nat)<=2^175:=Kk;exact aK (Nat.add_le_add_right h1 _) h2
end
section
theorem aDo(F:jT K "_law_of_rule" "_law_of_rule" KY f fd)(T:lB K mg c)(FQ18:gM dP P w K mg base 2 "_law_times" ["_law_one","_law_other"] (jQ K))(FQ12:gM dP P w K mg base 2 "_law_plus" ["_law_one","_law_other"] (mJ K))(FQ9:gM dP P w K mg base 2 "_law_less" ["_law_one","_law_other"] (pO K))(FQ21:gM dP P w K mg base 3 "_law_weight" ["_law_trial_here","_law_way","_law_counts_here"] kI)(FQ10:gM dP P w K mg base 1 "_law_more" ["_law_counts_here","_law_face"] fI):dY P w K mg base dP 4 f fd ["_law_trial_here","_law_aim_here","_law_rule"] (mK K):=by
 refine F.oky tQ λvs H Q E h=>?_;unfold mK at h;obtain ⟨t,r,av,es,F,W,M,A,Nc,fs,ws,bs,mix,cs,rfl,rt,rr,ra,RO,f2,f4,m6,w4,lf,lx2,TQ,AQ,k⟩:=h;refine ⟨rfl,λcdv A outer s hr=>?_⟩;obtain ⟨a,xs,rfl,ha,lx,rxs⟩:=rr;have RL:=RO.rl;have few:=RO.few;obtain ⟨e0,er,ees,ez0⟩:=RL.root;obtain ⟨at_,af,aw,xf,xw,rfl,hat,hf,hw,rf,rw'⟩:=wO rt;obtain ⟨aa,xb,xm,xc,rfl,haa,rxb,rxm,rxc⟩:=uW ra;obtain ⟨am,vm,rfl,ham,rvm⟩:=mP rxm;obtain ⟨ac,vc,rfl,hac,rvc⟩:=mP rxc;refine ⟨_,(aH (bK (i:=3) tQ.nd rfl (Or.inl rfl) (SU rfl rfl T.b_list rfl T.b_range (aJ (eG gB (by rfl) T.b_len Kk (aJ (bT bL (aD 0) aL (λ_ _=>rfl)) aE)) aE)))
  (aH (bK (i:=4) tQ.nd rfl (Or.inl rfl) (NE hr.u1 (bQ vY (dS (aJ aL aE)) (eG gB (by rfl) T.b_len Kk (aJ (bT bL (aD 0) aL (λ_ _=>rfl)) aE))) (dS (aJ aL (aJ aL aE)))))
  (aH (gZ (i:=5) (dI.of (psc:=aX KY) (N:=["_law_trial_here","_law_aim_here","_law_rule","_law_ways","_law_flows","_law_right","_law_spending","_law_counts_here","_law_says","_law_way","_law_share","_law_paid","_law_face","_law_later","_law_more_here"]) (N':=["_law_way"]) (js:=[]) Kk rfl rfl rfl) tQ.nd rfl rfl (fD (aD 3)) (λ_ _ _ _=>dR) (λ_ _ _ _=>(dS (aJ aL (aJ aL aE)))))
  (aH (bK (i:=6) tQ.nd rfl (Or.inl rfl) (dS (aJ aL (aJ aL aE))))
  (aH (fF PassesOwn.never rfl (ZI (aD 2)) (wM rfl (iY (dF (i:=7) tQ.nd rfl (Or.inl rfl)) (iY (dF (i:=8) tQ.nd rfl (Or.inl rfl)) sC))) (aH (fF PassesOwn.never rfl (fD (aD 3)) (dF (i:=9) tQ.nd rfl (Or.inl rfl)) (aH (bK (i:=10) tQ.nd rfl (Or.inl rfl) (bS FQ18 (hr.mono Dd) (aJ (gE hr.u1 (aD 4) (aD 7)) (aJ (bS FQ21 (hr.mono Dd) (aJ (aD 0) (aJ (aD 9) (aJ (aD 7) aE)))) aE))))
  (aH (MW (bS FQ12 (hr.mono Dd) (aJ (bT bL (aD 5) (aD 9) (λ_ _=>rfl)) (aJ (bS FQ18 (hr.mono Dd) (aJ (aD 10) (aJ (bT bL (aD 8) (bQ dQ aL (aD 9)) (λ_ _=>rfl)) aE))) aE))) (ZK (aD 5) (aD 9) OC))
  (bD (kE (eQ yZ (bT bL (bT bL (aD 8) aL (λ_ _=>rfl)) aL (λ_ _=>rfl)) aL (nomark _)) (aH (bK (i:=11) tQ.nd rfl (Or.inl rfl) (bS FQ18 (hr.mono Dd) (aJ (bS FQ18 (hr.mono Dd) (aJ (aD 10) (aJ (bT bL (aD 8) aL (λ_ _=>rfl)) aE))) (aJ (bT bL (bT bL (aD 1) aL (λ_ _=>rfl)) (eG (qZ K rfl) (by rfl) T.b_sum Kk (aJ (aD 7) aE)) (λ_ _=>rfl)) aE))))
  (bD (bK (i:=6) tQ.nd rfl (Or.inl rfl) (bS FQ12 (hr.mono Dd) (aJ (aD 6) (aJ (bS FQ18 (hr.mono Dd) (aJ (bT bL (bT bL (aD 1) aL (λ_ _=>rfl)) (aD 9) (λ_ _=>rfl)) (aJ (aD 11) aE))) aE)))))) gC)))))
  (bD (kE (eQ yZ (bT bL (bT bL (aD 8) aL (λ_ _=>rfl)) aL (λ_ _=>rfl)) aL (nomark _)) (bD (fF PassesOwn.never rfl (cP rfl T.b_range (aJ (eG gB (by rfl) T.b_len Kk (aJ (aD 7) aE)) aE)) (dF (i:=12) tQ.nd rfl (Or.inl rfl)) (aH (bK (i:=13) tQ.nd rfl (Or.inl rfl) (bS FQ10 (hr.mono Dd) (aJ (aD 7) (aJ (aD 12) aE))))
  (aH (bK (i:=14) tQ.nd rfl (Or.inl rfl) (bS FQ18 (hr.mono Dd) (aJ (gE hr.u1 (aD 4) (aD 7)) (aJ (bT bL (aD 8) aL (λ_ _=>rfl)) aE))))
  (bD (iE hr.u1 (aD 4) (aD 13) (bS FQ12 (hr.mono Dd) (aJ (SV hr.u1 (aD 4) (aD 13) (dS (aJ aL (aJ aL aE)))) (aJ (aD 14) aE))))))))) gC))))
  (bD (cI (dS (aJ (fR (dI.of (psc:=aX KY) (N:=["_law_trial_here","_law_aim_here","_law_rule","_law_ways","_law_flows","_law_right","_law_spending","_law_counts_here","_law_says","_law_way","_law_share","_law_paid","_law_face","_law_later","_law_more_here"]) (N':=["_law_one"]) (js:=[]) Kk rfl rfl rfl) (fD (aD 5)) (λ_ _ _ _=>dR) (λ_ _ _ _=>(bS FQ9 (hr.mono Dd) (aJ (dS (aJ aL (aJ aL aE))) (aJ (aD 0) aE))))) (aJ (aD 6) aE)))))))))),?_⟩
 refine ⟨_,rfl,?_⟩;refine lA hat rfl ?_;refine KZ hw ?_;rw [eJ rw',TQ.w];refine rlr Oo λL3 H1 hL3 e1 s1=>?_;have ok:SD 1 Nc:=⟨Dd,Dd,AQ.co.c0,AQ.co.c1⟩;intro p hp;have s2:=aY.upd (o:=.dT []) hp;have e2:(upd H1 p (.dT [])) p=some (.dT []):=bM;generalize upd H1 p (.dT [])=H2 at s2 e2;refine pY (by show 1<=64;decide) λq3 H3 hq3 e3 s3=>?_;refine ⟨_,rfl,?_⟩;have s03:=(s1.trans s2).trans s3;refine lA (s03 _ _ hat) rfl ?_;refine KZ (s03 _ _ hf) ?_;rw [eJ rf,lf];refine WJ (k:=F) e3 f2 Oo λq4 H4 s4 e4=>?_;refine pY (by show 2<=64;decide) λq5 H5 hq5 e5 s5=>?_;have e4':H5 q4=some (.tup ((ci (List.replicate F 0)).map V.int)):=by rw [s5 _ _ e4,eE,List.map_replicate];rfl
 have S35:=(s3.trans s4).trans s5;refine aCK (c:=ci (List.replicate F 0)) e4' (S35 _ _ e2) λH6 e6 b6=>?_;have hp0:H p=none:=s1.free hp;have S6:aY H H6:=aY.thru hp0 ((s1.trans s2).trans S35) b6;have t6:dB H5 H6:=aQ.tT b6 (S35 _ _ e2);have D6:DQ K H6 [(kT (ci (List.replicate F 0)),V.ref q5)] (bZ F (es.take 0)):=⟨λd=>by
  rw [List.take_zero,qW];by_cases q:d=List.replicate F 0
  ·subst q;rw [if_pos rfl,JC];exact .inr ⟨_,by simp [fM],.inl (dE (f:=(1,1)) (t6 _ _ e5))⟩
  ·rw [if_neg q];refine .inl ⟨?_,rfl⟩;have:¬kT (ci d)=kT (ci (List.replicate F 0)):=λz=>q (kM (mV z));have e:=hZ (κ:=List eZ) [] (kT (ci (List.replicate F 0))) (kT (ci d)) (V.ref q5);rw [if_neg this] at e;exact e⟩
 have nL3p:L3≠p:=λz=>by rw [<-z,e1] at hp;cases hp
 have eL6:=b6.at nL3p (S35 _ _ (s2 _ _ e1));have hL30:H L3=none:=hL3;clear t6 e4' e5 e4 e3 hq5 s5 s4 s3 S35 s03 b6 hq3;refine ⟨_,rfl,L3,rfl,⟨_,fN.of eL6⟩,?_⟩;have lwl:((List.range W).map λ(i:Nat)=>V.int (i:Int)).length=W:=by rw [aA,aZ]
 refine gX (λj y H'=>cC H' (fY (0,1)) y) (λj y H1 H2 s h=>h.flat s (cQ _)) Oo eL6 (λj x H' Q' hx s' k'=>?_) (λR zs0 H7 hR eR s7 hz hr7=>?_)
 ·refine pY (by show 2<=64;decide) λq8 H8 hq8 e8 s8=>?_;exact k' _ H8 s8 (dE (f:=(0,1)) e8)
 refine pY (by show 2<=64;decide) λq8 H8 hq8 e8 s8=>?_;rw [lwl] at hz;have hR0:H R=none:=S6.free hR;have nRp:R≠p:=λz=>by rw [z,e6] at hR;cases hR
 have nRL:R≠L3:=λz=>by rw [z,eL6] at hR;cases hR
 have s68:=s7.trans s8;have S8:=S6.trans s68;have RG8:HM H8 zs0 W λw=>dW (es.take 0) (BG F es (fX (eP ws)) w):=⟨hz,λw hw=>by
  have hl:w<zs0.length:=Oo;refine ⟨zs0[w],aB hl,?_⟩;show cC H8 (fY (iC (dW (es.take 0) (BG F es (fX (eP ws)) w)))) _;rw [List.take_zero,jA,xP];exact (hr7 w _ (aB hl)).same s8⟩
 refine ⟨_,rfl,a,rfl,⟨_,jH.of (S8 _ _ ha)⟩,?_⟩;refine WT (xs:=xs) (λi σ H'=>∃(o7 o8 o9 o10 o11 o12 o13 o14:Option V) (kvs:List (List eZ × V)) (zs:List V) (sv:V),σ=[some (.ref at_),some (.ref aa),some (.ref a),some (.ref L3),some (.ref p),some (.ref R),some sv,o7,o8,o9,o10,o11,o12,o13,o14]/\aY H H'/\H' L3=some (.lst ((List.range W).map λ(i:Nat)=>V.int (i:Int)))/\H' p=some (.dT kvs)/\kvs.length<=1+4*i/\DQ K H' kvs (bZ F (es.take i))/\H' R=some (.lst zs)/\HM H' zs W (λw=>dW (es.take i) (BG F es (fX (eP ws)) w))/\cC H' (fY (iC (dW (es.take i) λe=>cN W (CT F es (fX (eP ws)) (dU mix) (dU cs) e)))) sv)
  ⟨_,_,_,_,_,_,_,_,_,zs0,_,rfl,S8,s68 _ _ eL6,s68 _ _ e6,by simp,D6.t s68.t,s8 _ _ eR,RG8,by rw [List.take_zero,jA,xP];exact dE (f:=(0,1)) e8⟩ (λi σ H' _ q=>?_) ?_ ?_
 ·obtain ⟨_,_,_,_,_,_,_,_,_,_,_,_,s',_⟩:=q;exact jH.of (s' _ _ ha)
 ·rintro i x σ H9 hx ⟨o7,o8,o9,o10,o11,o12,o13,o14,kvs,zs,sv,rfl,S9,eL9,e9,l9,D9,eR9,RG9,rs9⟩;obtain ⟨e,he,re⟩:=rxs i x hx;have hi:i<es.length:=(aF.mp he).1;have hee:=aG he;have hel:=RL.len e hee;have fat:=RL.at he;have fpos:=RL.posf hee;have hsM:=RO.sum e hee;have tk:=eN he;obtain ⟨f0,fr,ef,fn0,nn0,v0,on0⟩:=(RO.sy e hee).hd;have es0:s0 e=rv f0:=v0;obtain ⟨b,cu,z,rfl,hb,hcu,sa,sx,rfl,hsa,rsx⟩:=re.t S9.t;obtain ⟨va,hva,fva⟩:=D9.val (d:=e.1) (by rw [fat];grind);rw [fat] at fva;obtain ⟨y0,hy0,ry0⟩:=rsx.get (i:=0) (f:=f0) (by rw [ef];rfl);obtain ⟨b0,rfl,_⟩:=ry0.v;have qA:Qn (hV^M) (2^150) (bZ F es e.1):=RO.fl f4 hee;have nA:Fn (qK 1 Nc) (2^150) (iC (bZ F es e.1)):=(yW qA (MA Oo)).fq;have n0:Fn (qK 1 Nc) 1 f0:=Qn.f fn0.low (yW fn0.q (by have:=MA (Np:=1) (Nc:=Nc) (a:=1) Dd;rwa [Nat.pow_one] at this));refine ⟨b,[.ref cu,.ref sa],rfl,jH.of hb,rfl,.ref cu,[.ref sa],rfl,.ref sa,[],rfl,rfl,?_⟩;refine ⟨_,rfl,L3,rfl,⟨_,fN.of eL9⟩,?_⟩;refine jY (xs:=(List.range W).map λ(i:Nat)=>V.int (i:Int)) (λj σ H'=>∃(o9 o10 o11:Option V) (zs:List V) (sv:V),σ=[some (.ref at_),some (.ref aa),some (.ref a),some (.ref L3),some (.ref p),some (.ref R),some sv,some (.ref cu),some (.ref sa),o9,o10,o11,o12,o13,o14]/\aQ R H9 H'/\H' R=some (.lst zs)/\HM H' zs W (λw=>if w<j then dW (es.take (i+1)) (BG F es (fX (eP ws)) w) else dW (es.take i) (BG F es (fX (eP ws)) w))/\cC H' (fY (iC ((dW (es.take i) λe=>cN W (CT F es (fX (eP ws)) (dU mix) (dU cs) e))+cN j (CT F es (fX (eP ws)) (dU mix) (dU cs) e)))) sv)
   ⟨_,_,_,zs,sv,rfl,(aY.refl _).but,eR9,RG9.eq λw _=>by rw [if_neg (Nat.not_lt_zero _)],by rw [iA,Rat.add_zero];exact rs9⟩ (λj σ H' _ q=>?_) ?_ ?_
  ·obtain ⟨_,_,_,_,_,_,b',_⟩:=q;exact fN.of (b'.at (Ne.symm nRL) eL9)
  ·rintro j y σ H10 hy ⟨o9',o10',o11',zs10,sv10,rfl,b10,eR10,RG10,rs10⟩;have hj:j<W:=by have:=(aF.mp hy).1;omega
   have ey:y=V.int (j:Int):=by
    rw [aM,cJ hj] at hy;simpa using hy.symm
   subst ey;obtain ⟨wx,hwx⟩:∃x,ws[j]?=some x:=⟨_,aB (by rw [TQ.w];exact hj)⟩;have hwm:=aG hwx;have hsh:=TQ.sh wx hwm;have t10:dB H9 H10:=b10.t eR9;have t010:=S9.t.trans t10;have ep10:=b10.at (Ne.symm nRp) e9;have hcu10:=t10 _ _ hcu;refine ⟨_,rfl,_,rfl,?_⟩;refine LX ep10 (c:=ci e.1) (by rw [eE];exact hcu10) hva ?_;refine ⟨_,rfl,_,rfl,_,rfl,?_⟩;have hN:hV^e.1.sum<2^3000:=bA (aP Dd (show e.1.sum<=15 by omega)) (aO aBC (aP Dd Dd));refine sL (N:=hV) (rt.flat t010 (nR fs ws)) hwx (nM hcu10) (by rw [lx2 wx hwm,hel]) hsh Dd hN Oo Oo λxw H11 s11 rw11=>?_;have lw':dA (jP (wx.2.zip e.1)):=nQ _ λz hz=>(hsh z.1 (List.of_mem_zip (a:=z.1) (b:=z.2) hz).1).low;have nW:Fn (qK 1 Nc) 1 (jP (wx.2.zip e.1)):=Qn.f lw' (yW (MY (M:=M) hsh hsM) (MA Oo));refine fJ ((fva.t t10).same s11).v (gR.of rw11) (cB _) lw' (lF ok nA (rS Dd)) (lF ok nW Nat.one_le_two_pow) λq12 H12 hq12 e12 s12=>?_;have em:iV (iC (bZ F es e.1)) (jP (wx.2.zip e.1))=iC (bZ F es e.1*fX (eP ws) j e.1):=iM (gI (cB _) lw') (cB _) (by rw [iB (cB _).pos lw'.pos,eS,eS,oT hwx];rfl);rw [em] at e12;have s1012:=s11.trans s12;have eR12:=s1012 _ _ eR10;obtain ⟨vr,hvr,rvr⟩:=RG10.2 j hj;replace rvr:cC H10 (fY (iC (if j<j then dW (es.take (i+1)) (BG F es (fX (eP ws)) j) else dW (es.take i) (BG F es (fX (eP ws)) j)))) vr:=rvr;rw [if_neg (bI _)] at rvr;have lsx:sx.length=1+W:=by rw [rsx.len,(RO.sy e hee).len]
   obtain ⟨g,hg⟩:∃g,e.2[1+j]?=some g:=⟨_,aB (by rw [(RO.sy e hee).len];omega)⟩;obtain ⟨vg,hvg,rvg⟩:=rsx.get hg;have gn:=((RO.sy e hee).at_ g (aG hg)).1;have t912:=t10.trans s1012.t;refine ⟨_,rfl,_,rfl,?_⟩;refine FO eR12 (cT hvr) ?_;refine ⟨_,rfl,_,rfl,_,rfl,_,_,rfl,rfl,?_⟩;refine lA (t912 _ _ hsa) (by rw [show (1:Int)+(j:Int)=((1+j:Nat):Int) by omega];exact cT hvg) ?_;have qAq:Qn (hV^(M+M)) (2^150) (bZ F es e.1*fX (eP ws) j e.1):=by rw [oT hwx];exact RO.aq f4 hsh hee
   have nAq:Fn (qK 1 Nc) (2^150) (iC (bZ F es e.1*fX (eP ws) j e.1)):=(yW qAq (MA Oo)).fq;have ng:Fn (qK 1 Nc) 1 g:=Qn.f gn.low (yW gn.q (by have:=MA (Np:=1) (Nc:=Nc) (a:=1) Dd;rwa [Nat.pow_one] at this));refine fJ (gR.of (dE e12)) ((rvg.t t912).v) (cB _) gn.low (lF ok nAq (rS Dd)) (lF ok ng Nat.one_le_two_pow) λq13 H13 hq13 e13 s13=>?_;have em2:iV (iC (bZ F es e.1*fX (eP ws) j e.1)) g=iC (BG F es (fX (eP ws)) j e):=iM (gI (cB _) gn.low) (cB _) (by rw [iB (cB _).pos gn.low.pos,eS,eS];unfold BG;rw [AM hg]);rw [em2] at e13;have n3:Fn (qK 1 Nc) (2^160) (iC (dW (es.take i) (BG F es (fX (eP ws)) j))):=(yW (RO.rsq f4 TQ i hj) (MA Oo)).fq;have n4:Fn (qK 1 Nc) (2^150) (iC (BG F es (fX (eP ws)) j e)):=(yW (RO.rgq f4 TQ hee hj) (MA Oo)).fq;refine mI (gR.of ((rvr.same s1012).same s13)) (gR.of (dE e13)) (cB _) (cB _) (lF ok n3 (rS Dd)) (lF ok n4 (rS Dd)) λq14 H14 hq14 e14 s14=>?_;rw [CK,<-uC,<-tk] at e14;have s1214:=s13.trans s14;have lz10:=RG10.1;refine ⟨_,rfl,_,rfl,?_⟩;refine stG (s1214 _ _ eR12) (j:=j) (by unfold MQ;rw [if_pos Oo,if_pos Oo];rfl) λH15 e15 b15=>?_;have t15:=b15.t (s1214 _ _ eR12);have t1015:dB H10 H15:=(s1012.trans s1214).t.trans t15;have t915:=t10.trans t1015;have b915:aQ R H9 H15:=(b10.trans (s1012.trans s1214).but).trans b15;have RG15:HM H15 (zs10.set j (.ref q14)) W λw=>if w<j+1 then dW (es.take (i+1)) (BG F es (fX (eP ws)) w) else dW (es.take i) (BG F es (fX (eP ws)) w):=by
    refine (HM.set (j:=j) (RG10.t t1015) (cC.flat t15 (cQ _) (dE e14))).eq λw hw=>?_;by_cases q:w=j
    ·subst q;rw [if_pos rfl,if_pos Oo]
    ·rw [if_neg q];by_cases q2:w<j
     ·rw [if_pos q2,if_pos Oo]
     ·rw [if_neg q2,if_neg Oo]
   have rs15:=rs10.flat t1015 (cQ _);have e12':H15 q12=some (.tup _):=t15 _ _ (s1214 _ _ e12);refine ⟨_,rfl,?_⟩;refine lA (t915 _ _ hsa) (cT (j:=0) hy0) ?_;obtain ⟨_,eb0,hb0⟩:=(ry0.t t915).v;cases eb0;refine nG hb0 rfl ?_;refine ⟨_,_,rfl,rfl,_,rfl,?_⟩;refine uQ (λon=>?_) (λon=>?_)
   ·have sne:s0 e≠0:=on0.mp (by simpa using on);have hlc:=AQ.co.len e hee sne;obtain ⟨gc,hgc⟩:∃g,cs[e.1.sum]?=some g:=⟨_,aB hlc⟩;obtain ⟨vgc,hvgc,rvgc⟩:=eI rvc hgc;have gcn:=AQ.co.at_ gc (aG hgc);obtain ⟨gm,hgm⟩:∃g,mix[j]?=some g:=⟨_,aB (by rw [AQ.ml];exact hj)⟩;obtain ⟨vgm,hvgm,rvgm⟩:=eI rvm hgm;have gmn:=AQ.mx gm (aG hgm);have t015:=S9.t.trans t915;refine ⟨_,rfl,_,rfl,?_⟩;refine lA (t915 _ _ hsa) (cT (j:=0) hy0) ?_;refine fJ (gR.of (dE e12')) ((ry0.t t915).v) (cB _) fn0.low (lF ok nAq (rS Dd)) (lF ok n0 Nat.one_le_two_pow) λq16 H16 hq16 e16 s16=>?_;have em3:iV (iC (bZ F es e.1*fX (eP ws) j e.1)) f0=iC (bZ F es e.1*fX (eP ws) j e.1*s0 e):=iM (gI (cB _) fn0.low) (cB _) (by rw [iB (cB _).pos fn0.low.pos,eS,eS,es0]);rw [em3] at e16;have qAqs:Qn (hV^(M+M+1)) (2^150) (bZ F es e.1*fX (eP ws) j e.1*s0 e):=by rw [oT hwx];exact RO.aqs f4 hsh hee 0
    have nAqs:Fn (qK 1 Nc) (2^150) (iC (bZ F es e.1*fX (eP ws) j e.1*s0 e)):=(yW qAqs (MA Oo)).fq;have ngc:Fn (qK 1 Nc) 1000 gc:=Qn.f gcn.low (yW gcn.q ⟨hV^15,by unfold qK;rw [Nat.one_mul]⟩);have ngm:Fn (qK 1 Nc) 1 gm:=Qn.f gmn.low (yW gmn.q (by have:=MA (Np:=1) (Nc:=Nc) (a:=1) Dd;rwa [Nat.pow_one] at this));refine ⟨_,rfl,?_⟩;refine lA (s16 _ _ (t015 _ _ haa)) rfl ?_;refine ⟨_,rfl,?_⟩;refine rsT (ns:=ci e.1) (by rw [eE];exact jH.of (s16 _ _ (t915 _ _ hcu))) ?_;rw [uU];refine lA (s16 _ _ (t015 _ _ hac)) (cT hvgc) ?_;refine fJ (gR.of (dE e16)) (gR.of ((rvgc.flat t015 (cQ _)).same s16)) (cB _) gcn.low (lF ok nAqs (rS Dd)) (lF ok ngc Kk) λq17 H17 hq17 e17 s17=>?_;have em4:iV (iC (bZ F es e.1*fX (eP ws) j e.1*s0 e)) gc=iC (bZ F es e.1*fX (eP ws) j e.1*s0 e*dU cs e.1.sum):=iM (gI (cB _) gcn.low) (cB _) (by rw [iB (cB _).pos gcn.low.pos,eS,eS,AM hgc]);rw [em4] at e17;have qP:Qn (Nc*hV^(M+M+1)) (2^160) (bZ F es e.1*fX (eP ws) j e.1*s0 e*dU cs e.1.sum):=by
     have h:=qAqs.mul (AQ.co.qn hee sne);exact (h.le (show 2^150*1000<=2^160 by decide +kernel)).dvd ⟨1,by rw [Nat.mul_one];ac_rfl⟩
    have nP:Fn (qK 1 Nc) (2^160) (iC (bZ F es e.1*fX (eP ws) j e.1*s0 e*dU cs e.1.sum)):=(yW qP (WU Oo)).fq;have s1517:=s16.trans s17;refine ⟨_,rfl,_,rfl,?_⟩;refine lA (s1517 _ _ (t015 _ _ haa)) rfl ?_;refine ⟨_,rfl,?_⟩;refine lA (s1517 _ _ (t015 _ _ ham)) (cT hvgm) ?_;refine ⟨_,rfl,?_⟩;refine fJ (gR.of ((rvgm.flat t015 (cQ _)).same s1517)) (gR.of (dE e17)) gmn.low (cB _) (lF ok ngm Nat.one_le_two_pow) (lF ok nP (rS Dd)) λq18 H18 hq18 e18 s18=>?_;have em5:iV gm (iC (bZ F es e.1*fX (eP ws) j e.1*s0 e*dU cs e.1.sum))=iC (CT F es (fX (eP ws)) (dU mix) (dU cs) e j):=iM (gI gmn.low (cB _)) (cB _) (by rw [iB gmn.low.pos (cB _).pos,eS,eS];unfold CT;rw [AM hgm]);rw [em5] at e18;have n5:Fn (qK 1 Nc) (2^175) (iC ((dW (es.take i) λe=>cN W (CT F es (fX (eP ws)) (dU mix) (dU cs) e))+cN j (CT F es (fX (eP ws)) (dU mix) (dU cs) e))):=(yW (RO.csq f4 w4 TQ AQ i hee Oo) (WU Oo)).fq;have n6:Fn (qK 1 Nc) (2^160) (iC (CT F es (fX (eP ws)) (dU mix) (dU cs) e j)):=(yW (RO.coq f4 TQ AQ hee hj) (WU Oo)).fq;refine mI (gR.of ((rs15.same s1517).same s18)) (gR.of (dE e18)) (cB _) (cB _) (lF ok n5 (rS Dd)) (lF ok n6 (rS Dd)) λq19 H19 hq19 e19 s19=>?_;rw [CK] at e19;have S1519:=(s1517.trans s18).trans s19;refine ⟨_,_,_,zs10.set j (.ref q14),_,rfl,b915.trans S1519.but,S1519 _ _ e15,RG15.t S1519.t,?_⟩;rw [eO,<-Rat.add_assoc];exact dE e19
   ·have sz:s0 e=0:=bY λz=>absurd (on0.mpr z) (by simpa using on);refine ⟨_,_,_,zs10.set j (.ref q14),_,rfl,b915,e15,RG15,?_⟩;have ez:CT F es (fX (eP ws)) (dU mix) (dU cs) e j=0:=by unfold CT;rw [sz];grind
    rw [eO,ez,Rat.add_zero];exact rs15
  ·rintro σ H10 ⟨o9',o10',o11',zs10,sv10,rfl,b10,eR10,RG10,rs10⟩;rw [lwl] at RG10 rs10;rw [<-uC (es.take i) e (λe=>cN W (CT F es (fX (eP ws)) (dU mix) (dU cs) e)),<-tk] at rs10;have RG10':HM H10 zs10 W λw=>dW (es.take (i+1)) (BG F es (fX (eP ws)) w):=RG10.eq λw hw=>by rw [if_pos hw]
   have t10:dB H9 H10:=b10.t eR9;have ep10:=b10.at (Ne.symm nRp) e9;have eL10:=b10.at (Ne.symm nRL) eL9;have S10:aY H H10:=aY.thru hR0 S9 b10;have D10:=D9.t t10;refine ⟨_,rfl,?_⟩;refine lA (t10 _ _ hsa) (cT (j:=0) hy0) ?_;obtain ⟨_,eb0,hb0⟩:=(ry0.t t10).v;cases eb0;refine nG hb0 rfl ?_;refine ⟨_,_,rfl,rfl,_,rfl,?_⟩;refine uQ (λon=>?_) (λon=>?_)
   ·have sne:s0 e≠0:=on0.mp (by simpa using on);have qy:Qn (hV^(e.1.sum+1)) (2^150) (bZ F es e.1*s0 e):=by
     have h1:=RL.qn (N:=hV) (λe he=>(RO.sy e he).qn 0) f4 es.length (aI _) e.1;rw [cR] at h1;have h:=(h1.le (aK (aP Dd few) HH)).mul ((RO.sy e hee).qn 0);rw [Nat.mul_one,<-Nat.pow_succ] at h;exact h
    refine ⟨_,rfl,?_⟩;refine KZ (t10 _ _ hcu) ?_;rw [aA,hel];refine ⟨_,rfl,Oo,Oo,?_⟩;rw [Int.toNat_natCast];refine fZ (λj σ H'=>∃(o12 o13 o14:Option V) (kvs:List (List eZ × V)),σ=[some (.ref at_),some (.ref aa),some (.ref a),some (.ref L3),some (.ref p),some (.ref R),some sv10,some (.ref cu),some (.ref sa),o9',o10',o11',o12,o13,o14]/\aQ p H10 H'/\H' p=some (.dT kvs)/\kvs.length<=1+4*i+j/\DQ K H' kvs λd=>bZ F (es.take i) d+bZ F es e.1*s0 e*cN j λf=>if bP e.1 f=d then 1 else 0)
     ⟨_,_,_,kvs,rfl,(aY.refl _).but,ep10,Oo,D10.eq λd=>by rw [iA];grind⟩ ?_ ?_
    ·rintro j σ H11 hj ⟨o12',o13',o14',kv11,rfl,b11,e11,l11,D11⟩;rw [show (0:Int)+(j:Int)=(j:Int) by omega];have t11:dB H10 H11:=aQ.tT b11 ep10;have t911:=t10.trans t11;refine ⟨_,rfl,_,rfl,?_⟩;refine jB (i:=j) (nM (t911 _ _ hcu)) Oo Oo λv12 H12 s12 r12=>?_;obtain ⟨cm,rfl,hcm⟩:=gG r12;have t912:=t911.trans s12.t;have e12:=s12 _ _ e11;have D12:=D11.t s12.t;generalize hm:bP e.1 j=m at hcm;have msum:m.sum=e.1.sum+1:=by rw [<-hm];exact gY Oo
     have mks:m∈es.map (·.1):=by rw [<-hm];exact RL.fwd e hee sne j hj
     have mM:m.sum<=M:=by obtain ⟨e',he',rfl⟩:=aV.mp mks;exact RO.sum e' he'
     have own:bZ F (es.take i) e.1+bZ F es e.1*s0 e*(cN j λf=>if bP e.1 f=e.1 then 1 else 0)=bZ F es e.1:=by
      rw [fat,dC (g:=λ_=>0) λf hf=>?_,mD]
      ·grind
      ·rw [if_neg λq=>?_];have:=gY (c:=e.1) (j:=f) Oo;rw [q] at this;omega
     obtain ⟨va',hva',fva'⟩:=D12.val (d:=e.1) (by show bZ F (es.take i) e.1+_≠0;rw [own];grind);rw [own] at fva';refine ⟨_,rfl,_,rfl,?_⟩;refine LX e12 (c:=ci e.1) (by rw [eE];exact t912 _ _ hcu) hva' ?_;refine ⟨_,rfl,?_⟩;refine lA (t912 _ _ hsa) (cT (j:=0) hy0) ?_;refine fJ fva'.v ((ry0.t t912).v) (cB _) fn0.low (lF ok nA (rS Dd)) (lF ok n0 Nat.one_le_two_pow) λq13 H13 hq13 e13 s13=>?_;have em:iV (iC (bZ F es e.1)) f0=iC (bZ F es e.1*s0 e):=iM (gI (cB _) fn0.low) (cB _) (by rw [iB (cB _).pos fn0.low.pos,eS,eS,es0]);rw [em] at e13;have hcm13:=s13 _ _ hcm;have e13p:=s13 _ _ e12;refine ⟨_,rfl,p,rfl,.inr ⟨kv11,.inl e13p⟩,_,rfl,?_⟩;refine pY (by show 2<=64;decide) λq14 H14 hq14 e14 s14=>?_;have D14:=D12.t (s13.trans s14).t;have hnz:gR K H14 (0,1) (.ref q14):=gR.of (dE (f:=(0,1)) e14);have hg:=D14.get m hnz;have qX:Qn (hV^m.sum) (2^155) (bZ F (es.take i) m+bZ F es e.1*s0 e*cN j λf=>if bP e.1 f=m then 1 else 0):=by
      have h1:=RL.qn (N:=hV) (λe he=>(RO.sy e he).qn 0) f4 i Oo m;have h1':=h1.le (aK (aP Dd (show i<=64 by omega)) HH);have h3:Qn 1 4 (cN j λf=>if bP e.1 f=m then 1 else 0):=by
       have:=Qn.sumR (N:=1) (B:=1) (n:=j) (f:=λf=>if bP e.1 f=m then 1 else 0) λf _=>by
        split
        ·exact Qn.one' _
        ·exact Qn.zero _ _
       exact this.le Oo
      have h4:=qy.mul h3;rw [Nat.mul_one,<-msum] at h4;refine (h1'.add h4).le ?_;have:(2:Nat)^150+2^150*4<=2^155:=Kk;exact this
     generalize hX:bZ F (es.take i) m+bZ F es e.1*s0 e*(cN j λf=>if bP e.1 f=m then 1 else 0)=Xm at qX hg;have nX:Fn (qK 1 Nc) (2^155) (iC Xm):=(yW qX (MA Oo)).fq;have nY:Fn (qK 1 Nc) (2^150) (iC (bZ F es e.1*s0 e)):=(yW qy (MA Oo)).fq;refine ⟨_,oK.ct (c:=ci m) (s14 _ _ e13p) (by rw [eE];exact s14 _ _ hcm13),?_⟩;refine ⟨_,rfl,?_⟩;refine mI hg (gR.of (dE (s14 _ _ e13))) (cB _) (cB _) (lF ok nX (rS Dd)) (lF ok nY (rS Dd)) λq15 H15 hq15 e15 s15=>?_;rw [CK] at e15;refine ⟨_,rfl,_,rfl,?_⟩;have e15p:=s15 _ _ (s14 _ _ e13p);refine QU e15p (c:=ci m) (by rw [eE];exact s15 _ _ (s14 _ _ hcm13)) Oo λH16 e16 b16=>?_;have t16:dB H15 H16:=aQ.tT b16 e15p;refine ⟨_,_,_,_,rfl,(b11.trans (((s12.trans s13).trans s14).trans s15).but).trans b16,e16,?_,?_⟩
     ·have:=eX kv11 (kT (ci m)) (V.ref q15);omega
     ·have D15:=D14.t s15.t;have D16:=(D15.put (c:=m) (v:=.ref q15) (y:=bZ F es e.1*s0 e) (by rw [hX];exact .inl (dE e15))).t t16;refine D16.eq λd=>?_;rw [eO,hm];by_cases q:m=d
      ·rw [if_pos q,if_pos q];grind
      ·rw [if_neg q,if_neg q];grind
    ·rintro σ H11 ⟨o12',o13',o14',kv11,rfl,b11,e11,l11,D11⟩;have t11:dB H10 H11:=aQ.tT b11 ep10;refine ⟨_,_,_,_,_,_,_,_,kv11,zs10,sv10,rfl,aY.thru hp0 S10 b11,b11.at nL3p eL10,e11,Oo,D11.eq λd=>?_,b11.at nRp eR10,RG10'.t t11,rs10.flat t11 (cQ _)⟩;rw [tk,kL,fat];rfl
   ·have sz:s0 e=0:=bY λz=>absurd (on0.mpr z) (by simpa using on);refine ⟨_,_,_,_,_,_,_,_,kvs,zs10,sv10,rfl,S10,eL10,ep10,Oo,D10.eq λd=>?_,eR10,RG10',rs10⟩;rw [tk,kL,sz];grind
 ·rintro σ H9 ⟨o7,o8,o9,o10,o11,o12,o13,o14,kvs,zs,sv,rfl,S9,eL9,e9,l9,D9,eR9,RG9,rs9⟩;rw [lx,cR] at RG9 rs9;rw [<-RE] at rs9;have lz:=RG9.1;refine ⟨_,rfl,R,rfl,⟨_,fN.of eR9⟩,?_⟩;refine gX (λj y H'=>j<W/\cC H' (fY (MX F W es (eP ws) j)) y) (λj y H1 H2 s ⟨h0,h⟩=>⟨h0,h.flat s (cQ _)⟩) Oo eR9 (λj x H' Q' hx s' k'=>?_) (λD ys H10 hD eD s10 hy hr10=>?_)
  ·have hj:j<W:=by have:=(aF.mp hx).1;omega
   obtain ⟨v,hv,rv'⟩:=RG9.2 j hj;rw [hx] at hv;cases hv;refine pY (by show 2<=64;decide) λq10 H10 hq10 e10 s10=>?_;refine ⟨_,rfl,?_⟩;have n1:Fn (qK 1 Nc) (2^160) (iC (dW es (BG F es (fX (eP ws)) j))):=by
    have:=RO.rsq f4 TQ es.length hj;rw [cR] at this;exact (yW this (MA Oo)).fq
   refine GD (gR.of (dE (f:=(1,1)) e10)) (gR.of ((rv'.same s').same s10)) QF (cB _) (lF ok (Fn.one _) Nat.one_le_two_pow) (lF ok n1 (rS Dd)) λq11 H11 hq11 e11 s11=>?_;have ew:qJ (1,1) (GW (iC (dW es (BG F es (fX (eP ws)) j))))=MX F W es (eP ws) j:=by
    unfold MX;rw [<-JC,ZP];rfl
   rw [ew] at e11;exact k' _ H11 (s10.trans s11) ⟨hj,dE e11⟩
  ·refine ⟨_,rfl,?_⟩;refine pY (by show 2<=64;decide) λq11 H11 hq11 e11 s11=>?_;have ry:aW H10 (((List.range W).map (MX F W es (eP ws))).map fY) ys:=aW.ofRange Oo hr10;exact k q11 D ys sv H11 ((S9.trans s10).trans s11) e11 (s11 _ _ eD) (ry.same s11) ((rs9.same s10).same s11)
end
abbrev OL:Stmt:=(top 57)
theorem aAW:cA ["_law_trial_here","_law_aim_here","_law_rule","_law_prices","_law_wrongs","_law_spending"] ["_law_trial_here","_law_aim_here","_law_rule","_law_prices"] (aX OL):=⟨rfl,rfl,rfl,Kk,rfl,Kk,Kk⟩
@[irreducible] def mH(K:PySem.W.Frag):Sp:=λvs H Q _=>∃(t r av pv:V) (es:List fP) (F W M A Np Nc:Nat) (fs:List Str) (ws:List (Str × List Fr)) (bs mix cs ps:List Fr),vs=[t,av,r,pv]/\cC H (qN fs ws) t/\MM K H es r/\cC H (lM A bs mix cs) av/\cC H (pE ps) pv/\rM F W M es/\2<=F/\F<=4/\M<=6/\W<=4/\fs.length=F/\(∀x∈ws,x.2.length=F)/\MK W ws/\CQ Nc W M es mix cs/\0<Np/\Np<=1000000000000000/\ps.length=W/\(∀f∈ps,Fn Np 1000 f)/\∀v H',aY H H'->cC H' (fY (iC (xA F W es (fX (eP ws)) (dU mix) (dU ps) (dU cs)))) v->Q v H'
theorem AW{K:PySem.W.Frag}{t r av pv:V}(h1:cC H (qN fs ws) t)(h2:MM K H es r)(h0:cC H (lM A bs mix cs) av)(h00:cC H (pE ps) pv)(h3:rM F W M es)(h4:2<=F)(h5:F<=4)(h6:M<=6)(h7:W<=4)(h70:fs.length=F)(h71:∀x∈ws,x.2.length=F)(h8:MK W ws)(h9:CQ Nc W M es mix cs)(h10:0<Np)(h11:Np<=1000000000000000)(h12:ps.length=W)(h13:∀f∈ps,Fn Np 1000 f)(k:∀v H',aY H H'->cC H' (fY (iC (xA F W es (fX (eP ws)) (dU mix) (dU ps) (dU cs)))) v->Q v H'):mH K [t,av,r,pv] H Q E:=by
 unfold mH;exact ⟨t,r,av,pv,es,F,W,M,A,Np,Nc,fs,ws,bs,mix,cs,ps,rfl,h1,h2,h0,h00,h3,h4,h5,h6,h7,h70,h71,h8,h9,h10,h11,h12,h13,k⟩
section
variable{F W M Np Nc:Nat}{es:List fP}{ws:List (Str × List Fr)}{mix cs ps:List Fr}
theorem rM.pw(R:rM F W M es)(f4:F<=4)(m6:M<=6)(T:MK W ws)(pl:ps.length=W)(pn:∀f∈ps,Fn Np 1000 f){w:Nat}(hw:w<W):Qn (qK Np Nc) (2^171) (dU ps w*(1-kF F es (fX (eP ws) w) w)):=by
 have h:=(pn _ (fH (a:=(0,1)) (show w<ps.length by omega))).q.mul (R.wr f4 T hw);refine yW (h.le Kk) ?_;obtain ⟨r,hr⟩:=Nat.pow_dvd_pow hV (show M+M+1<=15 by omega);exact ⟨Nc*r,by unfold qK;rw [hr];ac_rfl⟩
end
section
theorem aDm(F:jT K "_law_priced" "_law_priced" OL f fd)(T:lB K mg c)(FQ11:gM dP P w K mg base 4 "_law_of_rule" ["_law_trial_here","_law_aim_here","_law_rule"] (mK K))(FQ12:gM dP P w K mg base 2 "_law_plus" ["_law_one","_law_other"] (mJ K))(FQ18:gM dP P w K mg base 2 "_law_times" ["_law_one","_law_other"] (jQ K))(FQ19:gM dP P w K mg base 3 "_law_total" ["_law_some_here"] (lV K)):dY P w K mg base dP 5 f fd ["_law_trial_here","_law_aim_here","_law_rule","_law_prices"] (mH K):=by
 refine F.oky aAW λvs H Q E h=>?_;unfold mH at h;obtain ⟨t,r,av,pv,es,F,W,M,A,Np,Nc,fs,ws,bs,mix,cs,ps,rfl,rt,rr,ra,rp,RO,f2,f4,m6,w4,lf,lx2,TQ,AQ,p0,p1,pl,pn,k⟩:=h;refine ⟨rfl,λcdv A outer s hr=>?_⟩;have ok:SD Np Nc:=⟨p0,p1,AQ.co.c0,AQ.co.c1⟩;have big3:qK Np Nc<2^3000:=aO ok.big.2 (aP Dd Dd);obtain ⟨ap,vp,rfl,hap,rvp⟩:=mP rp;refine ⟨_,(aH (MW (bS FQ11 (hr.mono Dd) (aJ (aD 0) (aJ (aD 1) (aJ (aD 2) aE)))) (wM rfl (iY (dF (i:=4) aAW.nd rfl (Or.inr rfl)) (iY (dF (i:=5) aAW.nd rfl (Or.inl rfl)) sC))))
  (bD (cI (bS FQ12 (hr.mono Dd) (aJ (aD 5) (aJ (bS FQ19 (hr.mono Dd) (aJ (fR (dI.of (psc:=aX OL) (N:=["_law_trial_here","_law_aim_here","_law_rule","_law_prices","_law_wrongs","_law_spending"]) (N':=["_law_way","_law_prices","_law_wrongs"]) (js:=[3,4]) Kk rfl rfl rfl) (cP rfl T.b_range (aJ (eG gB (by rfl) T.b_len Kk (aJ (aD 4) aE)) aE)) (λ_ _ _ _=>dR) (λ_ _ _ _=>(bS FQ18 (hr.mono Dd) (aJ (bT (iS K) (aD 1) (aD 0) (λ_ _=>rfl)) (aJ (bT (iS K) (aD 2) (aD 0) (λ_ _=>rfl)) aE))))) aE)) aE)))))),?_⟩
 refine ⟨_,rfl,_,rfl,_,rfl,?_⟩;refine AX rt rr ra RO f2 f4 m6 w4 lf lx2 TQ AQ λa1 L ys sv H1 s1 e1 eL rL rs=>?_;have ly:ys.length=W:=by rw [rL.len,aA,aA,aZ]
 refine ⟨a1,[.ref L,sv],rfl,jH.of e1,rfl,.ref L,[sv],rfl,sv,[],rfl,rfl,?_⟩;refine ⟨_,rfl,?_⟩;refine ⟨_,rfl,?_⟩;refine OP eL ?_;rw [ly];refine ⟨_,rfl,Oo,Oo,?_⟩;rw [Int.toNat_natCast];refine gW (λi y H'=>i<W/\cC H' (fY (iC (dU ps i*(1-kF F es (fX (eP ws) i) i)))) y) (λi y H1 H2 s ⟨h1,h2⟩=>⟨h1,h2.flat s (cQ _)⟩) Oo (λi H' Q' hi s' k'=>?_) (λD us H2 hD e2 s2 hy hr2=>?_)
 ·have hi:i<W:=Oo;obtain ⟨g,hg⟩:∃g,ps[i]?=some g:=⟨_,aB Oo⟩;obtain ⟨vg,hvg,rvg⟩:=eI rvp hg;have gn:=pn g (aG hg);obtain ⟨vw,hvw,rvw⟩:=eI rL (show ((List.range W).map (MX F W es (eP ws)))[i]?=some (MX F W es (eP ws) i) by rw [aM,cJ hi];rfl);rw [Int.zero_add];refine ⟨_,rfl,_,rfl,?_⟩;refine lA ((s1.trans s') _ _ hap) (cT hvg) ?_;refine ⟨_,rfl,_,rfl,?_⟩;refine FO (s' _ _ eL) (cT hvw) ?_;have n1:Fn (qK Np Nc) 1000 g:=Qn.f gn.low (yW gn.q ⟨Nc*hV^15,by unfold qK;rw [Nat.mul_assoc]⟩);have n2:Fn (qK Np Nc) (2^161) (MX F W es (eP ws) i):=(yW (RO.wr f4 TQ hi) (MA Oo)).fq;refine fJ (gR.of ((rvg.same s1).same s')) (gR.of (rvw.same s')) gn.low (cB _) (lF ok n1 Kk) (lF ok n2 (rS Dd)) λq3 H3 hq3 e3 s3=>?_;have em:iV g (MX F W es (eP ws) i)=iC (dU ps i*(1-kF F es (fX (eP ws) i) i)):=iM (gI gn.low (cB _)) (cB _) (by unfold MX;rw [iB gn.low.pos (cB _).pos,eS,eS,AM hg]);rw [em] at e3;exact k' _ H3 s3 ⟨hi,dE e3⟩
 have r2:aW H2 (((List.range W).map λi=>iC (dU ps i*(1-kF F es (fX (eP ws) i) i))).map fY) us:=aW.ofRange Oo hr2;have fl:∀f∈(List.range W).map (λi=>iC (dU ps i*(1-kF F es (fX (eP ws) i) i))),Fn (qK Np Nc) (2^171) f:=λf hf=>by
  obtain ⟨i,hi,rfl⟩:=aV.mp hf;exact (RO.pw f4 m6 TQ pl pn (bR.mp hi)).fq
 refine nC e2 (rX.of r2) (yB fl ok.big.1 big3 (by rw [aA,aZ];omega) (aP Dd Dd)) λv H3 s3 r3=>?_;rw [ZM (f:=λi=>dU ps i*(1-kF F es (fX (eP ws) i) i)) λe _=>⟨cB _,eS _⟩] at r3;have n5:Fn (qK Np Nc) (2^172) (iC (rJ F W es (fX (eP ws)) (dU mix) (dU cs))):=(yW (RO.costn f4 w4 TQ AQ) (WU Oo)).fq;have n6:Fn (qK Np Nc) (W*2^171) (iC (cN W λi=>dU ps i*(1-kF F es (fX (eP ws) i) i))):=(Qn.sumR (n:=W) λw hw=>RO.pw (Nc:=Nc) f4 m6 TQ pl pn hw).fq;refine mI (gR.of ((rs.same s2).same s3)) (gR.of r3) (cB _) (cB _) (lF ok n5 (rS Dd)) (lF ok n6 (aK (bO _ w4) Kk)) λq4 H4 hq4 e4 s4=>?_;rw [show dW (List.range W) (λi=>dU ps i*(1-kF F es (fX (eP ws) i) i))=cN W λi=>dU ps i*(1-kF F es (fX (eP ws) i) i) from rfl,CK] at e4;exact k _ H4 (((s1.trans s2).trans s3).trans s4) (dE e4)
end
end Kw
namespace L2
open PySem PySem.Spec PySem.W PyProof.Rows HT
abbrev QJ(k:List Int):PyData:=.tuple [.int (k.headD 0),cD k.tail]
theorem aB0{H:Hp}{k:List Int}{v:V}(h:cC H (QJ k) v):∃a d,v=.ref a/\H a=some (.tup [.int (k.headD 0),.ref d])/\H d=some (.tup (k.tail.map V.int))/\cC H (cD k.tail) (.ref d):=by
 unfold cC at h;obtain ⟨a,xs,rfl,h1,h2⟩:=h;unfold aW at h2;obtain ⟨x,xs',rfl,h3,h4⟩:=h2;unfold aW at h4;obtain ⟨y,ys',rfl,h5,h6⟩:=h4;unfold aW at h6;cases (show ys'=[] from h6);cases (show x=V.int (k.headD 0) from h3);obtain ⟨d,rfl,hd⟩:=RU h5;exact ⟨a,d,rfl,h1,hd,h5⟩
def HS(h:Heap)(v:Value)(k:List Int):Prop:=∃b d t its,v=.ref b/\IsTup h b #[.int (k.headD 0) t,.ref d]/\IsTup h d (List.toArray its)/\IntsAre its k.tail/\(∃as,Reads h (.ref d) (cD k.tail) as)/\k≠[]
theorem HD{h:Heap}:∀{vs:List Value}{kz:List (List Int)}{i:Nat},Paired (HS h) vs kz->i<vs.length->HS h (vs.getD i Value.none) (kz.getD i [])
 | _,_,_,.nil,hi=>by simp at hi
 | _,_,0,.cons t r,hi=>t
 | v::vs,c::cs,i+1,.cons t r,hi=>by
  have:=HD (i:=i) r (by simpa using hi);simpa using this
theorem zH{h:Heap}:∀{vs:List Value}{kz:List (List Int)},Paired (HS h) vs kz->∃fs,KatTups h vs fs/\fs.length=vs.length/\∀v∈fs,∃i t,v=Value.int i t
 | _,_,.nil=>⟨[],KatTups.nil,rfl,λv hv=>by cases hv⟩
 | v::vs,k::kz,.cons t r=>by
  obtain ⟨fs,h1,h2,h3⟩:=zH r;obtain ⟨b,d,t,its,rfl,⟨o,ho,hc,n,hd⟩,_⟩:=t;exact ⟨.int (k.headD 0) t::fs,KatTups.cons ho hc hd (by simp) h1,by simp [h2],λv hv=>by
   rcases bC.mp hv with rfl | hv
   ·exact ⟨_,_,rfl⟩
   ·exact h3 v hv⟩
theorem EH:∀a b:List Int,oC a b=jX a b
 | [],[]=>rfl
 | [],y::b=>(wF y b).symm
 | x::a,[]=>(tG _).symm
 | x::a,y::b=>by rw [xI,qV,EH a b]
section
variable{prog:Program}{w:World}{A:Around}{E:Value->Shared->Prop}{s:Shared}
theorem aBZ{x y:Value}{k l:List Int}{Q:Bool->Shared->Prop}(hu:A.units+64<cLine)(hx:HS s.heap x k)(hy:HS s.heap y l)(q:Q (jX k l) s):wpAny (model prog w) A (keyLt' (tuples' true) x y) Q E s:=by
 obtain ⟨b,d,t,its,rfl,⟨o,ho,hc,n,hd⟩,td,ti,⟨as,ra⟩,kn⟩:=hx;obtain ⟨b2,d2,t2,its2,rfl,⟨o2,ho2,hc2,n2,hd2⟩,td2,ti2,⟨bs,rb⟩,ln⟩:=hy;refine kat_lt ho hd ho2 hd2 ?_;have ek:k=k.headD 0::k.tail:=by
  cases k with
  | nil=>exact absurd rfl kn
  | cons _ _=>rfl
 have el:l=l.headD 0::l.tail:=by
  cases l with
  | nil=>exact absurd rfl ln
  | cons _ _=>rfl
 rw [ek,el,qV] at q;generalize k.headD 0=m at *;generalize l.headD 0=m2 at *;show KatLex prog w A true _ Q [(.int m t,.int m2 t2),(.ref d,.ref d2)] 0 s;refine kat_cons (wpAny_eqBool_int ?_);by_cases e:m=m2
 ·rw [if_pos e] at q;rw [show (m == m2)=true by simp [e]];refine kat_yes (kat_cons ?_);have eqv:=SeqAt.eqAt_reads (cD k.tail) (cD l.tail) A s _ _ as bs ra rb (EJ _) (EJ _) (by
   have h1:(cD k.tail).depth<=2:=by
    have:=QX k.tail;simp only [PyData.depth];omega
   omega)
  refine eqv prog w _ _ ?_;rw [aAO];by_cases e2:k.tail=l.tail
  ·rw [cO e2];refine kat_yes (kat_nil ?_);rw [e2,qU] at q;simpa using q
  ·rw [cH e2];refine kat_no (kat_one _ _ ?_);refine HB td td2 (by simpa using ti) (by simpa using ti2) Oo ?_;rw [EH];exact q
 ·rw [if_neg e] at q;rw [show (m == m2)=false by simp [e]];refine kat_no ?_;exact oneLt_int q
theorem IJ{a kS:Addr}{st:SortSt}{ks out:List Value}{e e1:Nat}{P:PySem.Fin->Shared->Prop}(hout:(arrOf st).map (·.2)=List.toArray out)(hz:out.length<64)(hkz:ks.length<64)(hf:failedOf st=none)
  (hk:s.heap.get? kS=some (seqObj "list" (List.toArray ks) e)) (ha:s.heap.get? a=some (seqObj "list" #[] e1)) (ne:a≠kS)
  (h:P (.done (.ret .none)) { s with heap:=(s.heap.update kS (Obj.mapSeq λ_=>#[])).update a (Obj.mapSeq λ_=>List.toArray out) }):wpAny (model prog w) A (ksk_tail a false e1 (.ref kS) st) P E s:=by
 unfold ksk_tail;dsimp only;rw [hout];refine wpAny_bind (listUpdate_at hk rfl ?_ (by rw [aS,sizeLine_eq];omega) (cE _));refine wpAny_bind (wpAny_letGo ?_);have ha2:(s.heap.update kS (Obj.mapSeq λ_=>(#[]:Array Value))).get? a=some (seqObj "list" #[] e1):=by rw [eC _ _ _ _ ne];exact ha
 refine wpAny_bind (seqEpoch_at ha2 rfl ?_);refine wpAny_bind (listUpdate_at ha2 rfl ?_ (cE _) (by
  simp only [Bool.false_eq_true,if_false];rw [aS,sizeLine_eq];omega))
 rw [hf];simp only [bne_self_eq_false,Bool.false_eq_true,if_false];exact wpAny_pure h
theorem ZS{a kS:Addr}{vs ks:List Value}{kz:List (List Int)}{e e1:Nat}{P:PySem.Fin->Shared->Prop}(hl:ks.length=vs.length)(h64:vs.length<64)(hu:A.units+64<cLine)(hp:Paired (HS s.heap) ks kz)
  (hk:s.heap.get? kS=some (seqObj "list" (List.toArray ks) e)) (ha:s.heap.get? a=some (seqObj "list" #[] e1)) (ne:a≠kS)
  (h:∀p:Array Nat,gA vs.length p->(yC vs.length (vK kz)->vA (vK kz) p vs.length)->P (.done (.ret .none)) { s with heap:=(s.heap.update kS (Obj.mapSeq λ_=>#[])).update a (Obj.mapSeq λ_=>List.toArray (p.toList.map λi=>vs.getD i Value.none)) }) :
  wpAny (model prog w) A (ksk_end a false vs.toArray e1 (.ref kS) (List.toArray ks)) P E s:=by
 unfold ksk_end;dsimp only;by_cases h2:vs.toArray.size<2
 ·simp only [Bool.false_eq_true,if_false,if_pos h2];refine wpAny_bind (wpAny_pure ?_);rw [StateT.run_pure];refine wpAny_bind (wpAny_pure ?_);dsimp only;have ea:=kat_snds (ks:=ks) (vs:=vs) (st:=SortSt.mk' general' ((List.toArray ks).zip vs.toArray) #[] 7 none) (p:=List.toArray (List.range vs.length)) hl (by
   have e:=kas_range ((List.toArray ks).zip vs.toArray);rw [show ((List.toArray ks).zip vs.toArray).size=vs.length by simp [hl]] at e;exact e.symm)
  exact IJ ea (by rw [aA,aZ];exact h64) Oo rfl hk ha ne (h _ (Array.Perm.refl _) λ_ a b h1 h3=>by rw [aS] at h2;omega)
 ·simp only [Bool.false_eq_true,if_false,if_neg h2];have hl2:2<=vs.length:=by rw [aS] at h2;omega
  obtain ⟨fs,k1,k2,k3⟩:=zH hp;refine wpAny_bind (kat_kind (T:=.type "int") k1 Oo (λv hv=>?_) rfl ?_)
  ·obtain ⟨i,t,rfl⟩:=k3 v hv;exact .now
  refine wpAny_bind (wpAny_mono (kat_run (ks:=ks) (vs:=vs) (G:=λp s'=>s'=s/\gA vs.length p/\(yC vs.length (vK kz)->vA (vK kz) p vs.length))
   (Q:=λst' s'=>s'=s/\failedOf st'=none/\∃p:Array Nat,p.size=vs.length/\(gA vs.length p/\(yC vs.length (vK kz)->vA (vK kz) p vs.length))/\arrOf st'=p.map (kas_item ((List.toArray ks).zip vs.toArray)))
   hl hl2 h64 (λp' st' s' a1 a2 a3 a4=>⟨a4.1,a3,p',a1,a4.2,a2⟩)
   (dL.wp (n:=vs.length) (lt:=vK kz) (R:=λp=>gA vs.length p/\(yC vs.length (vK kz)->vA (vK kz) p vs.length)) (λi j C hi hj hC=>?_) (λp hp=>⟨rfl,hp⟩) (DL hl2))) ?_ λ_ _ e=>e)
  ·unfold kas_ask;exact aBZ hu (HD hp Oo) (HD hp Oo) hC
  rintro ⟨⟨⟩,st'⟩ s' ⟨rfl,hf,p,hps,hg,har⟩;dsimp only;exact IJ (kat_snds hl har) (by rw [aA,Array.length_toList,hps];exact h64) Oo hf hk ha ne (h p hg.1 hg.2)
end
section
variable{X:Cx}{pins:List (Addr × Obj)}{σ:St}{H:Hp}{s:Shared}
theorem QH(I:cF X pins σ H s):∀{kz:List (List Int)}{ys:List V}{us:List Value},aW H (kz.map QJ) ys->(∀k∈kz,k≠[])->cZ ys us->Paired (HS s.heap) us kz
 | [],ys,us,r,hc,v=>by
  unfold aW at r;cases (show ys=[] from r);cases v;exact .nil
 | c::cs,ys,us,r,hc,v=>by
  rw [bH] at r;unfold aW at r;obtain ⟨y,ys',rfl,r1,r2⟩:=r;obtain ⟨u,us',rfl,rv,v'⟩:=sF v;refine .cons ?_ (QH I r2 (λc h=>hc c (aR _ h)) v');obtain ⟨a,d,rfl,h1,h2,h3⟩:=aB0 r1;cases rv;obtain ⟨its,rr,pl,_⟩:=I.tuple (jH.of h1);obtain ⟨u1,us1,rfl,⟨t,rfl⟩,ra⟩:=sF rr;obtain ⟨u2,us2,rfl,ru2,rb⟩:=sF ra;cases rb;cases ru2;obtain ⟨jts,r2,pl2,_⟩:=I.tuple (jH.of h2);exact ⟨a,d,t,jts,rfl,pl,pl2,oW r2,h3.reads I rfl,hc c (aU ..)⟩
def HU(sp:Sp)(H:Hp)(ys:List V)(kz:List (List Int)):Prop:=kz.length=ys.length/\(∀k∈kz,k≠[])/\∀(i:Nat) (y:V) (k:List Int) (H':Hp),ys[i]?=some y->kz[i]?=some k->aY H H'->sp [y] H' (λv H''=>aY H' H''/\cC H'' (QJ k) v) E0
theorem QI(k:List Int):fV (QJ k)=true:=by
 have:∀c:List Int,gU (c.map PyData.int)=true:=λc=>by
  induction c with
  | nil=>rfl
  | cons x c ih=>show (fV (.int x)&&gU (c.map PyData.int))=true;rw [ih];rfl
 show (fV (.int (k.headD 0))&&(fV (cD k.tail)&&true))=true;rw [show fV (cD k.tail)=true from this _];rfl
theorem EK:∀kz:List (List Int),gU (kz.map QJ)=true
 | []=>rfl
 | k::kz=>by show (fV (QJ k)&&gU (kz.map QJ))=true;rw [EK kz,QI];rfl
theorem cZ.snoc'{xs:List V}{us:List Value}{x:V}{u:Value}(h:cZ xs us)(r:dJ x u):cZ (xs++[x]) (us++[u]):=h.append (.cons r .nil)
theorem TJ{k:Nat}{f:Addr}{fd:FuncData}{ps:List Str}{sp:Sp}(F:dY X.prog X.w X.K X.mg X.base dP k f fd ps sp)(hb:pD X.K fd ps [])(hr:iH (k+2) X.A){a kS:Addr}{ys:List V}{vs:List Value}{kz:List (List Int)}{e1:Nat}
  {P:PySem.Fin->Shared->Prop} {E:Value->Shared->Prop} (I:cF X ((kS,seqObj "list" #[] 0)::(a,seqObj "list" #[] e1)::pins) σ H s) (nk:X.s₀.heap.objs.size<=kS) (np:∀p∈X.pn++((a,seqObj "list" #[] e1)::pins),p.1≠kS)
  (rv:cZ ys vs) (h64:vs.length<64) (kb:HU sp H ys kz)
  (h:∀(p:Array Nat) (ks:List Value) (e:Nat) (H':Hp) (s':Shared),aY H H'->cF X ((kS,seqObj "list" (List.toArray ks) e)::(a,seqObj "list" #[] e1)::pins) σ H' s'->gA vs.length p->(yC vs.length (vK kz)->vA (vK kz) p vs.length) ->
   P (.done (.ret .none)) { s' with heap:=(s'.heap.update kS (Obj.mapSeq λ_=>#[])).update a (Obj.mapSeq λ_=>List.toArray (p.toList.map λi=>vs.getD i Value.none)) }) :
  wpAny (model X.prog X.w) X.A.in1.in1 (ksk_rest a (.ref f) false vs.toArray e1 (.ref kS)) P E s:=by
 obtain ⟨kl,kn,kc⟩:=kb;have lv:=rv.length;have ne:a≠kS:=np (a,seqObj "list" #[] e1) (aN _ (aU ..));unfold ksk_rest;refine wpAny_bind (wpAny_rule ?_);rw [List.forIn_toArray];refine wpAny_bind (ksk_fold (λi s'=>∃(H':Hp) (ks:List Value) (kv:List V) (e:Nat),cF X ((kS,seqObj "list" (List.toArray ks) e)::(a,seqObj "list" #[] e1)::pins) σ H' s'/\aY H H'/\cZ kv ks/\aW H' ((kz.take i).map QJ) kv) vs 0 s
  ⟨H,[],[],0,I,aY.refl _,.nil,aW.nil⟩ (λj x s' hx hI=>?_) λs' hI=>?_)
 ·obtain ⟨H',ks,kv,e,I',sH,rk,rr⟩:=hI;rw [Nat.zero_add] at rr ⊢;have hj:j<vs.length:=(aF.mp hx).1;obtain ⟨y,hy,ry⟩:∃y,ys[j]?=some y/\dJ y x:=by
   obtain ⟨u,hu,ru⟩:=rv.get (i:=j) (x:=ys[j]'Oo) (by simp [show j<ys.length by omega]);rw [hx] at hu;cases hu;exact ⟨_,aB Oo,ru⟩
  obtain ⟨kk,hkk⟩:∃kk,kz[j]?=some kk:=⟨_,aB Oo⟩;have lk:ks.length=min j kz.length:=by rw [<-rk.length,rr.len,aA,cL]
  have spec:=kc j y kk H' hy hkk sH;have hl:([x]++([]:List Value)).length=ps.length:=by rw [<-F.len _ _ _ _ spec];rfl
  have run:=F.run X.A.in1.in1 X.stack s' H' ⟨[x],[]⟩ [x] [y] _ E0 hr.in1.in1 I'.env0.in1.in1 (hb s' [x] I'.kIn hl) (.cons ry .nil) spec;refine wpAny_bind (wpAny_attempt (wpAny_call (codeAny_mono run λr s2 hq=>?_)));cases r with
  | error e=>exact False.elim hq
  | ok fl =>
   cases fl with
   | next=>exact False.elim hq
   | brk=>exact False.elim hq
   | cont=>exact False.elim hq
   | ret u =>
    obtain ⟨v,H2,I2,rvu,s2',rkey⟩:=I'.after hq;dsimp only;have pk:=I2.pin (kS,seqObj "list" (List.toArray ks) e) (aN _ (aU ..));have ea:(List.toArray ks).push u=List.toArray (ks++[u]):=by simp
    obtain ⟨c2,hc2⟩:∃c2,(s2.heap.update kS (Obj.mapSeq (·.push u))).get? kS=some (seqObj "list" (List.toArray (ks++[u])) c2):=⟨_,by rw [<-ea];exact get?_update_seq pk.1 (·.push u)⟩;refine wpAny_bind (listUpdate_at pk.1 rfl ?_ (by rw [aS,sizeLine_eq];omega) (aK (Nat.le_of_eq (Array.size_push ..)) (by rw [aS,sizeLine_eq];omega)));have I3:cF X ((a,seqObj "list" #[] e1)::pins) σ H2 s2:=I2.pins_of λp hp=>I2.pin p (aN _ (aR _ hp));have I4:=I3.turned (it:=kS) (h':=s2.heap.update kS (Obj.mapSeq (·.push u))) (t':=s2.toks) (λb o nb hb=>by rw [eC _ _ _ _ nb];exact hb) pk.2.1 pk.2.2.1 (.inr nk) (λx c hc z=>by
     obtain ⟨v,o,ho,hd⟩:=I3.cell x c hc;rw [z,pk.1] at ho;cases ho;exact pk.2.2.2.2 v hd) np
    refine wpAny_pure ⟨rfl,H2,ks++[u],kv++[v],c2,?_,sH.trans s2',rk.snoc' rvu,?_⟩
    ·refine I4.pins_of λp hp=>?_;rcases bC.mp hp with rfl | hp
     ·exact ⟨hc2,pk.2.1,pk.2.2.1,pk.2.2.2.1,λv=>by intro z;cases z⟩
     ·exact I4.pin p (aN _ hp)
    ·rw [gK,hkk,bF];exact aW.snoc (rr.flat s2'.t (EK _)) rkey
 ·obtain ⟨H',ks,kv,e,I',sH,rk,rr⟩:=hI;rw [Nat.zero_add,List.take_of_length_le Oo] at rr;have pk:=I'.pin (kS,seqObj "list" (List.toArray ks) e) (aN _ (aU ..));have pa:=I'.pin (a,seqObj "list" #[] e1) (aN _ (aR _ (aU ..)));refine wpAny_bind (listItems_at pk.1 rfl ?_);have lk:ks.length=vs.length:=by rw [<-rk.length,rr.len,aA];omega
  refine ZS (kz:=kz) lk h64 hr.in1.in1.units (QH I' rr kn rk) pk.1 pa.1 ne λp g1 g2=>?_;exact h p ks e H' s' sH I' g1 g2
end
@[irreducible] def DS(K:PySem.W.Frag)(sp:Sp)(x:V)(H:Hp)(Q:VK):Prop:=∃(p:Addr) (ys:List V) (kz:List (List Int)),x=.ref p/\fN K H p ys/\ys.length<64/\HU sp H ys kz /\
 ∀(D:Addr) (ix:List Nat) (H':Hp),ix.Perm (List.range ys.length)->(kz.Nodup->(ix.map λi=>kz.getD i []).Pairwise λa b=>jX a b=true)->H D=none->H' D=some (.lst (ix.map λi=>ys.getD i .non))->aY H H'->Q (.ref D) H'
theorem aBG{K:PySem.W.Frag}{sp:Sp}{p:Addr}{ys:List V}{kz:List (List Int)}{H:Hp}{Q:VK}(h:H p=some (.lst ys))(hz:ys.length<64)(kb:HU sp H ys kz)
  (q:∀(D:Addr) (ix:List Nat) (H':Hp),ix.Perm (List.range ys.length)->(kz.Nodup->(ix.map λi=>kz.getD i []).Pairwise λa b=>jX a b=true)->H D=none->H' D=some (.lst (ix.map λi=>ys.getD i .non))->aY H H'->Q (.ref D) H'):DS K sp (.ref p) H Q:=by
 unfold DS;exact ⟨p,ys,kz,rfl,fN.of h,hz,kb,q⟩
def aBq(K:PySem.W.Frag)(sp:Sp)(ta:TE):TE:=λσ H Q=>ta σ H λx H1=>DS K sp x H1 Q
theorem RY{kz:List (List Int)}{n:Nat}{pm:Array Nat}(hg:gA n pm)(ha:vA (vK kz) pm n):(pm.toList.map λi=>kz.getD i []).Pairwise λa b=>jX a b=true:=by
 have hsz:=hg.size;rw [List.pairwise_map,List.pairwise_iff_getElem];intro i j hi hj hij;have hi':i<pm.size:=by simpa using hi
 have hj':j<pm.size:=by simpa using hj
 have e1:pm.toList[i]=pm.getD i 0:=by rw [Array.getElem_toList];exact (by simp [Array.getD,hi']:pm.getD i 0=pm[i]).symm
 have e2:pm.toList[j]=pm.getD j 0:=by rw [Array.getElem_toList];exact (by simp [Array.getD,hj']:pm.getD j 0=pm[j]).symm
 rw [e1,e2];exact ha i j hij Oo
section
variable{X:Cx}{pins:List (Addr × Obj)}{σ:St}{H:Hp}{s:Shared}
theorem KP{K:PySem.W.Frag}(hK:X.K=K){k:Nat}{f:Addr}{fd:FuncData}{ps:List Str}{sp:Sp}(F:dY X.prog X.w X.K X.mg X.base dP k f fd ps sp)(hb:pD X.K fd ps [])(hr:iH (k+2) X.A){x:V}{u:Value}{Q:VK}(I:cF X pins σ H s)(rx:dJ x u)(q:DS K sp x H Q) :
  wpAny (model X.prog X.w) X.A (call (.builtin "sorted") [u] [(Str.ofString "key",.ref f)]) (EP X pins σ Q) X.xe s:=by
 subst hK;unfold DS at q;obtain ⟨l,ys,kz,rfl,hq,hz,kb,q⟩:=q;cases (show u=Value.ref l from rx);obtain ⟨vs,rv,pl,hzz⟩:=I.list hq;have lv:=rv.length;obtain ⟨o,n,ho,hcl,hdd,hd⟩:=pl;have hl:s.heap.IsList l vs.toArray:=⟨o,ho,hcl,n,hd⟩;have h64:vs.length<64:=Oo;refine call_function_entry_kw kind_sorted plain_sorted entry_sorted (ksk_s1 _ _) ?_;unfold Builtin.«sorted»;refine wpAny_bind (m:=checkCount _ _ _ _) (wpAny_pure ?_);refine wpAny_bind (collect_list hl ?_ (by rw [sizeLine_eq];omega));have sz0:s.heap.objs.size<=((s.heap.push (seqObj "list" #[] 0)).update s.heap.objs.size (Obj.mapSeq (· ++ vs.toArray))).objs.size:=by rw [Heap.size_update,size_push'];omega
 have kp0:∀b o,s.heap.get? b=some o->((s.heap.push (seqObj "list" #[] 0)).update s.heap.objs.size (Obj.mapSeq (· ++ vs.toArray))).get? b=some o:=λb o hb=>by
  have lt:b<s.heap.objs.size:=aT hb;rw [eC _ _ _ _ (cG lt)];exact aC _ hb
 generalize (s.heap.push (seqObj "list" #[] 0)).update s.heap.objs.size (Obj.mapSeq (· ++ vs.toArray))=h1 at sz0 kp0 ⊢;refine wpAny_bind (wpAny_newList ?_ (by rw [sizeLine_eq];omega));have gD:(h1.push (seqObj "list" vs.toArray 0)).get? h1.objs.size=some (seqObj "list" vs.toArray 0):=bB _ rfl;have sz1:(h1.push (seqObj "list" vs.toArray 0)).objs.size=h1.objs.size+1:=size_push' ..;have kp1:∀b o,s.heap.get? b=some o->(h1.push (seqObj "list" vs.toArray 0)).get? b=some o:=λb o hb=>aC _ (kp0 b o hb);show wpAny _ _ _ _ _ { s with heap:=h1.push (seqObj "list" vs.toArray 0) };generalize hD:h1.objs.size=D at *;generalize h1.push (seqObj "list" vs.toArray 0)=h2 at gD sz1 kp1 ⊢;refine wpAny_bind (wpAny_holding (wpAny_call_entry_kw slot_list_sort ⟨_,gD,rfl⟩ entry_list_sort ?_ (ksk_l1 _ _)));show wpAny (model X.prog X.w) X.A.in1.in1 (Builtin.«list.sort» ⟨[.ref D],[(Str.ofString "key",.ref f)]⟩) _ _ _;rw [ksk_t1];unfold ksk_tree;refine wpAny_bind (listItems_at gD rfl ?_);refine wpAny_bind (listUpdate_at gD rfl ?_ (by rw [aS,sizeLine_eq];omega) (cE _));obtain ⟨e1,g1⟩:∃e1,(h2.update D (Obj.mapSeq λ_=>(#[]:Array Value))).get? D=some (seqObj "list" #[] e1):=⟨_,get?_update_seq gD λ_=>#[]⟩;have sz2:(h2.update D (Obj.mapSeq λ_=>(#[]:Array Value))).objs.size=D+1:=by rw [Heap.size_update];exact sz1
 have kp2:∀b o,s.heap.get? b=some o->(h2.update D (Obj.mapSeq λ_=>(#[]:Array Value))).get? b=some o:=λb o hb=>by
  have lt:b<s.heap.objs.size:=aT hb;rw [eC _ _ _ _ (cG (aO lt sz0))];exact kp1 b o hb
 show wpAny _ _ _ _ _ { s with heap:=h2.update D (Obj.mapSeq λ_=>(#[]:Array Value)) };generalize h2.update D (Obj.mapSeq λ_=>(#[]:Array Value))=h3 at g1 sz2 kp2 ⊢;refine wpAny_bind (seqEpoch_at g1 rfl ?_);refine wpAny_bind (wpAny_newTuple ?_ (by show vs.length<=_;rw [sizeLine_eq];omega));refine wpAny_bind (wpAny_newList ?_ (cE _));refine wpAny_holding ?_;have g2:((h3.push (seqObj "tuple" vs.toArray 0)).push (seqObj "list" #[] 0)).get? D=some (seqObj "list" #[] e1):=aC _ (aC _ g1);have g3:((h3.push (seqObj "tuple" vs.toArray 0)).push (seqObj "list" #[] 0)).get? (h3.push (seqObj "tuple" vs.toArray 0)).objs.size=some (seqObj "list" #[] 0):=bB _ rfl;have sz3:(h3.push (seqObj "tuple" vs.toArray 0)).objs.size=D+2:=by rw [size_push',sz2]
 have kp3:∀b o,s.heap.get? b=some o->((h3.push (seqObj "tuple" vs.toArray 0)).push (seqObj "list" #[] 0)).get? b=some o:=λb o hb=>aC _ (aC _ (kp2 b o hb));show wpAny _ _ (ksk_rest D (.ref f) false vs.toArray e1 (.ref (h3.push (seqObj "tuple" vs.toArray 0)).objs.size)) _ _ { s with heap:=(h3.push (seqObj "tuple" vs.toArray 0)).push (seqObj "list" #[] 0) };rw [sz3] at g3 ⊢;generalize (h3.push (seqObj "tuple" vs.toArray 0)).push (seqObj "list" #[] 0)=h4 at g2 g3 kp3 ⊢;have I0:cF X pins σ H { s with heap:=h4 }:=I.kept (t':=s.toks) kp3;have dD:s.heap.objs.size<=D:=sz0;have dD2:s.heap.objs.size<=D+2:=aK sz0 (Nat.le_add_right _ _);have nDD:D≠D+2:=cG (Nat.lt_add_of_pos_right Dd);have lL:=I.lt;have hpin:∀p∈X.pn++pins,p.1<s.heap.objs.size:=λp hp=>aT (I.pin p hp).1;have I1:cF X ((D+2,seqObj "list" #[] 0)::(D,seqObj "list" #[] e1)::pins) σ H { s with heap:=h4 }:=I0.pins_of λp hp=>by
  rcases bC.mp hp with rfl | hp
  ·exact ⟨g3,I.hok.fresh dD2,Nat.ne_of_gt (aO lL dD2),I.nofs dD2,λv z=>by cases z⟩
  rcases bC.mp hp with rfl | hp
  ·exact ⟨g2,I.hok.fresh dD,Nat.ne_of_gt (aO lL dD),I.nofs dD,λv z=>by cases z⟩
  exact I0.pin p (aN _ hp)
 have sz00:=I.sz;refine TJ F hb hr I1 (aK sz00 dD2) (λp hp=>?_) rv h64 kb λp ks e H' s' sH I' hg ha=>?_
 ·rcases bX.mp hp with hp | hp
  ·exact cG (aO (hpin p (bV _ hp)) dD2)
  rcases bC.mp hp with rfl | hp
  ·exact nDD
  ·exact cG (aO (hpin p (aN _ hp)) dD2)
 have pk:=I'.pin (D+2,seqObj "list" (List.toArray ks) e) (aN _ (aU ..));have pa:=I'.pin (D,seqObj "list" #[] e1) (aN _ (aR _ (aU ..)));have Ip:cF X pins σ H' s':=I'.pins_of λp hp=>I'.pin p (aN _ (aR _ (aR _ hp)));have hperm:p.toList.Perm (List.range ys.length):=by
  have:=(Array.perm_iff_toList_perm.mp hg);rw [lv];simpa using this
 have hlt:∀i∈p.toList,i<ys.length:=λi hi=>by
  have:=hperm.mem_iff.mp hi;simpa using this
 have hl2:(p.toList.map λi=>ys.getD i .non).length=ys.length:=by rw [aA,hperm.length_eq,aZ]
 have hDn:H' D=none:=pa.2.1;have gfin:((s'.heap.update (D+2) (Obj.mapSeq λ_=>(#[]:Array Value))).update D (Obj.mapSeq λ_=>List.toArray (p.toList.map λi=>vs.getD i Value.none))).get? D=some (seqObj "list" (List.toArray (p.toList.map λi=>vs.getD i Value.none)) _) :=
  get?_update_seq (show (s'.heap.update (D+2) (Obj.mapSeq λ_=>(#[]:Array Value))).get? D=some (seqObj "list" #[] e1) by rw [eC _ _ _ _ nDD];exact pa.1) λ_=>List.toArray (p.toList.map λi=>vs.getD i Value.none)
 have kfin:∀b o,b≠D->b≠D+2->s'.heap.get? b=some o->((s'.heap.update (D+2) (Obj.mapSeq λ_=>(#[]:Array Value))).update D (Obj.mapSeq λ_=>List.toArray (p.toList.map λi=>vs.getD i Value.none))).get? b=some o:=λb o n1 n2 hb=>by
  rw [eC _ _ _ _ n1,eC _ _ _ _ n2];exact hb
 generalize (s'.heap.update (D+2) (Obj.mapSeq λ_=>(#[]:Array Value))).update D (Obj.mapSeq λ_=>List.toArray (p.toList.map λi=>vs.getD i Value.none))=h5 at gfin kfin ⊢;refine ⟨_,rfl,wpAny_pure ⟨_,rfl,?_⟩⟩;have nn:∀b u,H' b=some u->b≠D/\b≠D+2:=λb u hb=>⟨(λz=>by rw [z,hDn] at hb;exact nomatch hb),(λz=>by rw [z,pk.2.1] at hb;exact nomatch hb)⟩;have ncell:∀x c,X.env.cells.lookup x=some c->c≠D/\c≠D+2:=λx c hc=>by
  obtain ⟨v,o,ho,hd⟩:=Ip.cell x c hc;refine ⟨λz=>?_,λz=>?_⟩
  ·rw [z,pa.1] at ho;cases ho;exact pa.2.2.2.2 v hd
  ·rw [z,pk.1] at ho;cases ho;exact pk.2.2.2.2 v hd
 have mem2:∀b,b ∉ [D,D+2]->b≠D/\b≠D+2:=λb hb=>⟨λz=>hb (by simp [z]),λz=>hb (by simp [z])⟩;refine ⟨.ref D,upd H' D (.lst (p.toList.map λi=>ys.getD i .non)),Ip.step (g':=s'.gens) (d':=s'.drawn) (t':=s'.toks) (ch:=[D,D+2]) (λb hb=>?_) (λb o _ _ hc g _=>kfin b o (mem2 b hc).1 (mem2 b hc).2 g) (λb o _ _ hc g _=>⟨o.slots,kfin b o (mem2 b hc).1 (mem2 b hc).2 g⟩)
  (λb o hc g n=>by rw [cX (mem2 b hc).1];exact n) (λb o hc g=>⟨o,kfin b o (mem2 b hc).1 (mem2 b hc).2 g⟩) (λb xs g=>by rw [cX (nn b _ g).1];exact g) (λb o u g=>by rw [cX (nn b _ g).1];exact g) (λb ps g=>⟨#[],by rw [cX (nn b _ g).1,g];simp⟩)
  (λm hm=>?_) (λb u g=>?_) Ip.bare,rfl,?_⟩
 ·rcases bC.mp hb with rfl | hb
  ·exact ⟨.inr (aK sz00 dD),pa.2.2.1,λx c hc=>(ncell x c hc).1,λp hp=>cG (aO (hpin p hp) dD)⟩
  ·rw [bG.mp hb];exact ⟨.inr (aK sz00 dD2),pk.2.2.1,λx c hc=>(ncell x c hc).2,λp hp=>cG (aO (hpin p hp) dD2)⟩
 ·obtain ⟨o,es,ep,ho,r⟩:=hm;exact ⟨o,es,ep,kfin _ o (Ne.symm pa.2.2.1) (Ne.symm pk.2.2.1) ho,r⟩
 ·by_cases hbD:b=D
  ·subst hbD;rw [bM] at g;cases g;exact ⟨by rw [hl2];exact hzz,_,_,AL rv _ hlt,gfin⟩
  ·rw [cX hbD] at g;refine (Ip.hok b u g).stay (λc v hc r=>?_) (λc r=>by rw [cX (nn c _ r).1];exact r) λc xs r=>by rw [cX (nn c _ r).1];exact r
   have nc:c≠D/\c≠D+2:=by
    rcases hc with rfl | hc
    ·exact nn c u g
    ·exact nn c _ hc
   exact kfin c v nc.1 nc.2 r
 ·refine q D p.toList _ hperm (λnd=>?_) (I.hok.fresh dD) bM (λb o g=>?_)
  ·have:=kb.1;exact RY hg (ha (by have:=PU nd;rwa [kb.1,lv] at this))
  ·have g':=sH b o g;rw [cX (nn b o g').1];exact g'
theorem ST(K:PySem.W.Frag){fn:Str}{ps:List Str}{sp:Sp}{k:Nat}{a:Expr}{ta:TE}{p p2 pos kp:Pos}(F:gM dP X.prog X.w X.K X.mg X.base k fn ps sp)(hr:iH (k+2) X.A)(hg:Gl X "sorted")(hm:X.mg "sorted" = none)(ha:iG X a ta)(hgf:Gl X fn:=by rfl)(hK:X.K=K:=by rfl)
  (hdb:(fn == ("__debug__" : Str))=false:=by decide)
  (he:eval (.Call (.Name "sorted" p) [a] [⟨some "key",.Name fn p2,kp⟩] pos) X.env=(do callWith pos (<-eval (.Name "sorted" p) X.env) [] (backTo pos (starEach [a] X.env)) (backToKw pos (keywordEach [⟨some "key",.Name fn p2,kp⟩] X.env))):=by rfl)
  (hs:starEach [a] X.env=[(false,eval a X.env)]:=by first | exact gP | exact gH | exact dG | rfl) :
  iG X (.Call (.Name "sorted" p) [a] [⟨some "key",.Name fn p2,kp⟩] pos) (aBq K sp ta):=⟨by
 intro pins s σ H Q I h;obtain ⟨f,fd,h1,h2,h3,h4⟩:=F.ex;rw [he];refine wpAny_bind (oU I hg hm FH ?_);have hbk:backTo pos (starEach [a] X.env)=[(false,eval a X.env)]:=by rw [hs];rfl
 refine PyProof.Rows.callWith_kw ?_ (by rw [hbk];rfl) (by rw [hbk];rfl) rfl rfl;rw [hbk];refine Calls.spliced_cons (thn (ha.p pins s σ H _ I h) λu s1 ⟨x,H1,I1,rx,q1⟩=>Calls.spliced_nil ?_);refine kws_cons (wG I1 hgf h2 ?_ hdb);refine kws_nil ?_;exact KP hK h1 h4 hr I1 rx q1⟩
end
end L2
namespace Kw
open PySem L2 Mf
def rk(c:List Nat):List Int:=(c.sum:Int)::ci c
theorem OQ{a b:List Nat}(h:rk a=rk b):a=b:=kM (List.cons.inj h).2
theorem LC:∀F,F<=4->∀M,M<=5->((rise F M).map rk).Pairwise λa b=>jX a b=true:=Kk
def LW(F:Nat)(best:List Nat->Nat)(R:List (List Nat))(j:Nat)(d:List Nat):Bool:=d == List.replicate F 0 || (R.take j).any λc=>best c == 0&&(List.range F).any λf=>d == bP c f
def tJ(F:Nat)(best:List Nat->Nat)(R:List (List Nat))(j:Nat):List (List Nat):=R.filter (LW F best R j)
theorem qY{F:Nat}{best:List Nat->Nat}{R:List (List Nat)}{j:Nat}{d:List Nat}:LW F best R j d=true↔d=List.replicate F 0\/∃c∈R.take j,best c=0/\∃f,f<F/\d=bP c f:=by
 unfold LW;simp
theorem XO{c:List Nat}{f g:Nat}(hf:f<c.length)(h:bP c f=bP c g):f=g:=by
 refine bY λq=>?_;have h1:(bP c f)[f]?=some (c.getD f 0+1):=by unfold bP;rw [List.getElem?_set_self hf]
 have h2:(bP c g)[f]?=c[f]?:=by unfold bP;rw [List.getElem?_set_ne (λz=>q z.symm)]
 rw [h,h2,aB hf] at h1;have h3:c.getD f 0=c[f]:=by rw [bJ,aB hf];rfl
 rw [h3] at h1;injection h1 with h1;omega
theorem MH{c:List Nat}{f:Nat}(hf:f<c.length):jX (rk c) (rk (bP c f))=true:=by
 unfold rk;rw [qV,gY hf,if_neg Oo];exact cO Oo
section
variable{F W M:Nat}{best:List Nat->Nat}
structure kO(F M:Nat)(best:List Nat->Nat):Prop where
 f1:1<=F
 f4:F<=4
 m5:M<=5
 on:∀c,best c=0->c.sum<M
theorem kO.rank(I:kO F M best):((fL F M best).map rk).Pairwise λa b=>jX a b=true:=(LC F I.f4 M I.m5).sublist ((jL I.f1).map rk)
theorem kO.nd(I:kO F M best):(fL F M best).Nodup:=(BF F I.f4 M I.m5).sublist (jL I.f1)
theorem kO.before(I:kO F M best){c d:List Nat}{i:Nat}(hc:c∈fL F M best)(hd:(fL F M best)[i]?=some d)(h:jX (rk c) (rk d)=true):c∈(fL F M best).take i:=by
 obtain ⟨k,hk⟩:=cV.mp hc;obtain ⟨lk,ek⟩:=aF.mp hk;obtain ⟨li,ei⟩:=aF.mp hd;have pw:=List.pairwise_map.mp I.rank;by_cases q:k<i
 ·exact cV.mpr ⟨k,by rw [List.getElem?_take_of_lt q];exact hk⟩
 ·exfalso;by_cases q2:k=i
  ·subst q2;rw [hk] at hd;cases hd;rw [qU] at h;cases h
  ·have:=(List.pairwise_iff_getElem.mp pw) i k li lk Oo;rw [ek,ei] at this;have:=wE h this;rw [qU] at this;cases this
theorem kO.first(I:kO F M best){i j:Nat}{d:List Nat}(hij:i<=j)(hd:(fL F M best)[i]?=some d):LW F best (fL F M best) j d=true:=by
 rw [qY];by_cases q:d=List.replicate F 0
 ·exact .inl q
 ·obtain ⟨c,hc,h0,f,hf,e⟩:=DR I.f1 (aG hd) q;have lc:=(sX I.f1 hc).1;have:=I.before hc hd (by rw [<-e];exact MH Oo);exact .inr ⟨c,(List.take_sublist_take_left hij).subset this,h0,f,hf,e.symm⟩
theorem EO{α:Type}{p:α->Bool}{R:List α}{k:Nat}(h:∀d∈R.take k,p d=true):R.filter p=R.take k++(R.drop k).filter p:=by
 have e:(R.take k++R.drop k).filter p=R.take k++(R.drop k).filter p:=by rw [List.filter_append,List.filter_eq_self.mpr h]
 rwa [List.take_append_drop] at e
theorem kO.split(I:kO F M best){j k:Nat}(hk:k<=j+1):tJ F best (fL F M best) j=(fL F M best).take k++((fL F M best).drop k).filter (LW F best (fL F M best) j):=by
 unfold tJ;refine EO λd hd=>?_;obtain ⟨i,hi⟩:=cV.mp hd;have li:=(aF.mp hi).1;rw [cL] at li;rw [List.getElem?_take_of_lt Oo] at hi;exact I.first Oo hi
theorem kO.all(I:kO F M best){j:Nat}(h:(fL F M best).length<=j+1):tJ F best (fL F M best) j=fL F M best:=by
 rw [I.split (aI _),List.take_of_length_le h,List.drop_of_length_le h];simp
theorem kO.stop(I:kO F M best){j:Nat}{c:List Nat}(h:(fL F M best)[j]?=some c)(h0:best c≠0):tJ F best (fL F M best) (j+1)=tJ F best (fL F M best) j:=by
 unfold tJ;refine List.filter_congr λd _=>?_;rw [Bool.eq_iff_iff,qY,qY,eN h];constructor
 ·rintro (h | ⟨c',hc,hb,r⟩)
  ·exact .inl h
  ·rcases bX.mp hc with hc | hc
   ·exact .inr ⟨c',hc,hb,r⟩
   ·rw [bG.mp hc] at hb;exact absurd hb h0
 ·rintro (h | ⟨c',hc,r⟩)
  ·exact .inl h
  ·exact .inr ⟨c',bV _ hc,r⟩
def rst(F:Nat)(best:List Nat->Nat)(R:List (List Nat))(j:Nat)(c:List Nat):List (List Nat):=(tJ F best R j).drop (j+1)++((List.range F).map (bP c)).filter λd=>!decide (d∈tJ F best R j)
theorem kO.mem(I:kO F M best){j:Nat}{c:List Nat}(h:(fL F M best)[j]?=some c)(h0:best c=0)(d:List Nat):d∈rst F best (fL F M best) j c↔d∈((fL F M best).drop (j+1)).filter (LW F best (fL F M best) (j+1)):=by
 have lj:=(aF.mp h).1;have hs:=I.split (j:=j) (aI _);have hd:(tJ F best (fL F M best) j).drop (j+1)=((fL F M best).drop (j+1)).filter (LW F best (fL F M best) j):=by
  rw [hs,List.drop_left' (by rw [cL];omega)]
 have hc:=aG h;have lc:=(sX I.f1 hc).1;have step:LW F best (fL F M best) (j+1) d=true↔LW F best (fL F M best) j d=true\/∃f,f<F/\d=bP c f:=by
  rw [qY,qY,eN h];constructor
  ·rintro (h | ⟨c',hc',hb,r⟩)
   ·exact .inl (.inl h)
   ·rcases bX.mp hc' with q | q
    ·exact .inl (.inr ⟨c',q,hb,r⟩)
    ·rw [bG.mp q] at r;exact .inr r
  ·rintro ((h | ⟨c',hc',r⟩) | r)
   ·exact .inl h
   ·exact .inr ⟨c',bV _ hc',r⟩
   ·exact .inr ⟨c,aN _ (bG.mpr rfl),h0,r⟩
 unfold rst;rw [bX,hd,cW,cW,cW,step,aV];constructor
 ·rintro (⟨h1,h2⟩ | ⟨⟨f,hf,rfl⟩,h2⟩)
  ·exact ⟨h1,.inl h2⟩
  ·have hf:=bR.mp hf;have hr:=DO I.f1 I.on hc h0 hf;refine ⟨?_,.inr ⟨f,hf,rfl⟩⟩;rw [<-List.take_append_drop (j+1) (fL F M best)] at hr;rcases bX.mp hr with q | q
   ·exfalso;have:bP c f∈tJ F best (fL F M best) j:=by rw [hs];exact bV _ q
    simp [this] at h2
   ·exact q
 ·rintro ⟨h1,h2⟩;by_cases q:LW F best (fL F M best) j d=true
  ·exact .inl ⟨h1,q⟩
  ·obtain ⟨f,hf,e⟩:=h2.resolve_left q;refine .inr ⟨⟨f,bR.mpr hf,e.symm⟩,?_⟩;have:d ∉ tJ F best (fL F M best) j:=λz=>q (cW.mp z).2;simp [this]
theorem kO.rnd(I:kO F M best){j:Nat}{c:List Nat}(h:(fL F M best)[j]?=some c):(rst F best (fL F M best) j c).Nodup:=by
 have lc:=(sX I.f1 (aG h)).1;have nm:((List.range F).map (bP c)).Nodup:=nodup_map_on (λx hx y _ e=>XO (by have:=bR.mp hx;omega) e) List.nodup_range;refine List.nodup_append.mpr ⟨(I.nd.sublist List.filter_sublist).sublist (List.drop_sublist _ _),nm.sublist List.filter_sublist,λa ha b hb e=>?_⟩;subst e;have h1:=List.mem_of_mem_drop ha;have h2:=(cW.mp hb).2;simp [h1] at h2
theorem kO.len(I:kO F M best){j:Nat}{c:List Nat}(h:(fL F M best)[j]?=some c)(h0:best c=0):(rst F best (fL F M best) j c).length<=(fL F M best).length :=
 lX (I.rnd h) λd hd=>List.mem_of_mem_drop (cW.mp ((I.mem h h0 d).mp hd)).1
theorem kO.next(I:kO F M best){j:Nat}{c:List Nat}(h:(fL F M best)[j]?=some c)(h0:best c=0){rs:List (List Nat)}(hm:∀d,d∈rs↔d∈rst F best (fL F M best) j c)(hs:(rs.map rk).Pairwise λa b=>jX a b=true) :
  (tJ F best (fL F M best) j).take (j+1)++rs=tJ F best (fL F M best) (j+1):=by
 have lj:=(aF.mp h).1;have e1:(tJ F best (fL F M best) j).take (j+1)=(fL F M best).take (j+1):=by
  rw [I.split (j:=j) (aI _),List.take_left' (by rw [cL];omega)]
 have e2:rs.map rk=(((fL F M best).drop (j+1)).filter (LW F best (fL F M best) (j+1))).map rk:=by
  refine tF hs (I.rank.sublist (List.Sublist.map rk (List.Sublist.trans List.filter_sublist (List.drop_sublist _ _)))) λx=>?_;rw [aV,aV];constructor
  ·rintro ⟨d,hd,rfl⟩;exact ⟨d,(I.mem h h0 d).mp ((hm d).mp hd),rfl⟩
  ·rintro ⟨d,hd,rfl⟩;exact ⟨d,(hm d).mpr ((I.mem h h0 d).mpr hd),rfl⟩
 have e3:rs=((fL F M best).drop (j+1)).filter (LW F best (fL F M best) (j+1)):=(List.map_inj_right λx y e=>OQ e).mp e2;rw [e1,e3,I.split (j:=j+1) (k:=j+1) Oo]
theorem kO.at(I:kO F M best){j:Nat}{c:List Nat}(h:(fL F M best)[j]?=some c):(tJ F best (fL F M best) j)[j]?=some c:=by
 have lj:=(aF.mp h).1;rw [I.split (j:=j) (aI _),cK (by rw [cL];omega),List.getElem?_take_of_lt Oo];exact h
theorem kO.dlen(j:Nat):(tJ F best (fL F M best) j).length<=(fL F M best).length:=List.length_filter_le ..
end
end Kw
namespace L2
open PySem PySem.Spec PyProof.Rows
def CA(X:Cx)(scope:Scope)(x:Str)(C:Addr)(fp:List Addr)(s₀:Shared)(H₀:Hp)(N':List Str):Cx :=
 { mB X scope C fp s₀ H₀ N' with env:=compEnvC scope ((x,C+1)::vR X scope) C X.env,fn:=λy=>y == x }
structure iT(X:Cx)(scope:Scope)(x:Str)(N':List Str)(js:List Nat):Prop where
 calm:X.calm=true
 free:∀y∈scope.names,y.2=.free->X.env.kindOf y.1=some .cell
 only:(scope.names.filter λy=>y.2 == .cell)=[(x,NameKind.cell)]
 kind:scope.kind=.function
 names:∀y∈scope.names,y.2=.local->scope.names.lookup y.1=some .local
 own:scope.names.lookup x=some .cell
 nofl:∀y,(y,NameKind.free)∈scope.names->scope.names.lookup y=some .local->False
 nofx:(x,NameKind.free) ∉ scope.names
 len:N'.length=js.length+1
 zero:N'[0]?=some x
 nd:N'.Nodup
 slot:∀(i:Nat) (j:Nat),js[i]?=some j->∃y,N'[i+1]?=some y/\X.N[j]?=some y/\(y,NameKind.free)∈scope.names
theorem xT:∀{names:List (Str × NameKind)}{n:Nat}{acc:List (Str × Addr)}{h:Heap},(names.filter λy=>y.2 == .cell)=[]->cellsFrom n names acc=acc/\pushCells h names=h
 | [],_,_,_,_=>⟨rfl,rfl⟩
 | (a,k)::r,n,acc,h,e=>by
  rw [List.filter_cons] at e;by_cases q:(k == NameKind.cell)=true
  ·rw [if_pos q] at e;cases e
  ·rw [if_neg q] at e;unfold cellsFrom pushCells;rw [if_neg q,if_neg q];exact xT e
theorem zV{x:Str}:∀{names:List (Str × NameKind)}{n:Nat}{acc:List (Str × Addr)}{h:Heap},(names.filter λy=>y.2 == .cell)=[(x,NameKind.cell)]->cellsFrom n names acc=(x,n)::acc/\pushCells h names=h.push { cls:=.type "cell",data:=.cell none }
 | [],_,_,_,e=>by cases e
 | (a,k)::r,n,acc,h,e=>by
  rw [List.filter_cons] at e;by_cases q:(k == NameKind.cell)=true
  ·rw [if_pos q] at e;injection e with e1 e2;have ea:a=x:=congrArg Prod.fst e1;subst ea;unfold cellsFrom pushCells;rw [if_pos q,if_pos q];exact xT e2
  ·rw [if_neg q] at e;unfold cellsFrom pushCells;rw [if_neg q,if_neg q];exact zV e
theorem GV{M:Model}{A:Around}{E:Value->Shared->Prop}{s:Shared}{scope:Scope}{g:Addr}{cl:List (Str × Addr)}{q:Str}{env:Env}{x:Str}{Q:Env->Shared->Prop}(ho:(scope.names.filter λy=>y.2 == .cell)=[(x,NameKind.cell)])
  (h:Q { scope,locals:=s.heap.objs.size,globals:=g,cells:=(x,s.heap.objs.size+1)::cl,qual:=q,func:=none,code:=env.code,frame:=env.frame,builtins:=env.builtins } { s with heap:=(s.heap.push { cls:=.type "dict",data:=.dict #[] }).push { cls:=.type "cell",data:=.cell none } }) :
  wpAny M A (newFunctionEnv scope g cl [] q none .none (some env)) Q E s:=by
 simp only [newFunctionEnv,Option.isSome_some,if_true];refine wpAny_bind (wpAny_alloc ?_);refine wpAny_bind (wpAny_layCells _ (λname kind cells=>by cases hkc:kind == NameKind.cell <;> simp [hkc]) _ _ _ _ ?_);obtain ⟨e1,e2⟩:=zV (n:=({ s with heap:=s.heap.push { cls:=.type "dict",data:=.dict #[] } }:Shared).heap.objs.size) (acc:=cl) (h:=s.heap.push { cls:=.type "dict",data:=.dict #[] }) ho;rw [e1,e2];rw [List.forIn_nil];refine wpAny_bind (wpAny_pure (wpAny_pure ?_));rw [show ({ s with heap:=s.heap.push { cls:=.type "dict",data:=.dict #[] } }:Shared).heap.objs.size=s.heap.objs.size+1 from fC ..];exact h
theorem oS{env:Env}:∀{names:List (Str × NameKind)}{x:Str},names.lookup x=some .cell ->
  (names.map λ(n,k)=>if (k == NameKind.free&&env.scope.kind == .function&&env.kindOf n == some .cell) then (n,NameKind.cell) else (n,k)).lookup x=some .cell
 | [],_,h=>by cases h
 | (n,k)::r,x,h=>by
  rw [List.lookup_cons] at h;rw [bH];dsimp only;by_cases hq:(k == NameKind.free&&env.scope.kind == .function&&env.kindOf n == some .cell)=true
  ·rw [if_pos hq,List.lookup_cons];by_cases e:(x == n)=true
   ·rw [e]
   ·have e':(x == n)=false:=by simpa using e
    rw [e'] at h ⊢;exact oS h
  ·rw [if_neg hq,List.lookup_cons];by_cases e:(x == n)=true
   ·rw [e] at h ⊢;exact h
   ·have e':(x == n)=false:=by simpa using e
    rw [e'] at h ⊢;exact oS h
theorem mQ{env:Env}{x:Str}:∀{names:List (Str × NameKind)}{y:Str}{k:NameKind},(names.map λ(n,k)=>if (k == NameKind.free&&env.scope.kind == .function&&env.kindOf n == some .cell) then (n,NameKind.cell) else (n,k)).lookup y=some k ->
  (k=.cell\/k=.free)->(∀z∈names,z.2=.cell->z.1=x)->y=x\/(y,NameKind.free)∈names
 | [],_,_,h,_,_=>by cases h
 | (n,q)::r,y,k,h,hk,hc=>by
  rw [bH,List.lookup_cons] at h;have ih:=λh=>@mQ env x r y k h hk λz hz=>hc z (aR _ hz);have up:y=x\/(y,NameKind.free)∈r->y=x\/(y,NameKind.free)∈(n,q)::r:=λz=>z.imp id (aR _);by_cases hq:(q == NameKind.free&&env.scope.kind == .function&&env.kindOf n == some .cell)=true
  ·dsimp only at h;rw [if_pos hq] at h;have qf:q=.free:=by
    rw [cM,cM] at hq;simpa using hq.1.1
   subst qf;by_cases e:(y == n)=true
   ·have:y=n:=by simpa using e
    subst this;exact .inr aU
   ·have e':(y == n)=false:=by simpa using e
    dsimp only at h;rw [e'] at h;exact up (ih h)
  ·dsimp only at h;rw [if_neg hq] at h;by_cases e:(y == n)=true
   ·have:y=n:=by simpa using e
    subst this;dsimp only at h;rw [e] at h;have hkq:k=q:=by injection h with h;exact h.symm
    subst hkq;rcases hk with rfl | rfl
    ·exact .inl (hc _ aU rfl)
    ·exact .inr aU
   ·have e':(y == n)=false:=by simpa using e
    dsimp only at h;rw [e'] at h;exact up (ih h)
section
variable{X:Cx}{pins:List (Addr × Obj)}{σ:St}{H:Hp}{s:Shared}{scope:Scope}{x:Str}{N':List Str}{js:List Nat}{fp:List Addr}
theorem iT.cells(S:iT X scope x N' js)(ok:X.Ok):∀y∈scope.names,y.2=.free->∃c,X.env.cells.lookup y.1=some c:=λy hy hf=>ok.has _ (.inl (S.free y hy hf))
theorem iT.cell(S:iT X scope x N' js):∀z∈scope.names,z.2=.cell->z.1=x:=λz hz e=>by
 have:z∈scope.names.filter λy=>y.2 == .cell:=cW.mpr ⟨hz,by rw [e];rfl⟩;rw [S.only] at this;rw [bG.mp this]
theorem oH{y:Str}{C c:Addr}{cl:List (Str × Addr)}(h:((x,C)::cl).lookup y=some c):(y=x/\c=C)\/(y≠x/\cl.lookup y=some c):=by
 rw [List.lookup_cons] at h;by_cases e:(y == x)=true
 ·rw [e] at h;cases h;exact .inl ⟨by simpa using e,rfl⟩
 ·have e':(y == x)=false:=by simpa using e
  rw [e'] at h;exact .inr ⟨λz=>e (by simp [z]),h⟩
theorem FB{y:Str}{C c:Addr}{cl:List (Str × Addr)}(n:y≠x)(h:cl.lookup y=some c):((x,C)::cl).lookup y=some c:=by
 rw [List.lookup_cons,show (y == x)=false by simpa using n];exact h
theorem aAR(S:iT X scope x N' js)(I:cF X pins σ H s)(hf:∀b∈fp,iX X pins H b)(hb:∀b∈fp,b<s.heap.objs.size):(CA X scope x s.heap.objs.size fp s H N').Ok:=by
 have old:∀y c,(vR X scope).lookup y=some c->c<s.heap.objs.size:=λy c h=>by
  obtain ⟨v,o,e,_⟩:=I.cell y c (fK (S.cells I.ok) h);exact aT e
 exact {
  mod:=I.ok.mod
  kind:=S.kind
  glob:=I.ok.glob
  blt:=I.ok.blt
  above:=aI _
  inj:=λy z c h1 h2=>by
   rcases oH h1 with ⟨a1,a2⟩ | ⟨a1,a2⟩ <;> rcases oH h2 with ⟨b1,b2⟩ | ⟨b1,b2⟩
   ·rw [a1,b1]
   ·have:=old _ _ b2;rw [a2] at this;exact absurd (Nat.lt_of_succ_lt this) (bI _)
   ·have:=old _ _ a2;rw [b2] at this;exact absurd (Nat.lt_of_succ_lt this) (bI _)
   ·exact I.ok.inj y z c (fK (S.cells I.ok) a2) (fK (S.cells I.ok) b2)
  has:=λy hy=>by
   have hm:y=x\/(y,NameKind.free)∈scope.names:=by
    rcases hy with hy | hy
    ·exact mQ (env:=X.env) hy (.inl rfl) S.cell
    ·exact mQ (env:=X.env) hy (.inr rfl) S.cell
   by_cases q:y=x
   ·subst q;exact ⟨s.heap.objs.size+1,by show List.lookup y ((y,_)::_)=_;rw [List.lookup_cons,show (y == y)=true by simp]⟩
   ·have hm:=hm.resolve_left q;obtain ⟨c,hc⟩:=S.cells I.ok _ hm rfl;exact ⟨c,FB q (kA (S.cells I.ok) hm hc)⟩
  cab:=λy c hy h=>by
   rcases oH h with ⟨_,a2⟩ | ⟨a1,_⟩
   ·rw [a2];exact Nat.le_succ _
   ·exact absurd (by simpa [CA] using hy) a1
  hd:=λ_=>I.ok.hd S.calm
  frames:=I.ok.frames
  stk:=.inl rfl
  exf:=λb hb'=>⟨λe=>by have:=hb b hb';rw [e] at this;exact bI _ this,λy c h=>by
   rcases oH h with ⟨_,a2⟩ | ⟨_,a2⟩
   ·intro e;have:=hb b hb';rw [<-e,a2] at this;exact absurd (Nat.lt_of_succ_lt this) (bI _)
   ·exact (hf b hb').2.2.2.2.1 y c (fK (S.cells I.ok) a2)⟩
  bs:=I.bs
  bsz:=aK I.ok.bsz I.sz
  noex:=λb o e hb'=>by
   rcases (hf b hb').2.2.2.1 with h | h
   ·exact I.ok.noex b o e h
   ·exact absurd (aO (aT e) (aK I.ok.bsz h)) (bI _)
  exfs:=λb hb' hs=>by
   have h2:=I.stkSub b hs;rcases bC.mp h2 with h2 | h2
   ·exact (hf b hb').2.1 h2
   ·exact (hf b hb').2.2.1 h2
  funs:=I.stack
  frf:=I.stkFree }
theorem WV{h':Heap}{tk:Nat}(S:iT X scope x N' js)(I:cF X pins σ H s)(hf:∀b∈fp,iX X pins H b)(hb:∀b∈fp,b<s.heap.objs.size)
  (hn:h'.Ns s.heap.objs.size (λ_=>none)) (hk:∀b o,s.heap.get? b=some o->h'.get? b=some o) (hc0:h'.IsCell (s.heap.objs.size+1) none):cF (CA X scope x s.heap.objs.size fp s H N') [] (none::slots σ js) H { s with heap:=h',toks:=tk } where
 ok:=aAR S I hf hb
 os:=rfl
 bare:=I.bare
 base:=Un.kept hk
 loc:=by
  refine ⟨_,hn,λi y v hi hv hvis=>?_⟩;cases i with
  | zero=>cases hv
  | succ i =>
   have hv':(slots σ js)[i]?=some (some v):=hv;have hlt:i<js.length:=by
    have:=(aF.mp hv').1;unfold slots at this
    rwa [aA] at this
   have hj:js[i]?=some js[i]:=aB hlt;obtain ⟨z,h1,h2,h3⟩:=S.slot i _ hj;have hzy:z=y:=by
    have:N'[i+1]?=some y:=hi;rw [h1] at this;cases this;rfl
   subst hzy;rw [uG hj] at hv';have hσ:σ[js[i]]?=some (some v):=by
    cases q:σ[js[i]]? with
    | none=>rw [q] at hv';cases hv'
    | some o=>rw [q] at hv';cases hv';rfl
   have hkc:X.env.kindOf z=some .cell:=S.free _ h3 rfl;obtain ⟨m,hm,hl⟩:=I.loc;obtain ⟨u,ru,lk⟩:=hl _ z v h2 hσ (.inr (.inl hkc));rcases lk with ⟨hk1,_⟩ | ⟨_,c,hc,hcell⟩
   ·rw [hkc] at hk1;cases hk1
   ·have nzx:z≠x:=λq=>S.nofx (q ▸ h3);refine ⟨u,ru,.inr ⟨?_,c,FB nzx (kA (S.cells I.ok) h3 hc),?_⟩⟩
    ·rcases hvis with hvis | hvis | hvis
     ·exfalso;have hcl:=kA (S.cells I.ok) h3 hc;have hm2:=mT (l:=(relabel scope X.env).names) hvis;unfold relabel at hm2;obtain ⟨⟨n,k⟩,hmem,he⟩:=aV.mp hm2;dsimp only at he;by_cases hq:(k == NameKind.free&&X.env.scope.kind == .function&&X.env.kindOf n == some .cell)=true
      ·rw [if_pos hq] at he;cases he
      ·rw [if_neg hq] at he;cases he;have:=S.names _ hmem rfl;have l2:=mS h3;obtain ⟨c',l2⟩:=l2;dsimp only at this;rw [this] at l2;have key:(relabel scope X.env).names.lookup z=some .local:=lookup_relabel_local this;have hck:scope.names.lookup z=some .local:=this;exact S.nofl z h3 hck
     ·exact .inl hvis
     ·exact .inr hvis
    ·obtain ⟨o,e,r⟩:=hcell;exact ⟨o,hk _ _ e,r⟩
 cell:=λy c h=>by
  rcases oH h with ⟨_,a2⟩ | ⟨_,a2⟩
  ·rw [a2];exact ⟨none,hc0⟩
  ·obtain ⟨v,o,e,r⟩:=I.cell y c (fK (S.cells I.ok) a2);exact ⟨v,o,hk _ _ e,r⟩
 free:=I.hok.fresh (aI _)
 freeC:=λy c h=>by
  rcases oH h with ⟨_,a2⟩ | ⟨_,a2⟩
  ·rw [a2];exact I.hok.fresh (Nat.le_succ _)
  ·exact I.freeC y c (fK (S.cells I.ok) a2)
 pin:=λp hp=>by cases hp
 hok:=I.hok.kept hk
 len:=by
  show (slots σ js).length+1=N'.length;unfold slots;rw [aA,S.len]
theorem QZ{H2:Hp}{σ':St}{s2:Shared}{h'':Heap}(S:iT X scope x N' js)(I:cF X pins σ H s)(hf:∀b∈fp,iX X pins H b)
  (J:cF (CA X scope x s.heap.objs.size fp s H N') [] σ' H2 s2) (hs:Heap.SameBut s.heap.objs.size s2.heap h''):cF X pins σ H2 { s2 with heap:=h'' }:=by
 have hC:H2 s.heap.objs.size=none:=J.free;have ne:∀{b:Addr} {o:Obj},s.heap.get? b=some o->b≠s.heap.objs.size:=λe q=>by
  have:=aT e;rw [q] at this;exact bI _ this
 refine I.call' (s':={ s2 with heap:=h'' }) (ch:=fp) (by rw [show ({ s2 with heap:=h'' }:Shared).os=s2.os from rfl];exact J.os) ?_ (J.hok.but hC λb u hb q=>hs.extBut b u hb q) J.bare λb hb=>⟨(hf b hb).2.2.2.1,(hf b hb).2.1,(hf b hb).2.2.2.2.1,(hf b hb).2.2.2.2.2⟩;have U:=J.base;exact {
  keep:=λb o e n h1 h2=>hs.extBut b o (ne e) (U.keep b o e n h1 h2)
  slot:=λb o e n h1 h2=>by
   obtain ⟨sl,q⟩:=U.slot b o e n h1 h2;exact ⟨sl,hs.extBut b _ (ne e) q⟩
  free:=U.free
  there:=λb o e h2=>by
   obtain ⟨o',q⟩:=U.there b o e h2;exact ⟨o',hs.extBut b _ (ne e) q⟩
  tups:=U.tups
  frzs:=U.frzs
  tbls:=U.tbls }
end
section
variable{X:Cx}{pins:List (Addr × Obj)}{σ:St}{H:Hp}{s:Shared}{scope:Scope}{x:Str}{N':List Str}{js:List Nat}{fp:List Addr}{elt iter:Expr}{px pos:Pos}{ifs:List Expr}{tc:TT}{te:TE}
theorem EX{J:It}{it:Addr}{tn:Nat->Heap->Prop}{RR:Value->Addr->Result->Shared->Prop}{E:Value->Shared->Prop}{Q:VK}
  (S:iT X scope x N' js) (I:cF X pins σ H s) (T:CN X.prog X.w X.K (.Name x px) J fp it tn) (h0:tn 0 s.heap) (hf:∀b∈fp,iX X pins H b)
  (ht:∀C fp s₀ H₀,JY (CA X scope x C fp s₀ H₀ N') ifs tc) (he:∀C fp s₀ H₀,PE (CA X scope x C fp s₀ H₀ N') elt te)
  (R:∀D,H D=none->∃W:Nat->Nat->List V->Hp->Prop,(∃m,W 0 m [] (upd H D (.lst []))) /\
   ∀i m ys H2,W i m ys H2->H2 D=some (.lst ys)/\((J.stop i H2/\Q (.ref D) H2)\/(J.go i H2/\ys.length<sizeLine/\∀x H3,J.yld i H2 x H3 ->
    tc (some x::slots σ js) H3 λb H4=>if b=true then te (some x::slots σ js) H4 λy H5=>H5 D=some (.lst ys)/\∃m',m' < m/\W (i+1) m' (ys++[y]) (upd H5 D (.lst (ys++[y])))
     else H4 D=some (.lst ys)/\∃m',m' < m/\W (i+1) m' ys H4)))
  (hRR:∀(D:Addr) (H3:Hp) (s3:Shared) (σ':St) (H':Hp) (s':Shared),cF X pins σ H3 s3->(∀b∈fp,iX X pins H3 b)->cF (CA X scope x s3.heap.objs.size fp s3 H3 N') [] σ' H' s'->Q (.ref D) H'->RR (.ref D) s3.heap.objs.size (.ok .next) s') :
  wpAny (model X.prog X.w) X.A (newList []) (λacc s₃=>wpAny (model X.prog X.w) X.A (newFunctionEnv scope X.env.globals (vR X scope) [] X.env.qual none .none (some X.env)) (λcenv s₄ =>
   codeAny (model X.prog X.w) X.A (.compStart (.ListComp elt [⟨.Name x px,iter,ifs,0⟩] scope pos) 0 (.ref it) acc { cenv with scope:=relabel scope X.env }) (RR acc cenv.locals) s₄) E s₃) E s:=by
 have hb:∀b∈fp,b<s.heap.objs.size:=λb hb=>by
  obtain ⟨o,e,_⟩:=T.obj 0 _ h0 b hb;exact aT e
 refine wpAny_newObj_type (GV S.only ?_);have hDn:H s.heap.objs.size=none:=I.hok.fresh (aI _);obtain ⟨W,⟨m0,hw0⟩,hW⟩:=R _ hDn;have I3:cF X pins σ (upd H s.heap.objs.size (.lst [])) { s with heap:=s.heap.push { cls:=.type "list",dict:=none,data:=.seq ([]:List Value).toArray } }:=I.lnew (its:=[]) (ys:=[]) (t':=s.toks) .nil (cE _);have hf3:∀b∈fp,iX X pins (upd H s.heap.objs.size (.lst [])) b:=λb hb' =>
  ⟨by rw [cX (λe=>by have:=hb b hb';rw [e] at this;exact bI _ this)];exact (hf b hb').1,(hf b hb').2⟩
 have hb3:∀b∈fp,b<(s.heap.push { cls:=.type "list",dict:=none,data:=.seq ([]:List Value).toArray }).objs.size:=λb hb'=>by
  rw [fC];exact Nat.lt_succ_of_lt (hb b hb')
 have hns₁:=(Heap.Ns.new (s.heap.push { cls:=.type "list",dict:=none,data:=.seq ([]:List Value).toArray }) (.type "dict")).keeps λb o e=>aC { cls:=.type "cell",data:=.cell none } e;have hcl₁:(((s.heap.push { cls:=.type "list",dict:=none,data:=.seq ([]:List Value).toArray }).push { cls:=.type "dict",data:=.dict #[] }).push { cls:=.type "cell",data:=.cell none }).IsCell ((s.heap.push { cls:=.type "list",dict:=none,data:=.seq ([]:List Value).toArray }).objs.size+1) none :=
  ⟨_,by rw [<-fC (s.heap.push { cls:=.type "list",dict:=none,data:=.seq ([]:List Value).toArray }) { cls:=.type "dict",data:=.dict #[] }];exact bB _ rfl,rfl⟩
 have hkp₁:∀b o,(s.heap.push { cls:=.type "list",dict:=none,data:=.seq ([]:List Value).toArray }).get? b=some o->(((s.heap.push { cls:=.type "list",dict:=none,data:=.seq ([]:List Value).toArray }).push { cls:=.type "dict",data:=.dict #[] }).push { cls:=.type "cell",data:=.cell none }).get? b=some o:=λb o e=>aC _ (aC _ e);show codeAny _ _ (.compStart _ 0 (.ref it) (.ref s.heap.objs.size) (compEnvC scope ((x,(s.heap.push { cls:=.type "list",dict:=none,data:=.seq ([]:List Value).toArray }).objs.size+1)::vR X scope) (s.heap.push { cls:=.type "list",dict:=none,data:=.seq ([]:List Value).toArray }).objs.size X.env)) _ { s with heap:=(((s.heap.push { cls:=.type "list",dict:=none,data:=.seq ([]:List Value).toArray }).push { cls:=.type "dict",data:=.dict #[] }).push { cls:=.type "cell",data:=.cell none }) };generalize ((s.heap.push { cls:=.type "list",dict:=none,data:=.seq ([]:List Value).toArray }).push { cls:=.type "dict",data:=.dict #[] }).push { cls:=.type "cell",data:=.cell none }=h₁ at hns₁ hcl₁ hkp₁ ⊢;have hkeep:∀b o,(s.heap.push { cls:=.type "list",dict:=none,data:=.seq ([]:List Value).toArray }).get? b=some o->h₁.get? b=some o:=hkp₁;have J4:=WV (h':=h₁) (tk:=s.toks) S I3 hf3 hb3 hns₁ hkeep hcl₁;have t4:tn 0 h₁:=T.keep 0 _ _ h0 λb hb' o e=>hkeep b o (aC _ e)
 have loop:codeAny (model X.prog X.w) X.A (.compLoop (.ListComp elt [⟨.Name x px,iter,ifs,0⟩] scope pos) 0 (.ref it) (.ref s.heap.objs.size) (compEnvC scope ((x,(s.heap.push { cls:=.type "list",dict:=none,data:=.seq ([]:List Value).toArray }).objs.size+1)::vR X scope) (s.heap.push { cls:=.type "list",dict:=none,data:=.seq ([]:List Value).toArray }).objs.size X.env))
   (RR (.ref s.heap.objs.size) (s.heap.push { cls:=.type "list",dict:=none,data:=.seq ([]:List Value).toArray }).objs.size) { s with heap:=h₁ }:=by
  refine oZ (λn s'=>∃(i:Nat) (ys:List V) (H2:Hp) (o:Option V),cF (CA X scope x _ fp _ _ N') [] (o::slots σ js) H2 s'/\tn i s'.heap/\(∀b∈fp,H2 b=none)/\W i n ys H2) ?_ m0 ⟨0,[],_,none,J4,t4,λb hb'=>(hf3 b hb').1,hw0⟩;rintro n s' ⟨i,ys,H2,o,J2,t2,f2,w2⟩;obtain ⟨hD,hcase⟩:=hW i n ys H2 w2;have Fp:∀b∈fp,iX (CA X scope x (s.heap.push { cls:=.type "list",dict:=none,data:=.seq ([]:List Value).toArray }).objs.size fp { s with heap:=s.heap.push { cls:=.type "list",dict:=none,data:=.seq ([]:List Value).toArray } } (upd H s.heap.objs.size (.lst [])) N') [] H2 b:=λb hb' =>
   ⟨f2 b hb',(J2.ok.exf b hb').1,J2.ok.exfs b hb',.inl hb',(J2.ok.exf b hb').2,λp hp=>by cases hp⟩
  rcases hcase with ⟨hstop,hq⟩ | ⟨hgo,hz,hturn⟩
  ·refine wpAny_mono (T.done (CA X scope x _ fp _ _ N') rfl rfl rfl rfl i [] s' _ H2 MT J2 Fp t2 hstop) (λr s1 ⟨hr,J5⟩=>?_) λ_ _ f=>f;subst hr;exact hRR _ _ _ _ _ _ I3 hf3 J5 hq
  ·refine wpAny_mono (T.item (CA X scope x _ fp _ _ N') rfl rfl rfl rfl i [] s' _ H2 MT J2 Fp t2 hgo) (λr s1 ⟨u,hr,hx⟩=>?_) λ_ _ f=>f;subst hr;refine wpAny_mono hx (λ_ s2 ⟨v,H3,J3,rv,hy,t3,f3⟩=>?_) λ_ _ f=>f;have Fp3:∀b∈fp,iX (CA X scope x (s.heap.push { cls:=.type "list",dict:=none,data:=.seq ([]:List Value).toArray }).objs.size fp { s with heap:=s.heap.push { cls:=.type "list",dict:=none,data:=.seq ([]:List Value).toArray } } (upd H s.heap.objs.size (.lst [])) N') [] H3 b:=λb hb' =>
    ⟨f3 b hb',(J3.ok.exf b hb').1,J3.ok.exfs b hb',.inl hb',(J3.ok.exf b hb').2,λp hp=>by cases hp⟩
   have P3:=J3.pinned Fp3 (T.obj (i+1) _ t3);have keepT:∀{σ':St} {Hx:Hp} {sx:Shared},cF (CA X scope x (s.heap.push { cls:=.type "list",dict:=none,data:=.seq ([]:List Value).toArray }).objs.size fp { s with heap:=s.heap.push { cls:=.type "list",dict:=none,data:=.seq ([]:List Value).toArray } } (upd H s.heap.objs.size (.lst [])) N') ([]++rQ fp s2.heap) σ' Hx sx->tn (i+1) sx.heap/\∀b∈fp,Hx b=none:=λJx =>
    ⟨T.keep (i+1) _ _ t3 λb hb' ob e=>(Jx.pin (b,ob) (aN _ (aN _ (iN hb' e)))).1,λb hb'=>by
     obtain ⟨ob,e,_⟩:=T.obj (i+1) _ t3 b hb';exact (Jx.pin (b,ob) (aN _ (aN _ (iN hb' e)))).2.1⟩
   refine wpAny_assign_Name (nT P3 (i:=0) (x:=x) (v:=v) ?nd ?hi ?hx rv (λs5 J5=>?_) ?hfn)
   case nd=>exact S.nd
   case hi=>exact S.zero
   case hx=>exact .inr (oS S.own)
   case hfn=>exact .inl (by simp [CA])
   have J5':cF _ _ (some v::slots σ js) H3 s5:=J5;refine wpAny_mono (ht _ _ _ _ _ _ _ _ _ J5' (hturn v H3 hy)) (λok s6 ⟨H6,J6,q6⟩=>?_) λ_ _ f=>f;dsimp only at q6;by_cases hok:ok=true
   ·rw [if_pos hok] at q6 ⊢;refine wpAny_mono (he _ _ _ _ _ _ _ _ _ J6 q6) (λy s7 ⟨w',H7,J7,r7,hD7,m',hm',w7⟩=>?_) λ_ _ f=>f;refine wpAny_mono (qT (X:=CA X scope x _ fp _ _ N') _ _ _ _ (.ref s.heap.objs.size) [w'] (.ref s.heap.objs.size) [y] (λ_ H8=>H8=upd H7 s.heap.objs.size (.lst (ys++[w']))) J7 rfl (.cons r7 .nil) ⟨_,_,_,rfl,rfl,hD7,hz,rfl⟩) (λ_ s8 ⟨_,H8,J8,_,e8⟩=>?_) λ_ _ f=>f;subst e8;obtain ⟨k1,k2⟩:=keepT J8;exact ⟨m',hm',i+1,ys++[w'],_,some v,J8.unpinned,k1,k2,w7⟩
   ·rw [if_neg hok] at q6 ⊢;obtain ⟨_,m',hm',w7⟩:=q6;obtain ⟨k1,k2⟩:=keepT J6;exact ⟨m',hm',i+1,ys,_,some v,J6.unpinned,k1,k2,w7⟩
 refine codeAny_compStart_list loop (T.self X.A 0 _ _ _ t4 loop)
theorem DV{wi:TI}{y:Str}{py spos:Pos}{i:Nat}(S:iT X scope x N' js)(hN:X.N.Nodup)(hiN:X.N[i]?=some y)(hy:X.env.kindOf y=some .local)(hi:PI X (.Name x px) iter wi)(ht:∀C fp s₀ H₀,JY (CA X scope x C fp s₀ H₀ N') ifs tc)(he:∀C fp s₀ H₀,PE (CA X scope x C fp s₀ H₀ N') elt te)
  (hsw:swapsWith (.ListComp elt [⟨.Name x px,iter,ifs,0⟩] scope pos) (some (.Name y py)) spos.line X.env=pure true) (hs:∀x,foldedSetIterable iter X.env x=pure x:=by intro _;rfl) :
  PS X (.Assign [.Name y py] (.ListComp elt [⟨.Name x px,iter,ifs,0⟩] scope pos) spos) (yE (NO wi js tc te) (mW i)):=by
 intro pins s σ H D0 I h;rw [exec_Assign_Name_used _ _ _ _ hsw];refine wpAny_bind (wpAny_standAt (wpAny_bind ?_));show wpAny _ X.A (do let _ <-comprehension (.ListComp elt [⟨.Name x px,iter,ifs,0⟩] scope pos) scope X.env _ (newList []) false (eval iter X.env) (some (assign (.Name y py) X.env))) _ _ s;refine wpAny_bind (wpAny_mono (wpAny_comprehension_free (use:=some (assign (.Name y py) X.env)) (Q:=λ_ s'=>SP X pins D0 .next s') rfl hs (jG (S.cells I.ok)) S.kind S.names (wpAny_mono (hi pins s σ H _ I h) (λv s1 h1=>?_) λ_ _ e=>e)) (λ_ s' hq=>wpAny_pure (wpAny_pure hq)) λ_ _ e=>e);refine wpAny_mono h1 (λitv s2 ⟨it,fp,tn,J,H2,e,I2,T,t0,hf,R⟩=>?_) λ_ _ e=>e;subst e;refine EX (Q:=λv H'=>mW i v σ H' D0.nx) S I2 T t0 hf ht he R ?_;intro D H3 s3 σ' H' s' I3 hf3 J3 q;obtain ⟨m,hm,_⟩:=J3.loc;have IX:cF X pins σ H' s':=QZ S I3 hf3 J3 (Heap.SameBut.refl ..);have hCL:s3.heap.objs.size≠X.env.locals:=λe=>by have:=I3.lt;rw [e] at this;exact bI _ this
 show wpAny _ X.A (assign (.Name y py) X.env (.ref D)) _ _ _;refine wpAny_assign_Name (qQ IX hN hiN (.inl hy) (v:=.ref D) rfl (λs5 I5 hsb=>?_) (.inr hy));obtain ⟨a,hsb,ha⟩:=hsb;have hCa:s3.heap.objs.size≠a:=by
  rcases ha with rfl | ha
  ·exact hCL
  ·intro e;obtain ⟨v,o,eo,_⟩:=I3.cell y a ha;have:=aT eo;rw [<-e] at this;exact bI _ this
 refine ⟨m,hm.sameBut hsb hCa,λh' hs'=>⟨_,H',?_,q⟩⟩;exact I5.turned (it:=s3.heap.objs.size) (t':=s5.toks) (λb o n e=>hs'.extBut b o n e) J3.free hCL (.inr I3.sz)
  (λz c hz e=>by
   obtain ⟨v,o,eo,_⟩:=I3.cell z c hz;have:=aT eo;rw [e] at this;exact bI _ this)
  (λp hp e=>by
   have:=aT (I3.pin p hp).1;rw [e] at this;exact bI _ this)
theorem CV{wi:TI}{y:Str}{py spos:Pos}{i:Nat}(S:iT X scope x N' js)(hN:X.N.Nodup)(hiN:X.N[i]?=some y)(hy:X.env.kindOf y=some .local)(hi:SC X (.Name x px) iter wi)(ht:∀C fp s₀ H₀,HP (CA X scope x C fp s₀ H₀ N') ifs tc)(he:∀C fp s₀ H₀,iG (CA X scope x C fp s₀ H₀ N') elt te)
  (hsw:swapsWith (.ListComp elt [⟨.Name x px,iter,ifs,0⟩] scope pos) (some (.Name y py)) spos.line X.env=pure true:=by rfl) (hs:∀x,foldedSetIterable iter X.env x=pure x:=by intro _;rfl) :
  FM X (.Assign [.Name y py] (.ListComp elt [⟨.Name x px,iter,ifs,0⟩] scope pos) spos) (yE (uB wi js tc te) (mW i)) :=
 ⟨by unfold uB lE;exact DV S hN hiN hy hi.p (λC fp s₀ H₀=>(ht C fp s₀ H₀).p.mono) (λC fp s₀ H₀=>(he C fp s₀ H₀).p.mono) hsw hs⟩
end
def YZ(psc scope:Scope)(N:List Str)(x:Str)(N':List Str)(js:List Nat):Bool :=
 (scope.names.all λy=>!(y.2 == .free) || psc.names.lookup y.1 == some .cell)&&(scope.names.filter λy=>y.2 == .cell) == [(x,NameKind.cell)]&&scope.kind == .function &&
 (scope.names.all λy=>!(y.2 == .local) || scope.names.lookup y.1 == some .local)&&scope.names.lookup x == some .cell &&
 (scope.names.all λy=>!(y.2 == .free) || (!(scope.names.lookup y.1 == some .local) && !(y.1 == x)))&&N'.length == js.length+1&&N'[0]? == some x&&decide N'.Nodup &&
 ((List.range js.length).all λi=>match js[i]?,N'[i+1]? with
  | some j,some y=>N[j]? == some y&&scope.names.contains (y,NameKind.free)
  | _,_=>false)
theorem iT.of{X:Cx}{psc scope:Scope}{N:List Str}{x:Str}{N':List Str}{js:List Nat}(h:YZ psc scope N x N' js=true)(hX:X.env.scope=psc)(hN:X.N=N)(hc:X.calm=true):iT X scope x N' js:=by
 unfold YZ at h;simp only [cM] at h;obtain ⟨⟨⟨⟨⟨⟨⟨⟨⟨h1,h2⟩,h3⟩,h4⟩,h5⟩,h6⟩,h7⟩,h8⟩,h9⟩,h10⟩:=h;rw [List.all_eq_true] at h1 h4 h6 h10;refine ⟨hc,λy hy e=>?_,by simpa using h2,by simpa using h3,λy hy e=>?_,by simpa using h5,λy hy e=>?_,λhy=>?_,by simpa using h7,by simpa using h8,of_decide_eq_true h9,λi j hj=>?_⟩
 ·have:=h1 y hy;rw [e] at this;show X.env.scope.names.lookup y.1=_;rw [hX];simpa using this
 ·have:=h4 y hy;rw [e] at this;simpa using this
 ·have:=h6 _ hy;simp [e] at this
 ·have:=h6 _ hy;simp at this
 ·have hi:i<js.length:=(aF.mp hj).1;have:=h10 i (bR.mpr hi);rw [hj] at this;cases q:N'[i+1]? with
  | none=>rw [q] at this;simp at this
  | some y =>
   rw [q] at this;simp only [cM] at this;exact ⟨y,rfl,by rw [hN];simpa using this.1,List.contains_iff_mem.mp this.2⟩
end L2
namespace Kw
open PySem L2 Mf
abbrev UQ:Stmt:=(top 59)
theorem aDJ:cA ["_law_counts_here"] ["_law_counts_here"] (aX UQ):=⟨rfl,rfl,rfl,Kk,rfl,Kk,Kk⟩
abbrev YN:Stmt:=(top 58)
theorem XD:cA ["_law_rule","_law_faces","_law_ways","_law_most","_law_due","_law_at","_law_says","_law_plain","_law_more_here","_law_rest"] ["_law_rule","_law_faces","_law_ways","_law_most"] (aX YN):=⟨rfl,rfl,rfl,Kk,rfl,Kk,Kk⟩
@[irreducible] def pN:Sp:=λvs H Q _=>∃(cv:V) (cc:List Nat),vs=[cv]/\cC H (kC cc) cv/\∀v H',aY H H'->cC H' (QJ (rk cc)) v->Q v H'
theorem GC(h1:cC H (kC cc) cv)(k:∀v H',aY H H'->cC H' (QJ (rk cc)) v->Q v H'):pN [cv] H Q E:=by
 unfold pN;exact ⟨cv,cc,rfl,h1,k⟩
theorem rkD(cc:List Nat):QJ (rk cc)=.tuple [.int (cc.sum:Int),kC cc]:=by
 show PyData.tuple [.int (cc.sum:Int),PyData.tuple ((ci cc).map .int)]=_;rw [ctI]
theorem yM.k{K:PySem.W.Frag}{H:Hp}{f:Fr}{x:V}(h:yM K H f x):kP K H (fY f) x:=by
 rcases h with h | ⟨a,rfl,h⟩
 ·exact h.k
 ·exact kP.tup (DE h) (jI.ints [f.1,f.2])
theorem rE.k{K:PySem.W.Frag}{H:Hp}:∀{fs:List Fr}{xs:List V},rE K H fs xs->jI K H (fs.map fY) xs
 | [],xs,h=>by
  have:xs=[]:=List.eq_nil_of_length_eq_zero h.len;subst this;unfold jI;rfl
 | f::fs,[],h=>by have:=h.len;simp at this
 | f::fs,x::xs,h=>by
  rw [bH];unfold jI;obtain ⟨g,h1,h2⟩:=h.at_ 0 x rfl;cases h1;exact ⟨x,xs,rfl,h2.k,rE.k ⟨by have:=h.len;simpa using this,λi y hy=>h.at_ (i+1) y (by simpa using hy)⟩⟩
theorem ML.k{K:PySem.W.Frag}{H:Hp}{fs:List Fr}{z:V}(h:ML K H fs z):kP K H (pE fs) z:=by
 obtain ⟨sa,sx,rfl,h1,h2⟩:=h;exact kP.tup (jH.of h1) h2.k
theorem aAl{W b:Nat}:∀f∈rY W b,mZ 1900 f:=λf hf=>by
 obtain ⟨k,_,rfl⟩:=aV.mp hf;have e:(1:Nat)<2^1900:=Nat.one_lt_two_pow Dd;split
 ·exact ⟨e,e⟩
 ·exact ⟨Nat.lt_trans Nat.zero_lt_one e,e⟩
theorem PF{W b:Nat}(h:W<=4):Sw 3 19264 (pE (rY W b)):=Sw.frs (k:=5) aAl (by unfold rY;rw [aA,aZ];omega)
theorem BW(f g:Fr):PyData.eqv (fY f) (fY g)=decide (f=g):=by
 have:=aAO [f.1,f.2] [g.1,g.2];rw [show PyData.eqv (fY f) (fY g)=PyData.eqv (cD [f.1,f.2]) (cD [g.1,g.2]) from rfl,this];by_cases h:f=g
 ·subst h;simp
 ·have:¬[f.1,f.2]=[g.1,g.2]:=λz=>h (by
   injection z with z1 z2;injection z2 with z2 _;exact Prod.ext z1 z2)
  rw [cH h,cH this]
theorem lY(f:Fr):SeqAt.shaped (fY f)=true:=rfl
@[irreducible] def nZ(K:PySem.W.Frag):Sp:=λvs H Q _=>∃(r:V) (F W M:Nat) (best:List Nat->Nat),vs=[r,.int (F:Int),.int (W:Int),.int (M:Int)]/\MM K H (rul F W M best) r/\uZ F W M best/\2<=F/\(∀c∈rise F M,best c<=W)/\(rise F M).length<=56/\∀H',aY H H'->Q (.bl true) H'
theorem DH{K:PySem.W.Frag}(h1:MM K H (rul F W M best) r)(h2:uZ F W M best)(h3:2<=F)(h4:∀c∈rise F M,best c<=W)(h5:(rise F M).length<=56)(k:∀H',aY H H'->Q (.bl true) H'):nZ K [r,.int (F:Int),.int (W:Int),.int (M:Int)] H Q E:=by
 unfold nZ;exact ⟨r,F,W,M,best,rfl,h1,h2,h3,h4,h5,k⟩
section
theorem aDl(F:jT K "_law_rank" "_law_rank" UQ f fd)(T:lB K mg c):dY P w K mg base dP 1 f fd ["_law_counts_here"] pN:=by
 refine F.oky aDJ λvs H Q E h=>?_;unfold pN at h;obtain ⟨cv,cc,rfl,rc,k⟩:=h;refine ⟨rfl,λcdv A outer s hr=>?_⟩;obtain ⟨ac,rfl,hac⟩:=gG rc;refine ⟨_,(bD (cI (dS (aJ (eG (qZ K rfl) (by rfl) T.b_sum Kk (aJ (aD 0) aE)) (aJ (aD 0) aE))))),?_⟩;refine ⟨_,rfl,?_⟩;refine rsT (ns:=ci cc) (by rw [eE];exact jH.of hac) ?_;rw [uU];refine ⟨_,rfl,?_⟩;refine pY (by show 2<=64;decide) λq1 H1 hq1 e1 s1=>?_;refine k _ H1 s1 ?_;rw [rkD];exact cC.tup e1 (aW.cons (cC.int _) (aW.cons (rc.same s1) aW.nil))
theorem oQ8(F:jT K "_law_is_plain_rule" "_law_is_plain_rule" YN f fd)(T:lB K mg c)(FQ10:gM dP P w K mg base 1 "_law_more" ["_law_counts_here","_law_face"] fI)(FQ14:gM dP P w K mg base 1 "_law_rank" ["_law_counts_here"] pN):dY P w K mg base dP 4 f fd ["_law_rule","_law_faces","_law_ways","_law_most"] (nZ K):=by
 refine F.oky XD λvs H Q E h=>?_;unfold nZ at h;obtain ⟨r,F,W,M,best,rfl,rr,PL,f2,bw,r56,k⟩:=h;refine ⟨rfl,λcdv A outer s hr=>?_⟩;obtain ⟨a,xs,rfl,ha,lx,hxs⟩:=rr;have f1:=PL.f1;have f4:=PL.f4;have w4:=PL.w4;have m5:=PL.m5;have I:kO F M best:=⟨f1,f4,m5,PL.on⟩;have lxR:xs.length=(fL F M best).length:=by rw [lx];unfold rul;rw [aA]
 have lR:(fL F M best).length<=56:=aK (jL f1).length_le r56;have lR0:0<(fL F M best).length:=by obtain ⟨r,hr⟩:=wZ (F:=F) (M:=M) (best:=best);rw [hr];exact Nat.succ_pos _
 refine ⟨_,(aH (kE (FR (rN (eG RI (by rfl) T.b_isinstance Kk (aJ (aD 0) (aJ (IA (v:=.ty "tuple") (u:=.type "tuple") rfl T.b_tuple Kk rfl) aE))))) (bD (cI vB)) gC)
  (aH (bK (i:=4) XD.nd rfl (Or.inr rfl) (iI (aJ (bQ vY (dS (aJ aL aE)) (aD 1)) aE)))
  (aH (bK (i:=5) XD.nd rfl (Or.inr rfl) aL)
  (aH (rZ PassesOwn.never (FQ (AG (eQ xC (aD 5) (eG gB (by rfl) T.b_len Kk (aJ (aD 4) aE)) (nomark _)) (vT (eQ xC (aD 5) (eG gB (by rfl) T.b_len Kk (aJ (aD 0) aE)) (nomark _))))) (aH (kE (vU (FQ (HX (FR (rN (eG RI (by rfl) T.b_isinstance Kk (aJ (bT bL (aD 0) (aD 5) (λ_ _=>rfl)) (aJ (IA (v:=.ty "tuple") (u:=.type "tuple") rfl T.b_tuple Kk rfl) aE))))) (HX (eQ DX (eG gB (by rfl) T.b_len Kk (aJ (bT bL (aD 0) (aD 5) (λ_ _=>rfl)) aE)) aL (nomark _)) (FP (eQ DX (eG (tO hr.gd hr.units) (by rfl) T.b_repr Kk (aJ (bT bL (bT bL (aD 0) (aD 5) (λ_ _=>rfl)) aL (λ_ _=>rfl)) aE)) (eG (tO hr.gd hr.units) (by rfl) T.b_repr Kk (aJ (bT bL (aD 4) (aD 5) (λ_ _=>rfl)) aE)) (nomark _))))))) (bD (cI vB)) gC)
  (aH (bK (i:=6) XD.nd rfl (Or.inl rfl) (bT bL (bT bL (aD 0) (aD 5) (λ_ _=>rfl)) aL (λ_ _=>rfl)))
  (aH (CV (i:=7) (iT.of (psc:=aX YN) (N:=["_law_rule","_law_faces","_law_ways","_law_most","_law_due","_law_at","_law_says","_law_plain","_law_more_here","_law_rest"]) (N':=["_law_place","_law_ways"]) (js:=[2]) Kk rfl rfl rfl) XD.nd rfl rfl (cP rfl T.b_range (aJ (bQ dQ aL (aD 2)) aE)) (λ_ _ _ _=>dR) (λ_ _ _ _=>(nB (XA K) (by rfl) T.b_tuple Kk (aJ (fR (dI.of (N:=["_law_place","_law_ways"]) (N':=["_law_k","_law_place"]) (js:=[0]) (by kernel_rfl) rfl rfl rfl) (cP rfl T.b_range (aJ (bQ dQ aL (aD 1)) aE)) (λ_ _ _ _=>dR) (λ_ _ _ _=>(dS (aJ (nB zW (by rfl) T.b_int Kk (aJ (wN vJ (aD 0) (aD 1) (nomark _)) aE)) (aJ aL aE))))) aE))))
  (aH (kE (vU (FQ (HX (eQ BL (eG (RH K hr.gd hr.units) (by rfl) T.b_repr Kk (aJ (aD 6) aE)) (fR (dI.of (psc:=aX YN) (N:=["_law_rule","_law_faces","_law_ways","_law_most","_law_due","_law_at","_law_says","_law_plain","_law_more_here","_law_rest"]) (N':=["_law_one"]) (js:=[]) Kk rfl rfl rfl) (fD (aD 7)) (λ_ _ _ _=>dR) (λ_ _ _ _=>(eG (tO hr.gd hr.units) (by rfl) T.b_repr Kk (aJ (aD 0) aE)))) (by with_unfolding_all rfl)) (FP (FQ (AG (eQ (PY K hr.units) (bT bL (aD 6) aL (λ_ _=>rfl)) (dS (aJ aL (aJ aL aE))) (nomark _)) (vT (eQ vJ (eG (qZ K rfl) (by rfl) T.b_sum Kk (aJ (bT bL (aD 4) (aD 5) (λ_ _=>rfl)) aE)) (aD 3) (nomark _))))))))) (bD (cI vB)) gC)
  (aH (wJ (kE (eQ (PY K hr.units) (bT bL (aD 6) aL (λ_ _=>rfl)) (dS (aJ aL (aJ aL aE))) (nomark _)) (aH (gZ (i:=8) (dI.of (psc:=aX YN) (N:=["_law_rule","_law_faces","_law_ways","_law_most","_law_due","_law_at","_law_says","_law_plain","_law_more_here","_law_rest"]) (N':=["_law_face","_law_due","_law_at"]) (js:=[4,5]) Kk rfl rfl rfl) XD.nd rfl rfl (cP rfl T.b_range (aJ (aD 1) aE)) (λ_ _ _ _=>dR) (λ_ _ _ _=>(bS FQ10 (hr.mono Dd) (aJ (bT (iS K) (aD 1) (aD 2) (λ_ _=>rfl)) (aJ (aD 0) aE)))))
  (aH (bK (i:=9) XD.nd rfl (Or.inl rfl) (bQ xD (iZ (pV K) (aD 4) (kQ (bQ dQ (aD 5) aL)) kR) (fR (dI.of (psc:=aX YN) (N:=["_law_rule","_law_faces","_law_ways","_law_most","_law_due","_law_at","_law_says","_law_plain","_law_more_here","_law_rest"]) (N':=["_law_one","_law_due"]) (js:=[4]) Kk rfl rfl rfl) (fD (aD 8)) (λ_ _ _ _=>AH (eQ (LJ K hr.units) (aD 0) (aD 1) (by with_unfolding_all rfl))) (λ_ _ _ _=>(aD 0)))))
  (bD (bK (i:=4) XD.nd rfl (Or.inr rfl) (bQ xD (iZ (pV K) (aD 4) kR (kQ (bQ dQ (aD 5) aL))) (ST K FQ14 (hr.mono Dd) (by rfl) T.b_sorted (aD 9))))))) gC))
  (bD (bK (i:=5) XD.nd rfl (Or.inr rfl) (bQ dQ (aD 5) aL)))))))))
  (bD (cI (wN vJ (eG gB (by rfl) T.b_len Kk (aJ (aD 4) aE)) (eG gB (by rfl) T.b_len Kk (aJ (aD 0) aE)) (nomark _)))))))),?_⟩
 refine ⟨_,rfl,?_⟩;refine rist ha ?_;refine ⟨_,rfl,?_⟩;refine HE ?_;refine pY (by show 1<=64;decide) λq1 H1 hq1 e1 s1=>?_;refine ⟨_,rfl,?_⟩;refine WJ (k:=F) e1 f2 Oo λq2 H2 s2 e2=>?_;refine DY (by show 1<=64;decide) λL H3 hL e3 s3=>?_;have S3:=(s1.trans s2).trans s3;have du0:tJ F best (fL F M best) 0=[List.replicate F 0]:=by
  obtain ⟨r,hr⟩:=wZ (F:=F) (M:=M) (best:=best);have:=I.split (j:=0) (k:=1) (aI _);rw [this];have e:((fL F M best).drop 1).filter (LW F best (fL F M best) 0)=[]:=by
   refine List.filter_eq_nil_iff.mpr λd hd hb=>?_;rw [qY] at hb;rcases hb with hb | ⟨c,hc,_⟩
   ·have nd:=I.nd;rw [hr,List.nodup_cons] at nd;rw [hr,List.drop_one,List.tail_cons] at hd;exact nd.1 (hb ▸ hd)
   ·rw [List.take_zero] at hc;cases hc
  rw [e,List.append_nil,hr];rfl
 have L3:iD H3 L (tJ F best (fL F M best) 0):=by
  rw [du0];refine ⟨_,e3,aW.cons (nM ?_) aW.nil⟩;rw [s3 _ _ e2,List.map_replicate];rfl
 refine vV (λm σ H'=>∃(L:Addr) (j:Nat) (o6 o7 o8 o9:Option V),σ=[some (.ref a),some (.int (F:Int)),some (.int (W:Int)),some (.int (M:Int)),some (.ref L),some (.int (j:Int)),o6,o7,o8,o9]/\aY H H'/\iD H' L (tJ F best (fL F M best) j)/\j<=(fL F M best).length/\m=(fL F M best).length-j)
  (λσ H'=>∃(L:Addr) (j:Nat) (o6 o7 o8 o9:Option V),σ=[some (.ref a),some (.int (F:Int)),some (.int (W:Int)),some (.int (M:Int)),some (.ref L),some (.int (j:Int)),o6,o7,o8,o9]/\aY H H'/\iD H' L (fL F M best))
  _ ⟨L,0,_,_,_,_,rfl,S3,L3,cE _,rfl⟩ ?_ ?_
 ·clear e1 e2 e3 s1 s2 s3 S3 L3 hL hq1 du0;rintro m σ H1 ⟨L,j,o6,o7,o8,o9,rfl,S1,LS,hj,rfl⟩;obtain ⟨vs,eL,rL,lL⟩:=LS.len;have ld:=kO.dlen (F:=F) (M:=M) (best:=best) j;have ha1:=S1 _ _ ha;by_cases hlt:j<(fL F M best).length
  ·obtain ⟨cc,hc⟩:∃cc,(fL F M best)[j]?=some cc:=⟨_,aB hlt⟩;have hcm:=aG hc;have hcr:=(jL f1).subset hcm;obtain ⟨lc,sc⟩:=(gT f1).mp hcr;have hat:=I.at hc;have ldj:j<(tJ F best (fL F M best) j).length:=(aF.mp hat).1;obtain ⟨y,hy,ry⟩:=eI rL hat;obtain ⟨x,hx⟩:∃x,xs[j]?=some x:=⟨_,aB Oo⟩;obtain ⟨e,he,en⟩:=hxs j x hx;have ee:e=plE W best cc:=by
    unfold rul at he;rw [aM,hc] at he;simpa using he.symm
   subst ee;obtain ⟨b,cu,z,rfl,hb,hcu,sz⟩:=en.t S1.t;have hcu:H1 cu=some (.tup (cc.map zU)):=hcu;have sz:ML K H1 (rY W (best cc)) z:=sz;refine ⟨_,rfl,_,rfl,?_⟩;refine OP eL ?_;refine ⟨_,_,rfl,rfl,_,rfl,?_⟩;refine EL (cO Oo) ?_;refine ⟨_,rfl,_,rfl,?_⟩;refine KZ ha1 ?_;refine ⟨_,_,rfl,rfl,_,rfl,?_⟩;refine EL (cO Oo) ?_;have sw:Sw 2 7700 (kC cc):=(Sw.cts (k:=4) (c:=cc) (λn hn=>by
    obtain ⟨i,hi⟩:=cV.mp hn;have:=IF hi;omega) Oo).le
   refine ⟨λb H'=>H'=H1/\b=false,?_,?_⟩
   ·refine ⟨_,rfl,_,rfl,?_⟩;refine lA ha1 (cT hx) ?_;refine rist hb ?_;refine ⟨_,rfl,?_⟩;refine qD rfl ?_;refine ⟨_,rfl,_,rfl,?_⟩;refine lA ha1 (cT hx) ?_;refine KZ hb ?_;refine ⟨rfl,_,rfl,?_⟩;refine qD (by simp) ?_;refine ⟨_,rfl,_,rfl,?_⟩;refine lA ha1 (cT hx) ?_;refine lA hb rfl ?_;refine rrW (nM hcu) sw Dd Dd ?_;refine ⟨_,rfl,_,rfl,?_⟩;refine FO eL (cT hy) ?_;refine rrW ry sw Dd Dd ?_;exact ⟨rfl,_,rfl,rfl,by simp⟩
   rintro b' H' ⟨rfl,rfl⟩;refine HE ?_;refine ⟨_,rfl,_,rfl,?_⟩;refine lA ha1 (cT hx) ?_;refine lA hb rfl ?_;refine ⟨_,rfl,_,_,rfl,rfl,?_⟩;refine ⟨_,rfl,Oo,Oo,?_⟩;refine gW (λi y H'=>i<1+W/\cC H' (pE (rY W i)) y) (λi y Ha Hb s ⟨h0,h⟩=>⟨h0,h.flat s (jW _)⟩) Oo (λi H4 Q4 hi s4 k4=>?_) (λD ps H4 hD e4 s4 hy4 hr4=>?_)
   ·have hi:i<1+W:=Oo;refine ⟨_,rfl,_,_,rfl,rfl,?_⟩;refine ⟨_,rfl,Oo,Oo,?_⟩;refine gW (λq y H'=>q<1+W/\cC H' (fY (if q=i then (1,1) else (0,1))) y) (λq y Ha Hb s ⟨h0,h⟩=>⟨h0,h.flat s (cQ _)⟩) Oo (λq H5 Q5 hq s5 k5=>?_) (λD5 ys H5 hD5 e5 s5 hy5 hr5=>?_)
    ·refine ⟨_,rfl,_,rfl,rfl,?_⟩;refine .inr ⟨_,rfl,?_⟩;refine pY (by show 2<=64;decide) λq6 H6 hq6 e6 s6=>?_;refine k5 _ H6 s6 ⟨Oo,dE (f:=if q=i then (1,1) else (0,1)) ?_⟩;rw [e6,Int.zero_add,Int.zero_add];by_cases h:q=i
     ·subst h;rw [if_pos rfl,if_pos (cO rfl)]
     ·rw [if_neg h,if_neg (by rw [decide_eq_true_eq];exact λz=>h (by injection z with z;omega))]
    ·refine ⟨D5,ys,rfl,.inl ⟨fN.of e5,λl hl=>?_⟩⟩;have sl:=aY.upd (o:=.tup ys) hl;refine k4 _ _ (s5.trans sl) ⟨hi,cC.tup bM (aW.ofIdx (by unfold rY;rw [aA,aA,aZ];omega) λq y hq=>?_)⟩;obtain ⟨h1,h2⟩:=hr5 q y hq;exact ⟨_,by unfold rY;rw [aM,aM,cJ h1];rfl,h2.same sl⟩
   have lps:ps.length=1+W:=Oo;have S4:=S1.trans s4;have sz4:=sz.t s4.t;have bW:=bw cc hcr;obtain ⟨sa,sx,ez,hsa,rsx⟩:=id sz4;have epl:(rY W (best cc))[0]?=some (if 0=best cc then (1,1) else (0,1)):=by unfold rY;rw [aM,cJ Oo];rfl
   obtain ⟨y0,hy0,fy0⟩:=rsx.get epl;have LS4:=LS.same s4;obtain ⟨vs4,eL4,rL4,lL4⟩:=LS4.len;obtain ⟨y4,hy4',ry4⟩:=eI rL4 hat;refine ⟨λb H'=>aY H4 H'/\b=false,?_,?_⟩
   ·refine ⟨_,rfl,?_⟩;have swp:=PF (b:=best cc) w4;refine rrK sz4.k swp.sh swp.nd (aK swp.dp Dd) (aK (wY _ swp.sh swp.nd) (aK swp.wd Dd)) ?_;refine ⟨_,rfl,D,rfl,⟨_,fN.of e4⟩,?_⟩;refine gX (λi y _=>i<1+W/\y=.str (PyData.shown (pE (rY W i)))) (λ_ _ _ _ _ h=>h) Oo e4 (λi y H5 Q5 hy5 s5 k5=>?_) (λD6 ts H6 hD6 e6 s6 hy6 hr6=>?_)
    ·obtain ⟨hi,ri⟩:=hr4 i y hy5;refine ⟨_,rfl,?_⟩;refine rrW (ri.same s5) (PF w4) Dd Dd ?_;exact k5 _ H5 (aY.refl _) ⟨hi,rfl⟩
    ·refine ⟨D6,ts,rfl,.inl (fN.of e6),rfl,?_,?_⟩
     ·refine List.all_eq_true.mpr λt ht=>?_;obtain ⟨i,hi⟩:=cV.mp ht;rw [(hr6 i t hi).2];rfl
     ·have hin:inV (.str (PyData.shown (pE (rY W (best cc))))) ts=true:=by
       unfold inV;refine List.any_eq_true.mpr ?_;obtain ⟨t,ht⟩:∃t,ts[best cc]?=some t:=⟨_,aB Oo⟩;refine ⟨t,aG ht,?_⟩;rw [(hr6 _ t ht).2];show (_ == _)=true;simp
      rw [hin];refine ⟨_,rfl,?_⟩;refine qD rfl ?_;refine ⟨_,rfl,?_⟩;subst ez;refine lA (s6 _ _ hsa) (cT (j:=0) hy0) ?_;refine pY (by show 2<=64;decide) λq7 H7 hq7 e7 s7=>?_;refine reK (d:=fY (if 0=best cc then (1,1) else (0,1))) (d':=fY (1,1)) ((fy0.t s6.t).t s7.t).k (cC.k (dE (f:=(1,1)) e7)) (lY _) (lY _) ?_;rw [BW,Bool.true_beq];refine ⟨_,rfl,?_⟩;by_cases h0:best cc=0
      ·rw [if_pos h0.symm];refine LP ?_;refine ⟨_,rfl,_,rfl,?_⟩;have s47:=s6.trans s7;refine FO (s47 _ _ eL4) (cT hy4') ?_;obtain ⟨ac,rfl,hac⟩:=gG (ry4.same s47);refine rsT (ns:=ci cc) (by rw [eE];exact jH.of hac) ?_;rw [uU];refine ⟨_,rfl,rfl,_,rfl,s47,?_⟩;have:=PL.on cc h0;refine cH λz=>?_;injection z with z;omega
      ·rw [if_neg λz=>h0 z.symm];exact qD rfl ⟨s6.trans s7,rfl⟩
   rintro b5 H5 ⟨s5,rfl⟩;refine HE ?_;have S5:=S4.trans s5;have eL5:=s5 _ _ eL4;have rL5:=rL4.same s5;subst ez;refine ⟨λσ H'=>∃(L:Addr) (o8 o9:Option V),σ=[some (.ref a),some (.int (F:Int)),some (.int (W:Int)),some (.int (M:Int)),some (.ref L),some (.int (j:Int)),some (.ref sa),some (.ref D),o8,o9]/\aY H H'/\iD H' L (tJ F best (fL F M best) (j+1)),?_,?_⟩
   ·rintro σ H' ⟨L',o8',o9',rfl,S',L'⟩;refine ⟨_,rfl,_,_,rfl,rfl,?_⟩;exact ⟨_,Oo,_,j+1,_,_,_,_,by rfl,S',L',Oo,rfl⟩
   ·refine ⟨_,rfl,?_⟩;refine lA (s5 _ _ hsa) (cT (j:=0) hy0) ?_;refine pY (by show 2<=64;decide) λq6 H6 hq6 e6 s6=>?_;refine reK (d:=fY (if 0=best cc then (1,1) else (0,1))) (d':=fY (1,1)) ((fy0.t s5.t).t s6.t).k (cC.k (dE (f:=(1,1)) e6)) (lY _) (lY _) ?_;rw [BW,Bool.true_beq];refine ⟨_,rfl,?_⟩;by_cases h0:best cc=0
    ·rw [if_pos h0.symm];refine LP ?_;have eL6:=s6 _ _ eL5;have rL6:=rL5.same s6;refine ⟨_,rfl,_,rfl,Oo,Oo,?_⟩;refine gW (λi y H'=>i<F/\cC H' (kC (bP cc i)) y) (λi y Ha Hb s ⟨h0,h⟩=>⟨h0,h.flat s (jZ _)⟩) Oo (λi H7 Q7 hi s7 k7=>?_) (λD7 ms H7 hD7 e7 s7 hy7 hr7=>?_)
     ·have hi:i<F:=Oo;rw [Int.zero_add];refine ⟨_,rfl,_,rfl,?_⟩;refine FO (s7 _ _ eL6) (cT hy4') ?_;refine ⟨_,rfl,?_⟩;refine jB ((((ry4.same s5).same s6)).same s7) Oo Oo λv8 H8 s8 r8=>?_;exact k7 _ H8 s8 ⟨hi,r8⟩
     have lms:ms.length=F:=Oo;have rm:aW H7 (((List.range F).map (bP cc)).map kC) ms:=aW.ofIdx (by rw [aA,aA,aZ];exact lms) λi y hi=>by
      obtain ⟨h1,h2⟩:=hr7 i y hi;exact ⟨_,by rw [aM,aM,cJ h1];rfl,h2⟩
     refine ⟨_,rfl,_,rfl,_,_,rfl,rfl,_,rfl,?_⟩;have eL7:=s7 _ _ eL6;have rL7:=rL6.same s7;refine slL (lo:=some ((j:Int)+1)) (hi:=none) eL7 (ys:=vs4.drop (j+1)) (by rw [show (j:Int)+1=((j+1:Nat):Int) by omega];exact CB _ _) λq8 H8 hq8 e8 s8=>?_;refine ⟨_,rfl,D7,rfl,⟨_,fN.of (s8 _ _ e7)⟩,?_⟩;have S8:=((S5.trans s6).trans s7).trans s8;refine zS (g:=kC) (rm.same s8) (λd=>!decide (d∈tJ F best (fL F M best) j)) Oo (s8 _ _ e7) (λy d H9 Q9 hd ry s9 k9=>?_) (λy H9 Q9 q=>⟨_,rfl,q⟩) (λD9 ns H9 hD9 e9 s9 r9=>?_)
     ·refine ⟨_,rfl,_,rfl,?_⟩;have rl:aW H9 (((tJ F best (fL F M best) j).map ci).map cD) vs4:=by
       rw [List.map_map,show (tJ F best (fL F M best) j).map (cD ∘ ci)=(tJ F best (fL F M best) j).map kC from eB λc _=>ctI c];exact (rL7.same s8).same s9
      refine riT (c:=ci d) (.inl (fN.of (s9 _ _ (s8 _ _ eL7)))) rl (by rw [show cD (ci d)=kC d from ctI d];exact ry.k) ?_;rw [if_pos rfl];refine ⟨_,rfl,?_⟩;have:decide (ci d∈(tJ F best (fL F M best) j).map ci)=decide (d∈tJ F best (fL F M best) j):=by
       refine decide_eq_decide.mpr ⟨λh=>?_,λh=>List.mem_map_of_mem h⟩;obtain ⟨d',hd',e'⟩:=aV.mp h;rw [<-kM e'];exact hd'
      rw [this];exact k9 H9 (aY.refl _)
     have lm9:ns.length<=4:=by
      rw [r9.len,aA];have:=List.length_filter_le (λd=>!decide (d∈tJ F best (fL F M best) j)) ((List.range F).map (bP cc));rw [aA,aZ] at this;omega
     refine RK (s9 _ _ e8) e9 (by rw [List.length_drop];omega) λq10 H10 hq10 e10 s10=>?_;have rr10:aW H10 ((rst F best (fL F M best) j cc).map kC) (vs4.drop (j+1)++ns):=by
      unfold rst;rw [bF];refine aW.app ?_ (r9.same s10);rw [List.map_drop];exact aW.drop _ (((rL7.same s8).same s9).same s10)
     have lr10:(vs4.drop (j+1)++ns).length=(rst F best (fL F M best) j cc).length:=by rw [rr10.len,aA]
     have lr56:=I.len hc h0;have S10:=(S8.trans s9).trans s10;refine ⟨_,rfl,_,rfl,_,_,rfl,rfl,_,rfl,?_⟩;have s710:=(s8.trans s9).trans s10;refine slL (lo:=none) (hi:=some ((j:Int)+1)) (s710 _ _ eL7) (ys:=vs4.take (j+1)) (by rw [show (j:Int)+1=((j+1:Nat):Int) by omega];exact CC _ _) λq11 H11 hq11 e11 s11=>?_;refine ⟨_,rfl,?_⟩;refine aBG (kz:=(rst F best (fL F M best) j cc).map rk) (s11 _ _ e10) Oo ⟨by rw [aA,lr10],λk hk=>?_,λi y k H' hy hk s'=>?_⟩ λD12 ix H12 pm srt hD12 e12 s12=>?_
     ·obtain ⟨d,_,rfl⟩:=aV.mp hk;unfold rk;exact List.cons_ne_nil _ _
     ·obtain ⟨d,hd,rd⟩:=eW (rr10.same s11) hy;rw [aM,hd] at hk;cases hk;exact GC (rd.same s') λv H'' s'' r''=>⟨s'',r''⟩
     have nk:((rst F best (fL F M best) j cc).map rk).Nodup:=nodup_map_on (λx _ y _ e=>OQ e) (I.rnd hc);have hix:∀i∈ix,i<(rst F best (fL F M best) j cc).length:=λi hi=>by
      have:=pm.mem_iff.mp hi;rw [bR] at this;omega
     have emap:(ix.map λi=>((rst F best (fL F M best) j cc).map rk).getD i [])=(ix.map λi=>(rst F best (fL F M best) j cc).getD i []).map rk:=by
      rw [List.map_map];refine eB λi hi=>?_;have h1:=hix i hi;show ((rst F best (fL F M best) j cc).map rk).getD i []=rk ((rst F best (fL F M best) j cc).getD i []);rw [bJ,bJ,aM,aB h1];rfl
     have srt2:=srt nk;rw [emap] at srt2;have hmem:∀d,d∈(ix.map λi=>(rst F best (fL F M best) j cc).getD i [])↔d∈rst F best (fL F M best) j cc:=λd=>by
      rw [aV];constructor
      ·rintro ⟨i,hi,rfl⟩;exact fH (hix i hi)
      ·intro hd;obtain ⟨i,hi⟩:=cV.mp hd;have li:=(aF.mp hi).1;exact ⟨i,pm.mem_iff.mpr (bR.mpr Oo),gF hi⟩
     have nx:=I.next hc h0 hmem srt2;have lix:ix.length=(rst F best (fL F M best) j cc).length:=by rw [pm.length_eq,aZ,lr10]
     have rs12:aW H12 ((ix.map λi=>(rst F best (fL F M best) j cc).getD i []).map kC) (ix.map λi=>(vs4.drop (j+1)++ns).getD i .non):=by
      refine aW.ofIdx (by rw [aA,aA,aA]) λq y hq=>?_;rw [aM] at hq;obtain ⟨i,hi,rfl⟩:=dX.mp hq;have h1:=hix i (aG hi);obtain ⟨d,hd⟩:∃d,(rst F best (fL F M best) j cc)[i]?=some d:=⟨_,aB h1⟩;obtain ⟨v,hv,rv⟩:=eI (((rr10.same s11)).same s12) hd;refine ⟨kC d,by rw [aM,aM,hi];show some (kC ((rst F best (fL F M best) j cc).getD i []))=_;rw [gF hd],?_⟩;rw [gF hv];exact rv
     refine RK (s12 _ _ e11) e12 (by rw [cL,aA];omega) λq13 H13 hq13 e13 s13=>?_;refine ⟨q13,_,_,rfl,(((S10.trans s11).trans s12).trans s13),?_⟩;rw [<-nx];refine ⟨_,e13,?_⟩;rw [bF];refine aW.app ?_ (rs12.same s13);rw [List.map_take];exact aW.take _ ((((rL7.same s710).same s11).same s12).same s13)
    ·rw [if_neg λz=>h0 z.symm];refine qD rfl ?_;refine ⟨L,_,_,rfl,S5.trans s6,?_⟩;rw [I.stop hc h0];exact (LS4.same s5).same s6
  ·have ej:j=(fL F M best).length:=Oo;have ed:tJ F best (fL F M best) j=fL F M best:=I.all Oo;rw [ed] at LS lL;refine ⟨_,rfl,_,rfl,?_⟩;refine OP eL ?_;refine ⟨_,_,rfl,rfl,_,rfl,?_⟩;refine qD (cH Oo) ?_;exact ⟨L,j,_,_,_,_,rfl,S1,LS⟩
 ·rintro σ H1 ⟨L,j,o6,o7,o8,o9,rfl,S1,LS⟩;obtain ⟨vs,eL,rL,lL⟩:=LS.len;refine ⟨_,rfl,?_⟩;refine OP eL ?_;refine ⟨_,rfl,?_⟩;refine KZ (S1 _ _ ha) ?_;refine ⟨rfl,?_⟩;rw [cO (by rw [lL,lxR])];exact k H1 S1
end
abbrev OJ:Stmt:=(top 60)
theorem vS:cA ["_law_script","_law_feed_here","_law_turn","_law_great","_law_faces","_law_ways","_law_trial_here","_law_aim_here","_law_prices","_law_kept","_law_rule","_law_least"] ["_law_script"] (aX OJ):=⟨rfl,rfl,rfl,Kk,rfl,Kk,Kk⟩
theorem IG{W:Int}(hW:0<W):∀ps:List Int,oO ((ps.map λx=>lw x W).map rv)=(ps.sum:Rat)/(W:Rat)
 | []=>by
  have:=kG hW;show (0:Rat)=_;rw [show (([]:List Int).sum:Rat)=0 from rfl];grind
 | x::ps=>by
  have:=kG hW;rw [bH,bH,kH,IG hW ps,DN hW,List.sum_cons,Rat.intCast_add];grind
theorem CO.syc{m:Nat}{fs:List Fr}(h:CO m fs):SyC m fs:=by
 refine ⟨h.len,h.at,?_⟩;obtain ⟨ps,W,h1,h2,h3,h4,h5,h6,rfl⟩:=h.ex;rw [IG h4,h3];have:=kG h4;grind
theorem vN{fs:List Fr}(h:∀f∈fs,CU f):∀f∈fs,Fn (dens fs) 1000 f:=λf hf=>(BZ h f hf).le Dd
section
variable{H:Hp}{tv av pv:V}{fs:List Str}{ws:List (Str × List Fr)}{bs mix ps cs:List Fr}{F W M Mr:Nat}{es:List fP}{best:List Nat->Nat}
theorem oJ.trq(I:oJ H tv av pv fs ws bs mix ps cs F W M):MK W ws:=⟨I.T.w,λx hx f hf=>((I.T.sh x hx).at f hf).1,I.T.b⟩
theorem oJ.aimq(I:oJ H tv av pv fs ws bs mix ps cs F W M)(R:rM F W Mr es)(hM:Mr<=M):CQ (dens cs) W Mr es mix cs :=
 ⟨I.mx.len,λf hf=>(I.mx.at f hf).1,⟨qH I.c,tK I.c (by have:=I.cl;have:=I.m;omega),vN I.c,λe he hs=>by have:=R.on e he hs;have:=I.cl;omega⟩⟩
theorem oJ.np(I:oJ H tv av pv fs ws bs mix ps cs F W M):0<dens ps/\dens ps<=1000000000000000:=⟨qH I.p,tK I.p (by have:=I.pl;have:=I.w;omega)⟩
theorem oJ.wg(I:oJ H tv av pv fs ws bs mix ps cs F W M):SA ws bs F W M hV hV (dens ps) (dens cs) 999 27720 mix ps cs:=by
 refine ⟨I.wo,I.T.b,I.bl,λf hf=>(I.b f hf).1,Dd,?_⟩;have h1:lP M hV hV (dens ps) (dens cs)*27720<2^300*27720:=Nat.mul_lt_mul_of_pos_right I.n.2 Dd;have h2:(2:Nat)^300*27720<=2^300*2^15:=Nat.mul_le_mul_left _ Dd;rw [<-Nat.pow_add] at h2;exact aO h1 (aK h2 (aP Dd Dd))
theorem VS{b:Nat}(h:b<=W):SyC (1+W) (rY W b):=by
 refine ⟨by unfold rY;rw [aA,aZ],λf hf=>?_,TC W b h⟩;obtain ⟨k,_,rfl⟩:=aV.mp hf;split
 ·exact ⟨Fn.one hV,Dd⟩
 ·exact ⟨(Fn.zero hV).le Dd,Dd⟩
theorem UV(P:uZ F W M best)(bw:∀c∈rise F M,best c<=W)(few:(rise F M).length<=64):rM F W M (rul F W M best) where
 rl:=ON P.f1 P.f4 P.m5 P.on
 sum:=λe he=>by
  obtain ⟨c,hc,rfl⟩:=aV.mp he;exact (sX P.f1 hc).2
 sy:=λe he=>by
  obtain ⟨c,hc,rfl⟩:=aV.mp he;exact VS (bw c ((jL P.f1).subset hc))
 few:=by unfold rul;rw [aA];exact aK (jL P.f1).length_le few
 on:=λe he h0=>by
  obtain ⟨c,hc,rfl⟩:=aV.mp he;refine P.on c (bY λq=>h0 ?_);rw [uK,if_neg q]
theorem aAY{c:List Nat}{b:Nat}{ss:List (List Fr)}(h:MU F W M ss mix ps cs c b):b<=W:=by
 rcases h with ⟨h,_⟩ | ⟨v,hv,h,_⟩ <;> omega
theorem oJ.bestp(I:oJ H tv av pv fs ws bs mix ps cs F W M)(P:uZ F W M best)(hb:∀c∈rise F M,MU F W M (eP ws) mix ps cs c (best c)):iC (xA F W (rul F W M best) (fX (eP ws)) (dU mix) (dU ps) (dU cs))=yO F W M (eP ws) mix ps cs (List.replicate F 0):=by
 have hx:∀w,w<W->∃x,ws[w]?=some x/\x∈ws:=λw hw=>by
  have h:=aB (show w<ws.length by rw [I.T.w];exact hw);exact ⟨_,h,aG h⟩
 have:=PC (ON (W:=W) P.f1 P.f4 P.m5 P.on) (wor F W M (eP ws) mix ps cs) (λw hw=>?_) (λw hw c hc=>?_) (OO P.f1 hb)
 ·rw [<-this]
 ·obtain ⟨x,h1,h2⟩:=hx w hw;rw [oT h1];exact SO (λf hf=>((I.T.sh x h2).at f hf).1.low) F
 ·obtain ⟨x,h1,h2⟩:=hx w hw;rw [oT h1];have hl:=(I.T.sh x h2).len;have h:=ZH (fs:=x.2) (λf hf=>((I.T.sh x h2).at f hf).1.low) (I.T.sh x h2).syc.one (c:=c) Oo;rw [hl] at h;exact h
end
theorem UX:(∀M,M<=3->(rise 2 M).length<=20)/\(∀M,M<=3->(rise 3 M).length<=20)/\(∀M,M<=2->(rise 4 M).length<=20):=Dd
section
theorem aC2(F:jT K "law" "law" OJ f fd)(T:lB K mg c)
  (FQ6:gM dP P w K mg base 1 "_law_feed" ["_law_script"] (sP K)) (FQ5:gM dP P w K mg base 1 "_law_draw" ["_law_feed_here","_law_many"] lG)
  (FQ20:gM dP P w K mg base 3 "_law_trial" ["_law_feed_here","_law_faces","_law_ways"] nV) (FQ1:gM dP P w K mg base 3 "_law_aim" ["_law_feed_here","_law_ways","_law_most"] sN) (FQ16:gM dP P w K mg base 2 "_law_some" ["_law_feed_here"] qS)
  (FQ25:gM dP P w K mg base 9 "best_rule" ["trial","aim","prices"] (pS K)) (FQ8:gM dP P w K mg base 4 "_law_is_plain_rule" ["_law_rule","_law_faces","_law_ways","_law_most"] (nZ K)) (FQ13:gM dP P w K mg base 5 "_law_priced" ["_law_trial_here","_law_aim_here","_law_rule","_law_prices"] (mH K))
  (FQ22:gM dP P w K mg base 5 "_law_worths" ["_law_trial_here","_law_aim_here","_law_prices"] mG):dY P w K mg base dP 10 f fd ["_law_script"] (uE K):=by
 refine F.oky vS λvs H Q E h=>?_;unfold uE at h;obtain ⟨a,ns,rfl,hS,hl,k⟩:=h;refine ⟨rfl,λcdv A outer s hr=>?_⟩;refine ⟨_,(aH (bK (i:=1) vS.nd rfl (Or.inr rfl) (bS FQ6 (hr.mono Dd) (aJ (aD 0) aE)))
  (aH (fF PassesOwn.never rfl (cP rfl T.b_range (aJ aL aE)) (dF (i:=2) vS.nd rfl (Or.inl rfl)) (aH (bK (i:=3) vS.nd rfl (Or.inl rfl) (wN vJ (bS FQ5 (hr.mono Dd) (aJ (aD 1) (aJ aL aE))) aL (nomark _)))
  (aH (wJ (bK (i:=4) vS.nd rfl (Or.inl rfl) (sD (rN (aD 3)) aL (bQ dQ aL (bS FQ5 (hr.mono Dd) (aJ (aD 1) (aJ aL aE)))))))
  (aH (wJ (bK (i:=5) vS.nd rfl (Or.inl rfl) (sD (rN (aD 3)) aL (bQ dQ aL (bS FQ5 (hr.mono Dd) (aJ (aD 1) (aJ aL aE)))))))
  (aH (bK (i:=6) vS.nd rfl (Or.inl rfl) (bS FQ20 (hr.mono Dd) (aJ (aD 1) (aJ (aD 4) (aJ (aD 5) aE)))))
  (aH (bK (i:=7) vS.nd rfl (Or.inl rfl) (bS FQ1 (hr.mono Dd) (aJ (aD 1) (aJ (aD 5) (aJ (bS FQ5 (hr.mono Dd) (aJ (aD 1) (aJ (bQ rT aL (nB zW (by rfl) T.b_int Kk (aJ (aD 3) aE))) aE))) aE)))))
  (aH (bK (i:=8) vS.nd rfl (Or.inl rfl) (nB eV (by rfl) T.b_tuple Kk (aJ (fR (dI.of (psc:=aX OJ) (N:=["_law_script","_law_feed_here","_law_turn","_law_great","_law_faces","_law_ways","_law_trial_here","_law_aim_here","_law_prices","_law_kept","_law_rule","_law_least"]) (N':=["_law_way","_law_feed_here"]) (js:=[1]) Kk rfl rfl rfl) (cP rfl T.b_range (aJ (aD 5) aE)) (λ_ _ _ _=>dR) (λ_ _ _ _=>(bS FQ16 (hr.mono Dd) (aJ (aD 1) aE)))) aE)))
  (aH (bK (i:=9) vS.nd rfl (Or.inl rfl) (eG (tO hr.gd hr.units) (by rfl) T.b_repr Kk (aJ (dS (aJ (aD 6) (aJ (aD 7) (aJ (aD 8) aE)))) aE)))
  (aH (bK (i:=10) vS.nd rfl (Or.inl rfl) (bS FQ25 (hr.mono Dd) (aJ (aD 6) (aJ (aD 7) (aJ (aD 8) aE)))))
  (aH (kE (vU (FQ (HX (FR (rN (bS FQ8 (hr.mono Dd) (aJ (aD 10) (aJ (aD 4) (aJ (aD 5) (aJ (bT bL (aD 7) aL (λ_ _=>rfl)) aE))))))) (FP (eQ DX (eG (tO hr.gd hr.units) (by rfl) T.b_repr Kk (aJ (dS (aJ (aD 6) (aJ (aD 7) (aJ (aD 8) aE)))) aE)) (aD 9) (nomark _)))))) (bD (cI vB)) gC)
  (aH (bK (i:=11) vS.nd rfl (Or.inl rfl) (gE hr.u1 (bS FQ22 (hr.mono Dd) (aJ (aD 6) (aJ (aD 7) (aJ (aD 8) aE)))) (bQ vY (dS (aJ aL aE)) (aD 4))))
  (bD (kE (eQ (PV hr.units) (bS FQ13 (hr.mono Dd) (aJ (aD 6) (aJ (aD 7) (aJ (aD 10) (aJ (aD 8) aE))))) (aD 11) (nomark _)) (bD (cI vB)) gC)))))))))))))
  (bD (cI vB)))),?_⟩
 refine ⟨_,rfl,?_⟩;refine KM hS hl λp L H1 F1 s1 hp1 hL1=>?_;refine ⟨_,rfl,Dd,Dd,?_⟩;refine fZ (λi σ H'=>∃(o2 o3 o4 o5 o6 o7 o8 o9 o10 o11:Option V),σ=[some (.ref a),some (.ref p),o2,o3,o4,o5,o6,o7,o8,o9,o10,o11]/\dH H' p L (999999000000-1000*i)) ⟨_,_,_,_,_,_,_,_,_,_,rfl,F1.less Dd⟩ ?_ ?_
 ·rintro i σ H2 hi ⟨o2,o3,o4,o5,o6,o7,o8,o9,o10,o11,rfl,F2⟩;have hi2:i<2:=hi;obtain ⟨N,hN⟩:∃N,999999000000-1000*i=N+1000:=⟨999999000000-1000*i-1000,Oo⟩;rw [hN] at F2;refine ⟨_,rfl,?_⟩;refine dN (n:=N+999) F2 Dd Kk λx3 H3 a3 b3 F3 s3=>?_;refine ⟨rfl,?_⟩;generalize decide (V.int x3=V.int 0)=g;refine ⟨λσ H'=>∃Fc:Nat,σ=[some (.ref a),some (.ref p),some (.int (0+(i:Nat))),some (.bl g),some (.int (Fc:Int)),o5,o6,o7,o8,o9,o10,o11]/\dH H' p L (N+998)/\2<=Fc/\Fc<=4/\(g=false->Fc<=3),?_,?_⟩
  ·rintro σ H4 ⟨Fc,rfl,F4,fc2,fc4,fg⟩;refine ⟨λσ H'=>∃Wc:Nat,σ=[some (.ref a),some (.ref p),some (.int (0+(i:Nat))),some (.bl g),some (.int (Fc:Int)),some (.int (Wc:Int)),o6,o7,o8,o9,o10,o11]/\dH H' p L (N+997)/\2<=Wc/\Wc<=4,?_,?_⟩
   ·rintro σ H5 ⟨Wc,rfl,F5,wc2,wc4⟩;refine ⟨_,rfl,_,rfl,_,rfl,?_⟩;refine DG (n:=N+900) (F:=Fc) (W:=Wc) (F5.less Oo) fc2 fc4 wc2 wc4 λtv fs ws H7 F7 s7 rt TT=>?_;refine ⟨_,rfl,_,rfl,_,rfl,_,rfl,.inr ⟨_,rfl,?_⟩⟩;refine ⟨_,_,rfl,rfl,?_⟩;have gb:3<=(4:Int)-(if g=true then 1 else 0)/\(4:Int)-(if g=true then 1 else 0)<=4:=by split <;> omega
    refine dN (n:=N+899) F7 Oo (bitsle (bA (show ((4:Int)-(if g=true then 1 else 0)).natAbs<=4 by omega) Dd)) λx9 H9 a9 b9 F9 s9=>?_;obtain ⟨M,rfl⟩:∃b:Nat,x9=(b:Int):=⟨x9.toNat,Oo⟩;have hrise:(rise Fc M).length<=20:=by
     obtain ⟨r2,r3,r4⟩:=UX;have:Fc=2\/Fc=3\/Fc=4:=Oo;rcases this with rfl | rfl | rfl
     ·exact r2 M Oo
     ·exact r3 M Oo
     ·cases g with
      | false=>exact absurd (fg rfl) Dd
      | true=>exact r4 M (by rw [if_pos rfl] at b9;omega)
    refine KL (n:=N+800) (W:=Wc) (M:=M) (F9.less Oo) Oo wc4 Oo λav bs mix cs H10 F10 s10 ra lbs fbs shm lcs fcs=>?_;refine ⟨_,rfl,_,rfl,Oo,Oo,?_⟩;refine tN (dH.like (p:=p) (L:=L) λi=>N+800-3*i) F10 (λi y H'=>∃f:Fr,cC H' (fY f) y/\CU f) (λi y Ha Hb s ⟨x,h1,h2⟩=>⟨x,h1.flat s (cQ x),h2⟩) Oo (λi H' Q' hi F' s' k'=>?_) (λD ys H11 hD e11 F11 s11 hy11 hr11=>?_)
    ·refine ⟨_,rfl,?_⟩;refine yV (n:=N+800-3*(i+1)) (F'.less Oo) λv f H2 T2 s2 r2 f2=>?_;exact k' _ H2 T2 s2 ⟨f,r2,f2⟩
    obtain ⟨ps,lps,rps,fps⟩:=BV hr11;refine ⟨D,_,rfl,.inl ⟨fN.of e11,λl12 hl12=>?_⟩⟩;have s12:=aY.upd (o:=.tup ys) hl12;have e12:(upd H11 l12 (.tup ys)) l12=some (.tup ys):=bM;generalize upd H11 l12 (.tup ys)=H12 at s12 e12;have t7:dB H7 H12:=(((F7.t s9).trans (F9.t s10)).trans (F10.t s11)).trans s12.t;have t10:dB H10 H12:=(F10.t s11).trans s12.t;have I12:oJ H12 tv av (.ref l12) fs ws bs mix ps cs Fc Wc M:=⟨rt.flat t7 (nR _ _),ra.flat t10 (uX _ _ _ _),cC.tup e12 (rps.same s12),TT,⟨fc2,fc4⟩,⟨wc2,wc4⟩,⟨Oo,hrise⟩,lbs,fbs,shm,Oo,fps,lcs,fcs⟩;have F12:dH H12 p L (N+700):=(F11.same s12).less Oo;clear rt ra rps e12 t7 t10 F11 F10 F9 F7 F5 F4 s7 s9 s10 s11 s12 hr11 e11 F3 F2 s3 hl12 hD TT shm lbs fbs lcs fcs fps lps;obtain ⟨aa,xb,xm,xc,rfl,haa,rxb,rxm,rxc⟩:=uW I12.ra;refine ⟨_,rfl,_,rfl,_,rfl,?_⟩;refine pY (by show 3<=64;decide) λq13 H13 hq13 e13 s13=>?_;refine rrW (d:=.tuple [qN fs ws,lM M bs mix cs,pE ps]) (cC.tup e13 (aW.cons (I12.rt.same s13) (aW.cons (I12.ra.same s13) (aW.cons (I12.rp.same s13) aW.nil)))) I12.sw Dd Dd ?_;generalize hkept:PyData.shown (.tuple [qN fs ws,lM M bs mix cs,pE ps])=kept;have I13:=I12.t s13.t;refine ⟨_,rfl,_,rfl,_,rfl,?_⟩;refine GG I13.rt I13.T.f I13.ra I13.rp I13.wg λrv best H14 s14 rw14 PL hbst=>?_;have I14:=I13.t s14.t;have bw:∀c∈rise Fc M,best c<=Wc:=λc hc=>aAY (hbst c hc);have RO:=UV PL bw Oo;refine ⟨λb H'=>aY H14 H'/\b=false,?_,?_⟩
    ·refine ⟨_,rfl,_,rfl,_,rfl,_,rfl,?_⟩;refine lA ((s13.trans s14) _ _ haa) rfl ?_;refine DH rw14 PL fc2 bw Oo λH15 s15=>?_;refine ⟨_,rfl,?_⟩;refine qD rfl ?_;refine ⟨_,rfl,_,rfl,_,rfl,?_⟩;refine pY (by show 3<=64;decide) λq16 H16 hq16 e16 s16=>?_;have S16:=s15.trans s16;refine rrW (d:=.tuple [qN fs ws,lM M bs mix cs,pE ps]) (cC.tup e16 (aW.cons (I14.rt.same S16) (aW.cons (I14.ra.same S16) (aW.cons (I14.rp.same S16) aW.nil)))) I14.sw Dd Dd ?_;refine ⟨_,rfl,rfl,_,rfl,S16,?_⟩;rw [hkept];simp
    rintro b H15 ⟨s15,rfl⟩;refine HE ?_;have I15:=I14.t s15.t;refine ⟨_,rfl,_,rfl,_,rfl,?_⟩;refine AV I15.rt I15.T.f I15.ra I15.rp I15.wo Dd fc2 λpd kvs H16 s16 hpd e16 dw16=>?_;have hz0:List.replicate Fc 0∈rise Fc M:=(gT Oo).mpr ⟨dM,by simp⟩;obtain ⟨vz,hvz,rvz⟩:=dw16.yes _ hz0;refine pY (by show 1<=64;decide) λq17 H17 hq17 e17 s17=>?_;refine ⟨_,rfl,?_⟩;refine WJ (k:=Fc) e17 fc2 Oo λq18 H18 s18 e18=>?_;have s1618:=s17.trans s18;refine LX (s1618 _ _ e16) (c:=ci (List.replicate Fc 0)) (by rw [eE,e18,List.map_replicate];rfl) hvz ?_;have S18:=(s15.trans s16).trans s1618;have I18:=I14.t S18.t;refine ⟨_,rfl,_,rfl,_,rfl,_,rfl,?_⟩;refine AW I18.rt (rw14.t S18.t) I18.ra I18.rp RO fc2 fc4 (by have:=I18.m;omega) wc4 I18.T.f (λx hx=>(I18.T.sh x hx).len) I18.trq (I18.aimq RO (aI _)) I18.np.1 I18.np.2 I18.pl (vN I18.p) λv19 H19 s19 r19=>?_;rw [I18.bestp PL hbst] at r19;refine ⟨_,rfl,?_⟩;refine reD (d:=fY (yO Fc Wc M (eP ws) mix ps cs (List.replicate Fc 0))) (d':=fY (yO Fc Wc M (eP ws) mix ps cs (List.replicate Fc 0))) r19 ((rvz.same s1618).same s19) (lY _) (lY _) ?_;rw [BW,cO rfl];refine ⟨_,rfl,?_⟩;refine qD rfl ?_;exact ⟨_,_,_,_,_,_,_,_,_,_,rfl,(((F12.same s13).same s14).same (S18.trans s19)).less Oo⟩
   ·refine ⟨_,rfl,?_⟩;refine ⟨_,rfl,?_⟩;cases g with
    | true=>exact LP ⟨4,rfl,F4.less Oo,Dd,Dd⟩
    | false =>
     refine HE ?_;refine ⟨_,rfl,?_⟩;refine dN (n:=N+997) F4 Dd Kk λx5 H5 a5 b5 F5 s5=>?_;obtain ⟨w2,rfl⟩:∃b:Nat,x5=(b:Int):=⟨x5.toNat,Oo⟩;refine ⟨_,_,rfl,rfl,?_⟩;exact ⟨2+w2,rfl,F5,Oo,Oo⟩
  ·refine ⟨_,rfl,?_⟩;refine ⟨_,rfl,?_⟩;cases g with
   | true=>exact LP ⟨4,rfl,F3.less Oo,Dd,Dd,λh=>by cases h⟩
   | false =>
    refine HE ?_;refine ⟨_,rfl,?_⟩;refine dN (n:=N+998) F3 Dd Kk λx4 H4 a4 b4 F4 s4=>?_;obtain ⟨f2,rfl⟩:∃b:Nat,x4=(b:Int):=⟨x4.toNat,Oo⟩;refine ⟨_,_,rfl,rfl,?_⟩;exact ⟨2+f2,rfl,F4,Oo,Oo,λ_=>Oo⟩
 ·rintro σ H2 ⟨o2,o3,o4,o5,o6,o7,o8,o9,o10,o11,rfl,F2⟩;exact k H2
end
theorem WH{K:PySem.W.Frag}{C:Addr}:∀f∈([]:List Str),lC K C f:=λ_ h=>by cases h
theorem pZ{K:PySem.W.Frag}{C:Addr}{g:Str}{fs:List Str}(h:lC K C g)(r:∀f∈fs,lC K C f):∀f∈g::fs,lC K C f:=λf hf=>by
 rcases bC.mp hf with rfl | hf
 ·exact h
 ·exact r f hf
theorem len1{α:Type}{us:List α}(h:us.length=1):∃a,us=[a]:=match us,h with | [a],_=>⟨a,rfl⟩
theorem mU{α:Type}{us:List α}(h:us.length=2):∃a b,us=[a,b]:=match us,h with | [a,b],_=>⟨a,b,rfl⟩
theorem xJ{α:Type}{us:List α}(h:us.length=3):∃a b c,us=[a,b,c]:=match us,h with | [a,b,c],_=>⟨a,b,c,rfl⟩
theorem aBY{α:Type}{us:List α}(h:us.length=4):∃a b c d,us=[a,b,c,d]:=match us,h with | [a,b,c,d],_=>⟨a,b,c,d,rfl⟩
theorem aDq{α:Type}{us:List α}(h:us.length=5):∃a b c d e,us=[a,b,c,d,e]:=match us,h with | [a,b,c,d,e],_=>⟨a,b,c,d,e,rfl⟩
theorem fnc(l:PySem.W.OpenLaw)(w:World){K:PySem.W.Frag}{h:Heap}{mg:Str->Option Value}(X:K.In h)(G:h.Ns mainGlobals mg)(base:Heap){n:Str}{f:Addr}{fd:FuncData}{L:Nat}{ps:List Str}{sp:Sp}(a:PySem.W.nsIn K mainGlobals n=some (some (.ref f)))(k:PySem.W.keepIn K (.ref f)=true)(b:pD K fd ps [])(o:dY l.prog w K mg base dP L f fd ps sp):gM dP l.prog w K mg base L n ps sp:=⟨_,_,o,PySem.W.mg_of X G a,k,b⟩
abbrev Lk(K:PySem.W.Frag)(f:Addr)(nm n:Str)(st:Stmt)(oc:Value)(od:Option Addr)(kV dc pm:Value)(an:Option Addr)(cd ct:Value)(sl:Array (Option Value)):Prop:=K.lookup f=some ⟨oc,od,.func (PySem.W.fnOf nm n (tL st) (nH st) (aX st) .none kV dc pm an cd ct),sl⟩
open PySem.W (nsIn fnOf codeIn keepIn mg_of mg_none_of) in
theorem aA1{l:PySem.W.OpenLaw}{w:World}{K:PySem.W.Frag}{h:Heap}{mg:Str->Option Value}{fa:Addr}{c_ONE:Addr}{c_NOUGHT:Addr}{c_Weighing:Addr}{tok_LOOKS_ON:Tok}(X:K.In h)(G:h.Ns mainGlobals mg)(hfa:mg "law" = some (.ref fa))
  (u_ONE:nsIn K mainGlobals "ONE" = some (some (.ref c_ONE)))
  (u_NOUGHT:nsIn K mainGlobals "NOUGHT" = some (some (.ref c_NOUGHT)))
  (u_Weighing:nsIn K mainGlobals "Weighing" = some (some (.ref c_Weighing)))
  (u_LOOKS_ON:nsIn K mainGlobals "LOOKS_ON" = some (some (.int 0 tok_LOOKS_ON)))
  (mi_Weighing:PySem.W.makesIn K c_Weighing=true)
  (pg_Weighing:PySem.W.plainGet K c_Weighing Str.empty=true)
  (hd_Weighing:PySem.W.hasDictIn K c_Weighing=true)
  (po_Weighing:PySem.W.plainOver K c_Weighing=true)
  (sa_Weighing:PySem.W.findIn K (.ref c_Weighing) "__setattr__" = some (some (.builtin "object.__setattr__")))
  (n0_Weighing:PySem.W.findIn K (.ref c_Weighing) "rising" = some none)
  (n1_Weighing:PySem.W.findIn K (.ref c_Weighing) "units" = some none)
  (n2_Weighing:PySem.W.findIn K (.ref c_Weighing) "weights" = some none)
  (n3_Weighing:PySem.W.findIn K (.ref c_Weighing) "cost_unit" = some none)
  (n4_Weighing:PySem.W.findIn K (.ref c_Weighing) "costs" = some none)
  (o_ONE:rV K c_ONE [1,1]=true)
  (o_NOUGHT:rV K c_NOUGHT [0,1]=true)
  (a0:nsIn K mainGlobals "common_divisor" = some (some (.ref f0))) (l0:Lk K f0 "common_divisor" "common_divisor" UI oc0 od0 kV0 dc0 pm0 an0 cd0 ct0 sl0) (c0:codeIn K cd0 "common_divisor" = true) (k0:keepIn K (.ref f0)=true)
  (a1:nsIn K mainGlobals "plus" = some (some (.ref f1))) (l1:Lk K f1 "plus" "plus" UA oc1 od1 kV1 dc1 pm1 an1 cd1 ct1 sl1) (c1:codeIn K cd1 "plus" = true) (k1:keepIn K (.ref f1)=true)
  (a2:nsIn K mainGlobals "times" = some (some (.ref f2))) (l2:Lk K f2 "times" "times" TY oc2 od2 kV2 dc2 pm2 an2 cd2 ct2 sl2) (c2:codeIn K cd2 "times" = true) (k2:keepIn K (.ref f2)=true)
  (a3:nsIn K mainGlobals "total" = some (some (.ref f3))) (l3:Lk K f3 "total" "total" TW oc3 od3 kV3 dc3 pm3 an3 cd3 ct3 sl3) (c3:codeIn K cd3 "total" = true) (k3:keepIn K (.ref f3)=true)
  (a4:nsIn K mainGlobals "faces_of" = some (some (.ref f4))) (l4:Lk K f4 "faces_of" "faces_of" UE oc4 od4 kV4 dc4 pm4 an4 cd4 ct4 sl4) (c4:codeIn K cd4 "faces_of" = true) (k4:keepIn K (.ref f4)=true)
  (a5:nsIn K mainGlobals "ways_of" = some (some (.ref f5))) (l5:Lk K f5 "ways_of" "ways_of" TU oc5 od5 kV5 dc5 pm5 an5 cd5 ct5 sl5) (c5:codeIn K cd5 "ways_of" = true) (k5:keepIn K (.ref f5)=true)
  (a6:nsIn K mainGlobals "way_shares" = some (some (.ref f6))) (l6:Lk K f6 "way_shares" "way_shares" TV oc6 od6 kV6 dc6 pm6 an6 cd6 ct6 sl6) (c6:codeIn K cd6 "way_shares" = true) (k6:keepIn K (.ref f6)=true)
  (a7:nsIn K mainGlobals "power" = some (some (.ref f7))) (l7:Lk K f7 "power" "power" TZ oc7 od7 kV7 dc7 pm7 an7 cd7 ct7 sl7) (c7:codeIn K cd7 "power" = true) (k7:keepIn K (.ref f7)=true)
  (a8:nsIn K mainGlobals "weight" = some (some (.ref f8))) (l8:Lk K f8 "weight" "weight" TR oc8 od8 kV8 dc8 pm8 an8 cd8 ct8 sl8) (c8:codeIn K cd8 "weight" = true) (k8:keepIn K (.ref f8)=true)
  (a9:nsIn K mainGlobals "counts_that_are" = some (some (.ref f9))) (l9:Lk K f9 "counts_that_are" "counts_that_are" KS oc9 od9 kV9 dc9 pm9 an9 cd9 ct9 sl9) (c9:codeIn K cd9 "counts_that_are" = true) (k9:keepIn K (.ref f9)=true)
  (a10:nsIn K mainGlobals "all_counts" = some (some (.ref f10))) (l10:Lk K f10 "all_counts" "all_counts" UJ oc10 od10 kV10 dc10 pm10 an10 cd10 ct10 sl10) (c10:codeIn K cd10 "all_counts" = true) (k10:keepIn K (.ref f10)=true)
  (a11:nsIn K mainGlobals "one_more" = some (some (.ref f11))) (l11:Lk K f11 "one_more" "one_more" UB oc11 od11 kV11 dc11 pm11 an11 cd11 ct11 sl11) (c11:codeIn K cd11 "one_more" = true) (k11:keepIn K (.ref f11)=true)
  (a12:nsIn K mainGlobals "ones_more" = some (some (.ref f12))) (l12:Lk K f12 "ones_more" "ones_more" OG oc12 od12 kV12 dc12 pm12 an12 cd12 ct12 sl12) (c12:codeIn K cd12 "ones_more" = true) (k12:keepIn K (.ref f12)=true)
  (a13:nsIn K mainGlobals "noughts" = some (some (.ref f13))) (l13:Lk K f13 "noughts" "noughts" OH oc13 od13 kV13 dc13 pm13 an13 cd13 ct13 sl13) (c13:codeIn K cd13 "noughts" = true) (k13:keepIn K (.ref f13)=true)
  (a14:nsIn K mainGlobals "looks_on" = some (some (.ref f14))) (l14:Lk K f14 "looks_on" "looks_on" UC oc14 od14 kV14 dc14 pm14 an14 cd14 ct14 sl14) (c14:codeIn K cd14 "looks_on" = true) (k14:keepIn K (.ref f14)=true)
  (a15:nsIn K mainGlobals "common_lower" = some (some (.ref f15))) (l15:Lk K f15 "common_lower" "common_lower" UH oc15 od15 kV15 dc15 pm15 an15 cd15 ct15 sl15) (c15:codeIn K cd15 "common_lower" = true) (k15:keepIn K (.ref f15)=true)
  (a16:nsIn K mainGlobals "times_whole" = some (some (.ref f16))) (l16:Lk K f16 "times_whole" "times_whole" TX oc16 od16 kV16 dc16 pm16 an16 cd16 ct16 sl16) (c16:codeIn K cd16 "times_whole" = true) (k16:keepIn K (.ref f16)=true)
  (a17:nsIn K mainGlobals "in_units" = some (some (.ref f17))) (l17:Lk K f17 "in_units" "in_units" UD oc17 od17 kV17 dc17 pm17 an17 cd17 ct17 sl17) (c17:codeIn K cd17 "in_units" = true) (k17:keepIn K (.ref f17)=true)
  (a18:nsIn K mainGlobals "look_cost" = some (some (.ref f18))) (l18:Lk K f18 "look_cost" "look_cost" OI oc18 od18 kV18 dc18 pm18 an18 cd18 ct18 sl18) (c18:codeIn K cd18 "look_cost" = true) (k18:keepIn K (.ref f18)=true)
  (a19:PySem.W.findIn K (.ref c_Weighing) "__init__" = some (some (.ref f19))) (l19:Lk K f19 "__init__" "Weighing.__init__" ZT oc19 od19 kV19 dc19 pm19 an19 cd19 ct19 sl19) (c19:codeIn K cd19 "Weighing.__init__" = true) (k19:keepIn K (.ref f19)=true) (fn19:PySem.W.isFn K (.ref f19)=true) (kp19:keepIn K (.ref c_Weighing)=true)
  (a20:nsIn K mainGlobals "weights_at" = some (some (.ref f20))) (l20:Lk K f20 "weights_at" "weights_at" OD oc20 od20 kV20 dc20 pm20 an20 cd20 ct20 sl20) (c20:codeIn K cd20 "weights_at" = true) (k20:keepIn K (.ref f20)=true)
  (a21:nsIn K mainGlobals "best_places" = some (some (.ref f21))) (l21:Lk K f21 "best_places" "best_places" GM oc21 od21 kV21 dc21 pm21 an21 cd21 ct21 sl21) (c21:codeIn K cd21 "best_places" = true) (k21:keepIn K (.ref f21)=true)
  (a22:nsIn K mainGlobals "plain_table" = some (some (.ref f22))) (l22:Lk K f22 "plain_table" "plain_table" OF oc22 od22 kV22 dc22 pm22 an22 cd22 ct22 sl22) (c22:codeIn K cd22 "plain_table" = true) (k22:keepIn K (.ref f22)=true)
  (a23:nsIn K mainGlobals "counts_behind" = some (some (.ref f23))) (l23:Lk K f23 "counts_behind" "counts_behind" UG oc23 od23 kV23 dc23 pm23 an23 cd23 ct23 sl23) (c23:codeIn K cd23 "counts_behind" = true) (k23:keepIn K (.ref f23)=true)
  (a24:nsIn K mainGlobals "counts_come_to" = some (some (.ref f24))) (l24:Lk K f24 "counts_come_to" "counts_come_to" UF oc24 od24 kV24 dc24 pm24 an24 cd24 ct24 sl24) (c24:codeIn K cd24 "counts_come_to" = true) (k24:keepIn K (.ref f24)=true)
  (a25:nsIn K mainGlobals "rule_within" = some (some (.ref f25))) (l25:Lk K f25 "rule_within" "rule_within" OE oc25 od25 kV25 dc25 pm25 an25 cd25 ct25 sl25) (c25:codeIn K cd25 "rule_within" = true) (k25:keepIn K (.ref f25)=true)
  (a26:nsIn K mainGlobals "best_rule" = some (some (.ref f26))) (l26:Lk K f26 "best_rule" "best_rule" KU oc26 od26 kV26 dc26 pm26 an26 cd26 ct26 sl26) (c26:codeIn K cd26 "best_rule" = true) (k26:keepIn K (.ref f26)=true)
  (a27:nsIn K mainGlobals "_law_feed" = some (some (.ref f27))) (l27:Lk K f27 "_law_feed" "_law_feed" sQ6 oc27 od27 kV27 dc27 pm27 an27 cd27 ct27 sl27) (c27:codeIn K cd27 "_law_feed" = true) (k27:keepIn K (.ref f27)=true)
  (a28:nsIn K mainGlobals "_law_draw" = some (some (.ref f28))) (l28:Lk K f28 "_law_draw" "_law_draw" sQ5 oc28 od28 kV28 dc28 pm28 an28 cd28 ct28 sl28) (c28:codeIn K cd28 "_law_draw" = true) (k28:keepIn K (.ref f28)=true)
  (a29:nsIn K mainGlobals "_law_frac" = some (some (.ref f29))) (l29:Lk K f29 "_law_frac" "_law_frac" sQ7 oc29 od29 kV29 dc29 pm29 an29 cd29 ct29 sl29) (c29:codeIn K cd29 "_law_frac" = true) (k29:keepIn K (.ref f29)=true)
  (a30:nsIn K mainGlobals "_law_plus" = some (some (.ref f30))) (l30:Lk K f30 "_law_plus" "_law_plus" US oc30 od30 kV30 dc30 pm30 an30 cd30 ct30 sl30) (c30:codeIn K cd30 "_law_plus" = true) (k30:keepIn K (.ref f30)=true)
  (a31:nsIn K mainGlobals "_law_less" = some (some (.ref f31))) (l31:Lk K f31 "_law_less" "_law_less" sQ9 oc31 od31 kV31 dc31 pm31 an31 cd31 ct31 sl31) (c31:codeIn K cd31 "_law_less" = true) (k31:keepIn K (.ref f31)=true)
  (a32:nsIn K mainGlobals "_law_times" = some (some (.ref f32))) (l32:Lk K f32 "_law_times" "_law_times" UN oc32 od32 kV32 dc32 pm32 an32 cd32 ct32 sl32) (c32:codeIn K cd32 "_law_times" = true) (k32:keepIn K (.ref f32)=true)
  (a33:nsIn K mainGlobals "_law_more" = some (some (.ref f33))) (l33:Lk K f33 "_law_more" "_law_more" UT oc33 od33 kV33 dc33 pm33 an33 cd33 ct33 sl33) (c33:codeIn K cd33 "_law_more" = true) (k33:keepIn K (.ref f33)=true)
  (a34:nsIn K mainGlobals "_law_below" = some (some (.ref f34))) (l34:Lk K f34 "_law_below" "_law_below" sQ2 oc34 od34 kV34 dc34 pm34 an34 cd34 ct34 sl34) (c34:codeIn K cd34 "_law_below" = true) (k34:keepIn K (.ref f34)=true)
  (a35:nsIn K mainGlobals "_law_total" = some (some (.ref f35))) (l35:Lk K f35 "_law_total" "_law_total" UM oc35 od35 kV35 dc35 pm35 an35 cd35 ct35 sl35) (c35:codeIn K cd35 "_law_total" = true) (k35:keepIn K (.ref f35)=true)
  (a36:nsIn K mainGlobals "_law_shares" = some (some (.ref f36))) (l36:Lk K f36 "_law_shares" "_law_shares" UP oc36 od36 kV36 dc36 pm36 an36 cd36 ct36 sl36) (c36:codeIn K cd36 "_law_shares" = true) (k36:keepIn K (.ref f36)=true)
  (a37:nsIn K mainGlobals "_law_trial" = some (some (.ref f37))) (l37:Lk K f37 "_law_trial" "_law_trial" KW oc37 od37 kV37 dc37 pm37 an37 cd37 ct37 sl37) (c37:codeIn K cd37 "_law_trial" = true) (k37:keepIn K (.ref f37)=true)
  (a38:nsIn K mainGlobals "_law_some" = some (some (.ref f38))) (l38:Lk K f38 "_law_some" "_law_some" UO oc38 od38 kV38 dc38 pm38 an38 cd38 ct38 sl38) (c38:codeIn K cd38 "_law_some" = true) (k38:keepIn K (.ref f38)=true)
  (a39:nsIn K mainGlobals "_law_bound" = some (some (.ref f39))) (l39:Lk K f39 "_law_bound" "_law_bound" sQ3 oc39 od39 kV39 dc39 pm39 an39 cd39 ct39 sl39) (c39:codeIn K cd39 "_law_bound" = true) (k39:keepIn K (.ref f39)=true)
  (a40:nsIn K mainGlobals "_law_aim" = some (some (.ref f40))) (l40:Lk K f40 "_law_aim" "_law_aim" sQ1 oc40 od40 kV40 dc40 pm40 an40 cd40 ct40 sl40) (c40:codeIn K cd40 "_law_aim" = true) (k40:keepIn K (.ref f40)=true)
  (a41:nsIn K mainGlobals "_law_weight" = some (some (.ref f41))) (l41:Lk K f41 "_law_weight" "_law_weight" UL oc41 od41 kV41 dc41 pm41 an41 cd41 ct41 sl41) (c41:codeIn K cd41 "_law_weight" = true) (k41:keepIn K (.ref f41)=true)
  (a42:nsIn K mainGlobals "_law_counts" = some (some (.ref f42))) (l42:Lk K f42 "_law_counts" "_law_counts" sQ4 oc42 od42 kV42 dc42 pm42 an42 cd42 ct42 sl42) (c42:codeIn K cd42 "_law_counts" = true) (k42:keepIn K (.ref f42)=true)
  (a43:nsIn K mainGlobals "_law_sums" = some (some (.ref f43))) (l43:Lk K f43 "_law_sums" "_law_sums" GN oc43 od43 kV43 dc43 pm43 an43 cd43 ct43 sl43) (c43:codeIn K cd43 "_law_sums" = true) (k43:keepIn K (.ref f43)=true)
  (a44:nsIn K mainGlobals "_law_worths" = some (some (.ref f44))) (l44:Lk K f44 "_law_worths" "_law_worths" UK oc44 od44 kV44 dc44 pm44 an44 cd44 ct44 sl44) (c44:codeIn K cd44 "_law_worths" = true) (k44:keepIn K (.ref f44)=true)
  (a45:nsIn K mainGlobals "_law_of_rule" = some (some (.ref f45))) (l45:Lk K f45 "_law_of_rule" "_law_of_rule" KY oc45 od45 kV45 dc45 pm45 an45 cd45 ct45 sl45) (c45:codeIn K cd45 "_law_of_rule" = true) (k45:keepIn K (.ref f45)=true)
  (a46:nsIn K mainGlobals "_law_priced" = some (some (.ref f46))) (l46:Lk K f46 "_law_priced" "_law_priced" OL oc46 od46 kV46 dc46 pm46 an46 cd46 ct46 sl46) (c46:codeIn K cd46 "_law_priced" = true) (k46:keepIn K (.ref f46)=true)
  (a47:nsIn K mainGlobals "_law_rank" = some (some (.ref f47))) (l47:Lk K f47 "_law_rank" "_law_rank" UQ oc47 od47 kV47 dc47 pm47 an47 cd47 ct47 sl47) (c47:codeIn K cd47 "_law_rank" = true) (k47:keepIn K (.ref f47)=true)
  (a48:nsIn K mainGlobals "_law_is_plain_rule" = some (some (.ref f48))) (l48:Lk K f48 "_law_is_plain_rule" "_law_is_plain_rule" YN oc48 od48 kV48 dc48 pm48 an48 cd48 ct48 sl48) (c48:codeIn K cd48 "_law_is_plain_rule" = true) (k48:keepIn K (.ref f48)=true)
  (a49:nsIn K mainGlobals "law" = some (some (.ref f49))) (l49:Lk K f49 "law" "law" OJ oc49 od49 kV49 dc49 pm49 an49 cd49 ct49 sl49) (c49:codeIn K cd49 "law" = true) (k49:keepIn K (.ref f49)=true) (z0:nsIn K mainGlobals "list" = some none) (z1:nsIn K mainGlobals "len" = some none) (z2:nsIn K mainGlobals "abs" = some none) (z3:nsIn K mainGlobals "range" = some none) (z4:nsIn K mainGlobals "sum" = some none) (z5:nsIn K mainGlobals "zip" = some none) (z6:nsIn K mainGlobals "reversed" = some none) (z7:nsIn K mainGlobals "tuple" = some none) (z8:nsIn K mainGlobals "repr" = some none) (z9:nsIn K mainGlobals "sorted" = some none) (z10:nsIn K mainGlobals "int" = some none) (z11:nsIn K mainGlobals "min" = some none) (z12:nsIn K mainGlobals "isinstance" = some none) :
  ∃fd:FuncData,(∀(s:Shared) (v:Value),BindsTo s fd ⟨[v],[]⟩ [("_law_script",v)])/\∀base:Heap,K.In base->base.Ns mainGlobals mg->dY l.prog w K mg base dP 10 fa fd ["_law_script"] (uE K):=by
 have e:=hfa.symm.trans (mg_of X G a49);cases e;generalize hcl:(⟨c_ONE,c_NOUGHT,c_Weighing,tok_LOOKS_ON⟩:Cl)=c;have T:lB K mg c:=by rw [<-hcl];exact ⟨mg_none_of X G z0,mg_none_of X G z1,mg_none_of X G z2,mg_none_of X G z3,mg_none_of X G z4,mg_none_of X G z5,mg_none_of X G z6,mg_none_of X G z7,mg_none_of X G z8,mg_none_of X G z9,mg_none_of X G z10,mg_none_of X G z11,mg_none_of X G z12,mg_of X G u_ONE,mg_of X G u_NOUGHT,mg_of X G u_LOOKS_ON,mg_of X G u_Weighing,⟨⟨pg_Weighing,hd_Weighing,po_Weighing,sa_Weighing⟩,(pZ n0_Weighing (pZ n1_Weighing (pZ n2_Weighing (pZ n3_Weighing (pZ n4_Weighing WH)))))⟩,o_ONE,o_NOUGHT⟩
 have F0:=cS (st:=UI) l0 c0 k0;have b0:=F0.binds (ps:=["number","above_nought"]) λ_ _ _ _ _ _ us hl=>by obtain ⟨_,_,rfl⟩:=mU hl;rfl
 have GQ26:=λbase=>fnc l w X G base a0 k0 b0 (aC9 F0 T);have F1:=cS (st:=UA) l1 c1 k1;have b1:=F1.binds (ps:=["one","other"]) λ_ _ _ _ _ _ us hl=>by obtain ⟨_,_,rfl⟩:=mU hl;rfl
 have GQ40:=λbase=>fnc l w X G base a1 k1 b1 (aCV F1 T (GQ26 base));have F2:=cS (st:=TY) l2 c2 k2;have b2:=F2.binds (ps:=["one","other"]) λ_ _ _ _ _ _ us hl=>by obtain ⟨_,_,rfl⟩:=mU hl;rfl
 have GQ43:=λbase=>fnc l w X G base a2 k2 b2 (aCS F2 T (GQ26 base));have F3:=cS (st:=TW) l3 c3 k3;have b3:=F3.binds (ps:=["some"]) λ_ _ _ _ _ _ us hl=>by obtain ⟨_,rfl⟩:=len1 hl;rfl
 have GQ45:=λbase=>fnc l w X G base a3 k3 b3 (aCQ F3 T (GQ40 base));have F4:=cS (st:=UE) l4 c4 k4;have b4:=F4.binds (ps:=["trial"]) λ_ _ _ _ _ _ us hl=>by obtain ⟨_,rfl⟩:=len1 hl;rfl
 have GQ31:=λbase=>fnc l w X G base a4 k4 b4 (aC4 F4 T);have F5:=cS (st:=TU) l5 c5 k5;have b5:=F5.binds (ps:=["trial"]) λ_ _ _ _ _ _ us hl=>by obtain ⟨_,rfl⟩:=len1 hl;rfl
 have GQ47:=λbase=>fnc l w X G base a5 k5 b5 (aCO F5 T);have F6:=cS (st:=TV) l6 c6 k6;have b6:=F6.binds (ps:=["trial","way"]) λ_ _ _ _ _ _ us hl=>by obtain ⟨_,_,rfl⟩:=mU hl;rfl
 have GQ46:=λbase=>fnc l w X G base a6 k6 b6 (aCP F6 T);have F7:=cS (st:=TZ) l7 c7 k7;have b7:=F7.binds (ps:=["share","count"]) λ_ _ _ _ _ _ us hl=>by obtain ⟨_,_,rfl⟩:=mU hl;rfl
 have GQ41:=λbase=>fnc l w X G base a7 k7 b7 (aCU F7 T);have F8:=cS (st:=TR) l8 c8 k8;have b8:=F8.binds (ps:=["trial","way","counts"]) λ_ _ _ _ _ _ us hl=>by obtain ⟨_,_,_,rfl⟩:=xJ hl;rfl
 have GQ48:=λbase=>fnc l w X G base a8 k8 b8 (aCN F8 T (GQ46 base) (GQ43 base) (GQ41 base));have F9:=cS (st:=KS) l9 c9 k9;have b9:=F9.binds (ps:=["faces","many"]) λ_ _ _ _ _ _ us hl=>by obtain ⟨_,_,rfl⟩:=mU hl;rfl
 have GQ30:∀(n:Nat) (base:Heap),gM dP l.prog w K mg base (1+n) "counts_that_are" ["faces","many"] (mO n):=λn=>by
  induction n with
  | zero=>exact λbase=>⟨_,_,aCF F9 T,mg_of X G a9,k9,b9⟩
  | succ n ih=>exact λbase=>⟨_,_,aC5 n F9 T (ih base),mg_of X G a9,k9,b9⟩
 have F10:=cS (st:=UJ) l10 c10 k10;have b10:=F10.binds (ps:=["faces","most"]) λ_ _ _ _ _ _ us hl=>by obtain ⟨_,_,rfl⟩:=mU hl;rfl
 have GQ23:=λbase=>fnc l w X G base a10 k10 b10 (aDc F10 T (GQ30 4 base));have F11:=cS (st:=UB) l11 c11 k11;have b11:=F11.binds (ps:=["counts","face"]) λ_ _ _ _ _ _ us hl=>by obtain ⟨_,_,rfl⟩:=mU hl;rfl
 have GQ37:=λbase=>fnc l w X G base a11 k11 b11 (aCY F11 T);have F12:=cS (st:=OG) l12 c12 k12;have b12:=F12.binds (ps:=["counts"]) λ_ _ _ _ _ _ us hl=>by obtain ⟨_,rfl⟩:=len1 hl;rfl
 have GQ38:=λbase=>fnc l w X G base a12 k12 b12 (aCX F12 T (GQ37 base));have F13:=cS (st:=OH) l13 c13 k13;have b13:=F13.binds (ps:=["faces"]) λ_ _ _ _ _ _ us hl=>by obtain ⟨_,rfl⟩:=len1 hl;rfl
 have GQ36:=λbase=>fnc l w X G base a13 k13 b13 (aCZ F13 T);have F14:=cS (st:=UC) l14 c14 k14;have b14:=F14.binds (ps:=["says"]) λ_ _ _ _ _ _ us hl=>by obtain ⟨_,rfl⟩:=len1 hl;rfl
 have GQ35:=λbase=>fnc l w X G base a14 k14 b14 (aC0 F14 T);have F15:=cS (st:=UH) l15 c15 k15;have b15:=F15.binds (ps:=["some"]) λ_ _ _ _ _ _ us hl=>by obtain ⟨_,rfl⟩:=len1 hl;rfl
 have GQ27:=λbase=>fnc l w X G base a15 k15 b15 (aC8 F15 T (GQ26 base));have F16:=cS (st:=TX) l16 c16 k16;have b16:=F16.binds (ps:=["one","unit"]) λ_ _ _ _ _ _ us hl=>by obtain ⟨_,_,rfl⟩:=mU hl;rfl
 have GQ44:=λbase=>fnc l w X G base a16 k16 b16 (aCR F16 T);have F17:=cS (st:=UD) l17 c17 k17;have b17:=F17.binds (ps:=["rising","some","unit"]) λ_ _ _ _ _ _ us hl=>by obtain ⟨_,_,_,rfl⟩:=xJ hl;rfl
 have GQ32:=λbase=>fnc l w X G base a17 k17 b17 (aC3 F17 T (GQ44 base));have F18:=cS (st:=OI) l18 c18 k18;have b18:=F18.binds (ps:=["trial","aim","counts"]) λ_ _ _ _ _ _ us hl=>by obtain ⟨_,_,_,rfl⟩:=xJ hl;rfl
 have GQ34:=λbase=>fnc l w X G base a18 k18 b18 (aC1 F18 T (GQ43 base) (GQ48 base) (GQ47 base) (GQ45 base));have F19:=cS (st:=ZT) l19 c19 k19;have b19:=F19.binds (ps:=["self","trial","aim"]) λ_ _ _ _ _ _ us hl=>by obtain ⟨_,_,_,rfl⟩:=xJ (show us.length=3 from hl);rfl
 have GQ0:∀base:Heap,FnO l.prog w K mg base 7 c.Weighing ["self","trial","aim"] (qR c.Weighing):=λbase=>⟨_,_,oQ0 F19 T (GQ23 base) (GQ31 base) (GQ47 base) (GQ48 base) (GQ27 base) (GQ32 base) (GQ34 base),⟨(by rw [<-hcl];exact mi_Weighing),(by rw [<-hcl];exact a19),fn19,(by rw [<-hcl];exact kp19)⟩,b19⟩;have F20:=cS (st:=OD) l20 c20 k20;have b20:=F20.binds (ps:=["weighing","counts"]) λ_ _ _ _ _ _ us hl=>by obtain ⟨_,_,rfl⟩:=mU hl;rfl
 have GQ49:=λbase=>fnc l w X G base a20 k20 b20 (aCM F20 T);have F21:=cS (st:=GM) l21 c21 k21;have b21:=F21.binds (ps:=["weighing","factors","cost_factor"]) λ_ _ _ _ _ _ us hl=>by obtain ⟨_,_,_,rfl⟩:=xJ hl;rfl
 have GQ24:=λbase=>fnc l w X G base a21 k21 b21 (aDb F21 T (GQ49 base) (GQ38 base));have F22:=cS (st:=OF) l22 c22 k22;have b22:=F22.binds (ps:=["weighing","best_at"]) λ_ _ _ _ _ _ us hl=>by obtain ⟨_,_,rfl⟩:=mU hl;rfl
 have GQ39:=λbase=>fnc l w X G base a22 k22 b22 (aCW F22 T);have F23:=cS (st:=UG) l23 c23 k23;have b23:=F23.binds (ps:=["level","table"]) λ_ _ _ _ _ _ us hl=>by obtain ⟨_,_,rfl⟩:=mU hl;rfl
 have GQ28:=λbase=>fnc l w X G base a23 k23 b23 (aC7 F23 T (GQ35 base) (GQ38 base));have F24:=cS (st:=UF) l24 c24 k24;have b24:=F24.binds (ps:=["faces","table"]) λ_ _ _ _ _ _ us hl=>by obtain ⟨_,_,rfl⟩:=mU hl;rfl
 have GQ29:=λbase=>fnc l w X G base a24 k24 b24 (aC6 F24 T (GQ36 base) (GQ28 base));have F25:=cS (st:=OE) l25 c25 k25;have b25:=F25.binds (ps:=["faces","table"]) λ_ _ _ _ _ _ us hl=>by obtain ⟨_,_,rfl⟩:=mU hl;rfl
 have GQ42:=λbase=>fnc l w X G base a25 k25 b25 (aCT F25 T (GQ29 base));have F26:=cS (st:=KU) l26 c26 k26;have b26:=F26.binds (ps:=["trial","aim","prices"]) λ_ _ _ _ _ _ us hl=>by obtain ⟨_,_,_,rfl⟩:=xJ hl;rfl
 have GQ25:=λbase=>fnc l w X G base a26 k26 b26 (aDa F26 T (GQ0 base) (GQ43 base) (GQ27 base) (GQ44 base) (GQ24 base) (GQ42 base) (GQ31 base) (GQ39 base));have F27:=cS (st:=sQ6) l27 c27 k27;have b27:=F27.binds (ps:=["_law_script"]) λ_ _ _ _ _ _ us hl=>by obtain ⟨_,rfl⟩:=len1 hl;rfl
 have GQ6:=λbase=>fnc l w X G base a27 k27 b27 (oQ6 F27 T);have F28:=cS (st:=sQ5) l28 c28 k28;have b28:=F28.binds (ps:=["_law_feed_here","_law_many"]) λ_ _ _ _ _ _ us hl=>by obtain ⟨_,_,rfl⟩:=mU hl;rfl
 have GQ5:=λbase=>fnc l w X G base a28 k28 b28 (oQ5 F28 T);have F29:=cS (st:=sQ7) l29 c29 k29;have b29:=F29.binds (ps:=["_law_n","_law_d"]) λ_ _ _ _ _ _ us hl=>by obtain ⟨_,_,rfl⟩:=mU hl;rfl
 have GQ7:=λbase=>fnc l w X G base a29 k29 b29 (oQ7 F29 T);have F30:=cS (st:=US) l30 c30 k30;have b30:=F30.binds (ps:=["_law_one","_law_other"]) λ_ _ _ _ _ _ us hl=>by obtain ⟨_,_,rfl⟩:=mU hl;rfl
 have GQ12:=λbase=>fnc l w X G base a30 k30 b30 (aDn F30 T (GQ7 base));have F31:=cS (st:=sQ9) l31 c31 k31;have b31:=F31.binds (ps:=["_law_one","_law_other"]) λ_ _ _ _ _ _ us hl=>by obtain ⟨_,_,rfl⟩:=mU hl;rfl
 have GQ9:=λbase=>fnc l w X G base a31 k31 b31 (oQ9 F31 T (GQ7 base));have F32:=cS (st:=UN) l32 c32 k32;have b32:=F32.binds (ps:=["_law_one","_law_other"]) λ_ _ _ _ _ _ us hl=>by obtain ⟨_,_,rfl⟩:=mU hl;rfl
 have GQ18:=λbase=>fnc l w X G base a32 k32 b32 (aDh F32 T (GQ7 base));have F33:=cS (st:=UT) l33 c33 k33;have b33:=F33.binds (ps:=["_law_counts_here","_law_face"]) λ_ _ _ _ _ _ us hl=>by obtain ⟨_,_,rfl⟩:=mU hl;rfl
 have GQ10:=λbase=>fnc l w X G base a33 k33 b33 (aDp F33 T);have F34:=cS (st:=sQ2) l34 c34 k34;have b34:=F34.binds (ps:=["_law_one","_law_other"]) λ_ _ _ _ _ _ us hl=>by obtain ⟨_,_,rfl⟩:=mU hl;rfl
 have GQ2:=λbase=>fnc l w X G base a34 k34 b34 (oQ2 F34 T);have F35:=cS (st:=UM) l35 c35 k35;have b35:=F35.binds (ps:=["_law_some_here"]) λ_ _ _ _ _ _ us hl=>by obtain ⟨_,rfl⟩:=len1 hl;rfl
 have GQ19:=λbase=>fnc l w X G base a35 k35 b35 (aDg F35 T (GQ12 base));have F36:=cS (st:=UP) l36 c36 k36;have b36:=F36.binds (ps:=["_law_feed_here","_law_many"]) λ_ _ _ _ _ _ us hl=>by obtain ⟨_,_,rfl⟩:=mU hl;rfl
 have GQ15:=λbase=>fnc l w X G base a36 k36 b36 (aDk F36 T (GQ5 base) (GQ7 base));have F37:=cS (st:=KW) l37 c37 k37;have b37:=F37.binds (ps:=["_law_feed_here","_law_faces","_law_ways"]) λ_ _ _ _ _ _ us hl=>by obtain ⟨_,_,_,rfl⟩:=xJ hl;rfl
 have GQ20:=λbase=>fnc l w X G base a37 k37 b37 (aDf F37 T (GQ5 base) (GQ15 base));have F38:=cS (st:=UO) l38 c38 k38;have b38:=F38.binds (ps:=["_law_feed_here"]) λ_ _ _ _ _ _ us hl=>by obtain ⟨_,rfl⟩:=len1 hl;rfl
 have GQ16:=λbase=>fnc l w X G base a38 k38 b38 (aDj F38 T (GQ5 base) (GQ7 base));have F39:=cS (st:=sQ3) l39 c39 k39;have b39:=F39.binds (ps:=["_law_feed_here"]) λ_ _ _ _ _ _ us hl=>by obtain ⟨_,rfl⟩:=len1 hl;rfl
 have GQ3:=λbase=>fnc l w X G base a39 k39 b39 (oQ3 F39 T (GQ5 base) (GQ7 base));have F40:=cS (st:=sQ1) l40 c40 k40;have b40:=F40.binds (ps:=["_law_feed_here","_law_ways","_law_most"]) λ_ _ _ _ _ _ us hl=>by obtain ⟨_,_,_,rfl⟩:=xJ hl;rfl
 have GQ1:=λbase=>fnc l w X G base a40 k40 b40 (oQ1 F40 T (GQ3 base) (GQ15 base) (GQ16 base));have F41:=cS (st:=UL) l41 c41 k41;have b41:=F41.binds (ps:=["_law_trial_here","_law_way","_law_counts_here"]) λ_ _ _ _ _ _ us hl=>by obtain ⟨_,_,_,rfl⟩:=xJ hl;rfl
 have GQ21:=λbase=>fnc l w X G base a41 k41 b41 (aDe F41 T (GQ18 base));have F42:=cS (st:=sQ4) l42 c42 k42;have b42:=F42.binds (ps:=["_law_faces","_law_most"]) λ_ _ _ _ _ _ us hl=>by obtain ⟨_,_,rfl⟩:=mU hl;rfl
 have GQ4:=λbase=>fnc l w X G base a42 k42 b42 (oQ4 F42 T (GQ10 base));have F43:=cS (st:=GN) l43 c43 k43;have b43:=F43.binds (ps:=["_law_trial_here","_law_aim_here","_law_prices","_law_known","_law_counts_here"]) λ_ _ _ _ _ _ us hl=>by obtain ⟨_,_,_,_,_,rfl⟩:=aDq hl;rfl
 have GQ17:=λbase=>fnc l w X G base a43 k43 b43 (aDi F43 T (GQ21 base) (GQ18 base) (GQ19 base) (GQ10 base));have F44:=cS (st:=UK) l44 c44 k44;have b44:=F44.binds (ps:=["_law_trial_here","_law_aim_here","_law_prices"]) λ_ _ _ _ _ _ us hl=>by obtain ⟨_,_,_,rfl⟩:=xJ hl;rfl
 have GQ22:=λbase=>fnc l w X G base a44 k44 b44 (aDd F44 T (GQ4 base) (GQ17 base) (GQ2 base));have F45:=cS (st:=KY) l45 c45 k45;have b45:=F45.binds (ps:=["_law_trial_here","_law_aim_here","_law_rule"]) λ_ _ _ _ _ _ us hl=>by obtain ⟨_,_,_,rfl⟩:=xJ hl;rfl
 have GQ11:=λbase=>fnc l w X G base a45 k45 b45 (aDo F45 T (GQ18 base) (GQ12 base) (GQ9 base) (GQ21 base) (GQ10 base));have F46:=cS (st:=OL) l46 c46 k46;have b46:=F46.binds (ps:=["_law_trial_here","_law_aim_here","_law_rule","_law_prices"]) λ_ _ _ _ _ _ us hl=>by obtain ⟨_,_,_,_,rfl⟩:=aBY hl;rfl
 have GQ13:=λbase=>fnc l w X G base a46 k46 b46 (aDm F46 T (GQ11 base) (GQ12 base) (GQ18 base) (GQ19 base));have F47:=cS (st:=UQ) l47 c47 k47;have b47:=F47.binds (ps:=["_law_counts_here"]) λ_ _ _ _ _ _ us hl=>by obtain ⟨_,rfl⟩:=len1 hl;rfl
 have GQ14:=λbase=>fnc l w X G base a47 k47 b47 (aDl F47 T);have F48:=cS (st:=YN) l48 c48 k48;have b48:=F48.binds (ps:=["_law_rule","_law_faces","_law_ways","_law_most"]) λ_ _ _ _ _ _ us hl=>by obtain ⟨_,_,_,_,rfl⟩:=aBY hl;rfl
 have GQ8:=λbase=>fnc l w X G base a48 k48 b48 (oQ8 F48 T (GQ10 base) (GQ14 base));have F49:=cS (st:=OJ) l49 c49 k49;exact ⟨_,λs v=>.of_eq rfl,λbase _ _=>aC2 F49 T (GQ6 base) (GQ5 base) (GQ20 base) (GQ1 base) (GQ16 base) (GQ25 base) (GQ8 base) (GQ13 base) (GQ22 base)⟩
end Kw
namespace PySem.W.Fast
def tw4451927239539838192 := ()
def tw3818364907460766598 := ()
def tw1884864206602734485 := ()
def tw11941673759001371484 := ()
def tw6768538200370836619 := ()
def tw1915206638179686667 := ()
def tw13071516785085823823 := ()
def tw10359635894336150353 := ()
def tw11629004114032971631 := ()
def tw15443220199915305293 := ()
def tw7874525141179619919 := ()
def tw17340266795674575515 := ()
def tw15086163510207744985 := ()
def tw555471681327542186 := ()
def tw16400710254868752014 := ()
def tw7175204970446058368 := ()
def tw4965353607023555385 := ()
def tw5597922637464191903 := ()
def tw6048618446018644995 := ()
def tw6952209398055506547 := ()
def tw6554221221984641795 := ()
def tw561077931422960021 := ()
def tw5480095621225375063 := ()
def tw8797934752707947853 := ()
def tw6015091654538061536 := ()
def tw17394773976644410655 := ()
def tw13523698343151999706 := ()
def tw6954035366054435161 := ()
def tw7129054433916249947 := ()
def tw10940374452438333052 := ()
def tw3328716535840444709 := ()
def tw14324434762538793166 := ()
def tw647735067104116299:=()
def tw17486124784474008483:=()
def tw1719500191143304863:=()
def tw14450221198867074533:=()
def tw4984672182523082629:=()
def tw18291535956662166733:=()
def tw8006955253897501742:=()
def tw8651837601476049041:=()
def tw15867816728813035708:=()
def tw13770387013658503278:=()
def tw8139578387719936868:=()
def tw6233822398920211571:=()
def tw4130586016087309593:=()
def tw15328107527346382518:=()
def tw10868708890643859331:=()
def tw7342179281950630409:=()
def tw10254343518160071540:=()
def tw8724794586766970539:=()
def tw15397430094886924724:=()
def tw13529535148850560558:=()
def tw10972811346525591987:=()
def tw16402370833308325989:=()
def tw7036837871948527987:=()
def tw8611597371700930413:=()
def tw6564366047994941735:=()
end PySem.W.Fast
open PySem PySem.W PyProof.Rows
set_option maxRecDepth 100000 in
set_option maxHeartbeats 0 in
theorem PySem.Challenge.cw_earlystop_k47_best_rules_holds : PySem.Challenge.rw_earlystop_k47_best_rules.Holds := by
  w_on;o_law;k_head;(case hw=>w_witness2)
  k_fill
  refine L2.NF (l:=PySem.Challenge.rw_earlystop_k47_best_rules) (n:=63) (k:=10) (x := "_law_script") (CX:=L2.dP) (sp:=λK=>Kw.uE K) rfl Dd rfl ⟨rfl,Dd,Dd,rfl⟩ (λw h Y=>PySem.W.kIn_of Y) ?F (λK H a ns hl _ hS=>Kw.NW hS hl) (λ_ _ _ _ z=>z)
  case F =>
    intro w mg fa h KX G hmg
    refine' Kw.aA1 KX G hmg ?u_ONE ?u_NOUGHT ?u_Weighing ?u_LOOKS_ON ?mi_Weighing ?pg_Weighing ?hd_Weighing ?po_Weighing ?sa_Weighing ?n0_Weighing ?n1_Weighing ?n2_Weighing ?n3_Weighing ?n4_Weighing ?o_ONE ?o_NOUGHT ?a0 ?l0 ?c0 ?k0 ?a1 ?l1 ?c1 ?k1 ?a2 ?l2 ?c2 ?k2 ?a3 ?l3 ?c3 ?k3 ?a4 ?l4 ?c4 ?k4 ?a5 ?l5 ?c5 ?k5 ?a6 ?l6 ?c6 ?k6 ?a7 ?l7 ?c7 ?k7 ?a8 ?l8 ?c8 ?k8 ?a9 ?l9 ?c9 ?k9 ?a10 ?l10 ?c10 ?k10 ?a11 ?l11 ?c11 ?k11 ?a12 ?l12 ?c12 ?k12 ?a13 ?l13 ?c13 ?k13 ?a14 ?l14 ?c14 ?k14 ?a15 ?l15 ?c15 ?k15 ?a16 ?l16 ?c16 ?k16 ?a17 ?l17 ?c17 ?k17 ?a18 ?l18 ?c18 ?k18 ?a19 ?l19 ?c19 ?k19 ?fn19 ?kp19 ?a20 ?l20 ?c20 ?k20 ?a21 ?l21 ?c21 ?k21 ?a22 ?l22 ?c22 ?k22 ?a23 ?l23 ?c23 ?k23 ?a24 ?l24 ?c24 ?k24 ?a25 ?l25 ?c25 ?k25 ?a26 ?l26 ?c26 ?k26 ?a27 ?l27 ?c27 ?k27 ?a28 ?l28 ?c28 ?k28 ?a29 ?l29 ?c29 ?k29 ?a30 ?l30 ?c30 ?k30 ?a31 ?l31 ?c31 ?k31 ?a32 ?l32 ?c32 ?k32 ?a33 ?l33 ?c33 ?k33 ?a34 ?l34 ?c34 ?k34 ?a35 ?l35 ?c35 ?k35 ?a36 ?l36 ?c36 ?k36 ?a37 ?l37 ?c37 ?k37 ?a38 ?l38 ?c38 ?k38 ?a39 ?l39 ?c39 ?k39 ?a40 ?l40 ?c40 ?k40 ?a41 ?l41 ?c41 ?k41 ?a42 ?l42 ?c42 ?k42 ?a43 ?l43 ?c43 ?k43 ?a44 ?l44 ?c44 ?k44 ?a45 ?l45 ?c45 ?k45 ?a46 ?l46 ?c46 ?k46 ?a47 ?l47 ?c47 ?k47 ?a48 ?l48 ?c48 ?k48 ?a49 ?l49 ?c49 ?k49 ?z0 ?z1 ?z2 ?z3 ?z4 ?z5 ?z6 ?z7 ?z8 ?z9 ?z10 ?z11 ?z12
    (case u_ONE=>k_is);(case u_NOUGHT=>k_is);(case u_Weighing=>k_is);(case u_LOOKS_ON=>k_is);(case mi_Weighing=>k_is);(case pg_Weighing=>k_is);(case hd_Weighing=>k_is);(case po_Weighing=>k_is);(case sa_Weighing=>k_is);(case n0_Weighing=>k_is);(case n1_Weighing=>k_is);(case n2_Weighing=>k_is);(case n3_Weighing=>k_is);(case n4_Weighing=>k_is);(case o_ONE=>kernel_rfl);(case o_NOUGHT=>kernel_rfl);(case a0=>k_is);(case l0=>show _=_;k_is);(case c0=>k_is);(case k0=>k_is);(case a1=>k_is);(case l1=>show _=_;k_is);(case c1=>k_is);(case k1=>k_is);(case a2=>k_is);(case l2=>show _=_;k_is);(case c2=>k_is);(case k2=>k_is);(case a3=>k_is);(case l3=>show _=_;k_is);(case c3=>k_is);(case k3=>k_is);(case a4=>k_is);(case l4=>show _=_;k_is);(case c4=>k_is);(case k4=>k_is);(case a5=>k_is);(case l5=>show _=_;k_is);(case c5=>k_is);(case k5=>k_is);(case a6=>k_is);(case l6=>show _=_;k_is);(case c6=>k_is);(case k6=>k_is);(case a7=>k_is);(case l7=>show _=_;k_is);(case c7=>k_is);(case k7=>k_is);(case a8=>k_is);(case l8=>show _=_;k_is);(case c8=>k_is);(case k8=>k_is);(case a9=>k_is);(case l9=>show _=_;k_is);(case c9=>k_is);(case k9=>k_is);(case a10=>k_is);(case l10=>show _=_;k_is);(case c10=>k_is);(case k10=>k_is);(case a11=>k_is);(case l11=>show _=_;k_is);(case c11=>k_is);(case k11=>k_is);(case a12=>k_is);(case l12=>show _=_;k_is);(case c12=>k_is);(case k12=>k_is);(case a13=>k_is);(case l13=>show _=_;k_is);(case c13=>k_is);(case k13=>k_is);(case a14=>k_is);(case l14=>show _=_;k_is);(case c14=>k_is);(case k14=>k_is);(case a15=>k_is);(case l15=>show _=_;k_is);(case c15=>k_is);(case k15=>k_is);(case a16=>k_is);(case l16=>show _=_;k_is);(case c16=>k_is);(case k16=>k_is);(case a17=>k_is);(case l17=>show _=_;k_is);(case c17=>k_is);(case k17=>k_is);(case a18=>k_is);(case l18=>show _=_;k_is);(case c18=>k_is);(case k18=>k_is);(case a19=>k_is);(case l19=>show _=_;k_is);(case c19=>k_is);(case k19=>k_is);(case fn19=>k_is);(case kp19=>k_is);(case a20=>k_is);(case l20=>show _=_;k_is);(case c20=>k_is);(case k20=>k_is);(case a21=>k_is);(case l21=>show _=_;k_is);(case c21=>k_is);(case k21=>k_is);(case a22=>k_is);(case l22=>show _=_;k_is);(case c22=>k_is);(case k22=>k_is);(case a23=>k_is);(case l23=>show _=_;k_is);(case c23=>k_is);(case k23=>k_is);(case a24=>k_is);(case l24=>show _=_;k_is);(case c24=>k_is);(case k24=>k_is);(case a25=>k_is);(case l25=>show _=_;k_is);(case c25=>k_is);(case k25=>k_is);(case a26=>k_is);(case l26=>show _=_;k_is);(case c26=>k_is);(case k26=>k_is);(case a27=>k_is);(case l27=>show _=_;k_is);(case c27=>k_is);(case k27=>k_is);(case a28=>k_is);(case l28=>show _=_;k_is);(case c28=>k_is);(case k28=>k_is);(case a29=>k_is);(case l29=>show _=_;k_is);(case c29=>k_is);(case k29=>k_is);(case a30=>k_is);(case l30=>show _=_;k_is);(case c30=>k_is);(case k30=>k_is);(case a31=>k_is);(case l31=>show _=_;k_is);(case c31=>k_is);(case k31=>k_is);(case a32=>k_is);(case l32=>show _=_;k_is);(case c32=>k_is);(case k32=>k_is);(case a33=>k_is);(case l33=>show _=_;k_is);(case c33=>k_is);(case k33=>k_is);(case a34=>k_is);(case l34=>show _=_;k_is);(case c34=>k_is);(case k34=>k_is);(case a35=>k_is);(case l35=>show _=_;k_is);(case c35=>k_is);(case k35=>k_is);(case a36=>k_is);(case l36=>show _=_;k_is);(case c36=>k_is);(case k36=>k_is);(case a37=>k_is);(case l37=>show _=_;k_is);(case c37=>k_is);(case k37=>k_is);(case a38=>k_is);(case l38=>show _=_;k_is);(case c38=>k_is);(case k38=>k_is);(case a39=>k_is);(case l39=>show _=_;k_is);(case c39=>k_is);(case k39=>k_is);(case a40=>k_is);(case l40=>show _=_;k_is);(case c40=>k_is);(case k40=>k_is);(case a41=>k_is);(case l41=>show _=_;k_is);(case c41=>k_is);(case k41=>k_is);(case a42=>k_is);(case l42=>show _=_;k_is);(case c42=>k_is);(case k42=>k_is);(case a43=>k_is);(case l43=>show _=_;k_is);(case c43=>k_is);(case k43=>k_is);(case a44=>k_is);(case l44=>show _=_;k_is);(case c44=>k_is);(case k44=>k_is);(case a45=>k_is);(case l45=>show _=_;k_is);(case c45=>k_is);(case k45=>k_is);(case a46=>k_is);(case l46=>show _=_;k_is);(case c46=>k_is);(case k46=>k_is);(case a47=>k_is);(case l47=>show _=_;k_is);(case c47=>k_is);(case k47=>k_is);(case a48=>k_is);(case l48=>show _=_;k_is);(case c48=>k_is);(case k48=>k_is);(case a49=>k_is);(case l49=>show _=_;k_is);(case c49=>k_is);(case k49=>k_is);(case z0=>k_is);(case z1=>k_is);(case z2=>k_is);(case z3=>k_is);(case z4=>k_is);(case z5=>k_is);(case z6=>k_is);(case z7=>k_is);(case z8=>k_is);(case z9=>k_is);(case z10=>k_is);(case z11=>k_is);(case z12=>k_is)
